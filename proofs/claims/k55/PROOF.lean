import PyProof.Rows.All
import Wide.All
import OpenK.AllK
import Wide.FinOn
import Lean
import PyProof.EqAt
import PyProof.EqKinds
import PyProof.TupleCall
import KE.KDictOf
import KE.KLam
import KE.KNest
import KE.KNestM
import KE.KRevIter
import KE.KSortKey
import KE.KSortTup
import KE.KTryMore
import OpenK.KCls
import PyProof.AttrMissHeap
import PyProof.Draws
import PyProof.EnumMake
import PyProof.EnumStmt
import PyProof.FactsAll.list
import PyProof.InstStoreFacts
import PyProof.IsiH_list
import PyProof.ListNew
import PyProof.ListRange
import PyProof.ObjNew
import PyProof.Rows.StrItems
import PyProof.Rows.StrSplitAre
import PyProof.SliceList
import PyProof.StrBlockL
import PyProof.StrCalls2
import PyProof.StrLawsChain
import PyProof.StrLawsIn
import PyProof.WalksEnum
import PyProof.ZipIter
import PySem.Challenge.RW_tightwood_k55_whole_each_stretch_a_wood
set_option Elab.async false
set_option linter.all false
set_option maxRecDepth 100000
set_option maxHeartbeats 4000000
namespace L2
open PySem PySem.Spec PyProof.Rows
abbrev Key:=Sum Int Str
def fY:Key->Value->Bool
 | .inl k,v=>Value.isInt k v
 | .inr x,v=>Value.isStrOf x v
def yI (w:World):Key->Int
 | .inl k=>hashInt k
 | .inr x=>hashStr w x
theorem Ci:∀ {k:Key}{v:Value},fY k v=true->(∃ i t,k=Sum.inl i/\v=Value.int i t)\/(∃ x t,k=Sum.inr x/\v=Value.str x t)
 | .inl i,v,h=>by
  obtain ⟨t,e⟩:=Value.isInt_shape (k:=i) (v:=v) h
  exact .inl ⟨i,t,rfl,e⟩
 | .inr x,v,h=>by
  obtain ⟨t,e⟩:=Value.isStrOf_shape (x:=x) (v:=v) h
  exact .inr ⟨x,t,rfl,e⟩
theorem gR (i:Int)(t:Tok):fY (.inl i) (.int i t)=true:=by simp [fY,Value.isInt]
theorem uD (a b:Int):decide ((Sum.inl a:Key)=Sum.inl b)=(a==b):=by
 by_cases e:a=b
 ·subst e;simp
 ·have h:¬ (Sum.inl a:Key)=Sum.inl b:=fun q=>e (Sum.inl.inj q)
  rw [decide_eq_false h]
  exact (beq_eq_false_iff_ne.mpr e).symm
theorem uW (a b:Str):decide ((Sum.inr a:Key)=Sum.inr b)=decide (a=b):=by
 by_cases e:a=b
 ·subst e;simp
 ·have h:¬ (Sum.inr a:Key)=Sum.inr b:=fun q=>e (Sum.inr.inj q)
  rw [decide_eq_false h,decide_eq_false e]
theorem tL (a:Int)(b:Str):decide ((Sum.inl a:Key)=Sum.inr b)=false:=decide_eq_false (fun q=>nomatch q)
theorem tE (a:Str)(b:Int):decide ((Sum.inr a:Key)=Sum.inl b)=false:=decide_eq_false (fun q=>nomatch q)
def Gz (prog:Program)(w:World):PySem.KeyKind prog w Key where
 is:=fY
 hash:=yI w
 inj:=fun v a b ha hb=>by
  rcases Ci ha with ⟨i,t,rfl,rfl⟩ | ⟨x,t,rfl,rfl⟩
  ·rcases Ci hb with ⟨j,u,rfl,e⟩ | ⟨y,u,rfl,e⟩
   ·injection e with e1 _;rw [e1]
   ·exact nomatch e
  ·rcases Ci hb with ⟨j,u,rfl,e⟩ | ⟨y,u,rfl,e⟩
   ·exact nomatch e
   ·injection e with e1 _;rw [e1]
 byValue:=fun k v h=>by
  rcases Ci h with ⟨i,t,rfl,rfl⟩ | ⟨x,t,rfl,rfl⟩<;>rfl
 pyHash:=fun hv h=>by
  rcases Ci hv with ⟨i,t,rfl,rfl⟩ | ⟨x,t,rfl,rfl⟩
  ·exact wpAny_pyHash_int h
  ·exact wpAny_pyHash_str h
 eqBool:=fun hu hv h=>by
  rcases Ci hu with ⟨i,t,rfl,rfl⟩ | ⟨x,t,rfl,rfl⟩
  ·rcases Ci hv with ⟨j,u,rfl,rfl⟩ | ⟨y,u,rfl,rfl⟩
   ·rw [uD] at h;exact wpAny_eqBool_int h
   ·rw [tL] at h;exact SeqAt.EqAt.int_str i t y u _ _ _ _ h
  ·rcases Ci hv with ⟨j,u,rfl,rfl⟩ | ⟨y,u,rfl,rfl⟩
   ·rw [tE] at h;exact SeqAt.EqAt.str_int x t j u _ _ _ _ h
   ·rw [uW] at h;exact wpAny_eqBool_str h
 «strs»:=fun k x t v h=>by
  rcases Ci h with ⟨i,u,rfl,e⟩ | ⟨y,u,rfl,e⟩
  ·exact nomatch e
  ·injection e with e1 _
   subst e1
   cases v<;>rfl
theorem bK (prog:Program)(w:World)(i:Int)(t:Tok):(Gz prog w).is (.inl i) (.int i t)=true:=gR i t
inductive V where
 | non | bl (b:Bool) | int (i:Int) | str (x:Str) | byt (b:Array UInt8) | flt (b:UInt64) | ref (a:Addr) | ty (n:String)
 deriving DecidableEq
def Bk:V->Value->Prop
 | .non,u=>u=Value.none
 | .bl b,u=>u=Value.bool b
 | .int i,u=>∃ t,u=Value.int i t
 | .str x,u=>∃ t,u=Value.str x t
 | .byt b,u=>∃ t,u=Value.bytes b t
 | .flt b,u=>∃ t,u=Value.float b t
 | .ref a,u=>u=Value.ref a
 | .ty n,u=>u=Value.type n
abbrev A6:List V->List Value->Prop:=Paired Bk
theorem A6.length {xs:List V}{us:List Value}(r:A6 xs us):xs.length=us.length:=Paired.length r
theorem A6.get:∀ {xs:List V}{us:List Value}{i:Nat}{x:V},A6 xs us->xs[i]?=some x->∃ u,us[i]?=some u/\Bk x u
 | _,_,_,_,.nil,e=>by simp at e
 | _,_,0,_,.cons r _,e=>by simp at e;subst e;exact ⟨_,rfl,r⟩
 | _,_,i+1,x,.cons _ t,e=>by
  obtain ⟨u,h1,h2⟩:=A6.get (i:=i) (x:=x) t (by simpa using e)
  exact ⟨u,by simpa using h1,h2⟩
theorem A6.set {x:V}{u:Value}(r:Bk x u):∀ {xs:List V} {us:List Value} (i:Nat),A6 xs us->A6 (xs.set i x) (us.set i u)
 | _,_,_,.nil=>.nil
 | _,_,0,.cons _ t=>.cons r t
 | _,_,i+1,.cons q t=>.cons q (A6.set r i t)
theorem A6.append:∀ {xs ys:List V}{us ws:List Value},A6 xs us->A6 ys ws->A6 (xs++ys) (us++ws)
 | _,_,_,_,.nil,s=>s
 | _,_,_,_,.cons r t,s=>.cons r (A6.append t s)
theorem A6.take:∀ {xs:List V}{us:List Value}(n:Nat),A6 xs us->A6 (xs.take n) (us.take n)
 | _,_,0,_=>.nil
 | _,_,_+1,.nil=>.nil
 | _,_,n+1,.cons r t=>.cons r (A6.take n t)
theorem A6.drop:∀ {xs:List V}{us:List Value}(n:Nat),A6 xs us->A6 (xs.drop n) (us.drop n)
 | _,_,0,r=>r
 | _,_,_+1,.nil=>.nil
 | _,_,n+1,.cons _ t=>A6.drop n t
def Tn:Option V->Option Value->Prop
 | some v,some u=>Bk v u
 | none,none=>True
 | _,_=>False
def KV {κ:Type}:List (κ×V)->List (κ×Value)->Prop:=Paired fun (p:κ×V) (q:κ×Value)=>p.1=q.1/\Bk p.2 q.2
def kV:Key->V
 | .inl i=>.int i
 | .inr x=>.str x
inductive HO where
  | lst (xs:List V)
  | tup (xs:List V)
  | dK (kvs:List (Key×V)) | dT (kvs:List (List Key×V))
  | set (S:Int->Bool) (n:Nat)
  | ins (C dx:Addr) (fs:List (Str×V))
  | own (x:Addr)
  | xd (fs:List (Str×V))
  | met (f x:Addr)
  | rng (lo hi:Int)
  | frz (o:Obj) (u:HO)
  | tbl (ps:Array Value)
  | ext (φ:Heap->Prop)
abbrev Hp:=Addr->Option HO
def upd (H:Hp)(a:Addr)(o:HO):Hp:=fun b=>if b=a then some o else H b
theorem Ac {H:Hp}{a:Addr}{o:HO}:upd H a o a=some o:=by unfold upd;rw [if_pos rfl]
theorem Ap {H:Hp}{a b:Addr}{o:HO}(h:b≠a):upd H a o b=H b:=by unfold upd;rw [if_neg h]
theorem Pu {H:Hp}{a:Addr}{o u:HO}:upd (upd H a o) a u=upd H a u:=by
 funext b;unfold upd;split<;>rfl
theorem Rt {H:Hp}{a b:Addr}{o u:HO}(h:H a=some o)(h':H b=some u)(d:o≠u):a≠b:=by
 intro e;subst e;rw [h] at h';exact d (Option.some.inj h')
theorem Ar {H:Hp}{a b:Addr}{o:HO}(h:H a=some o)(h':H b=none):a≠b:=by
 intro e;subst e;rw [h] at h';cases h'
section
variable (P:Program) (w:World)
def Eh (H:Hp)(h:Heap)(a:Addr):HO->Prop
 | .lst xs=>xs.length<=sizeLine/\∃ (its:List Value) (n:Nat),A6 xs its/\h.get? a=some { cls:=.type "list",data:=.seq its.toArray n }
 | .tup xs=>xs.length<=sizeLine/\∃ its:List Value,A6 xs its/\IsTup h a its.toArray
 | .dK kvs=>kvs.length<=sizeLine/\(a==sysModules)=false/\∃ vs,KV kvs vs/\h.DictOf (Gz P w) a vs
 | .dT kvs=>kvs.length<=sizeLine/\(a==sysModules)=false/\∃ xs:List (List Key×Addr×Value),
   Paired (fun (p:List Key×V) (q:List Key×Addr×Value)=>p.1=q.1/\H q.2.1=some (.tup (p.1.map kV))/\Bk p.2 q.2.2) kvs xs /\
   ∃ o es ep,h.get? a=some o/\o.ExactDict/\o.data=.dict es ep/\es.toList=xs.map (entryOfKey (tupleKind (Gz P w)))/\(xs.map (·.1)).Nodup
 | .set S n=>h.SetOf (intKind P w) a S n
 | .ins C dx fs=>H dx=some (.own a)/\fs.length<=1000/\dx≠a/\h.get? a=some (PySem.W.instObj C dx) /\
   ∃ mA,h.Ns1 dx mA/\(∀ f,Tn (fs.lookup f) (mA f))/\PySem.Within mA (fs.map (·.1))
 | .own _=>∃ o,h.get? a=some o
 | .xd fs=>∃ mA,h.Ns1 a mA/\∀ f,Tn (fs.lookup f) (mA f)
 | .rng lo hi=>∃ t u v,h.get? a=some { cls:=.type "range",data:=.fields #[.int lo t,.int hi u,.int 1 v] }
 | .frz o u=>h.get? a=some o/\Eh H h a u
 | .tbl ps=>h.get? a=some { cls:=.none,data:=.fields ps }
 | .met f x=>h.get? a=some (PySem.W.methodObj (.ref f) (.ref x))
 | .ext φ=>φ h/\(∃ o,h.get? a=some o)/\∀ h1 h2:Heap,φ h1->(∀ o,h1.get? a=some o->h2.get? a=some o)->φ h2
def HOk (H:Hp)(h:Heap):Prop:=∀ a o,H a=some o->Eh P w H h a o
end
section
variable {P:Program} {w:World} {H H':Hp} {h h':Heap} {a:Addr} {o:HO}
theorem Eh.lt (x:Eh P w H h a o):a<h.objs.size:=by
 cases o with
 | lst xs=>obtain ⟨_,_,_,_,e⟩:=x;exact Heap.lt_size e
 | tup xs=>obtain ⟨_,_,_,p⟩:=x;exact p.lt
 | dK kvs=>obtain ⟨_,_,_,_,o,_,_,e,_⟩:=x;exact Heap.lt_size e
 | dT kvs=>obtain ⟨_,_,_,_,o,_,_,e,_⟩:=x;exact Heap.lt_size e
 | set S n=>obtain ⟨o,_,_,_,e,_⟩:=x;exact Heap.lt_size e
 | ins C dx fs=>obtain ⟨_,_,_,e,_⟩:=x;exact Heap.lt_size e
 | own y=>obtain ⟨_,e⟩:=x;exact Heap.lt_size e
 | xd fs=>obtain ⟨_,⟨_,_,_,e,_⟩,_⟩:=x;exact Heap.lt_size e
 | rng lo hi=>obtain ⟨_,_,_,e⟩:=x;exact Heap.lt_size e
 | frz ob u=>obtain ⟨e,_⟩:=x;exact Heap.lt_size e
 | tbl ps=>exact Heap.lt_size (show h.get? a=some _ from x)
 | met f y=>exact Heap.lt_size (show h.get? a=some _ from x)
 | ext φ=>obtain ⟨_,⟨_,e⟩,_⟩:=x;exact Heap.lt_size e
theorem Paired.mapP {α β:Type}{F G:α->β->Prop}:∀ {l₁:List α} {l₂:List β},Paired F l₁ l₂->(∀ a b,F a b->G a b)->Paired G l₁ l₂
 | _,_,.nil,_=>.nil
 | _,_,.cons r t,f=>.cons (f _ _ r) (Paired.mapP t f)
theorem Eh.stay (x:Eh P w H h a o)(k:∀ b u,(b=a\/H b=some (.own a))->h.get? b=some u->h'.get? b=some u)
  (ho:∀ b,H b=some (.own a)->H' b=some (.own a))(ht:∀ b xs,H b=some (.tup xs)->H' b=some (.tup xs)):Eh P w H' h' a o:=by
 induction o with
 | lst xs=>obtain ⟨z,its,n,r,e⟩:=x;exact ⟨z,its,n,r,k _ _ (.inl rfl) e⟩
 | tup xs=>obtain ⟨z,its,r,ob,e,c⟩:=x;exact ⟨z,its,r,ob,k _ _ (.inl rfl) e,c⟩
 | dK kvs=>obtain ⟨z,y,vs,r,ob,es,ep,e,c⟩:=x;exact ⟨z,y,vs,r,ob,es,ep,k _ _ (.inl rfl) e,c⟩
 | dT kvs =>
  obtain ⟨z,y,xs,r,ob,es,ep,e,c⟩:=x
  exact ⟨z,y,xs,Paired.mapP r fun p q z=>⟨z.1,ht _ _ z.2.1,z.2.2⟩,ob,es,ep,k _ _ (.inl rfl) e,c⟩
 | set S n=>obtain ⟨ob,es,ep,t,e,c⟩:=x;exact ⟨ob,es,ep,t,k _ _ (.inl rfl) e,c⟩
 | ins C dx fs =>
  obtain ⟨d,z,ne,e,mA,⟨od,es,ep,e2,c⟩,r⟩:=x
  exact ⟨ho _ d,z,ne,k _ _ (.inl rfl) e,mA,⟨od,es,ep,k _ _ (.inr d) e2,c⟩,r⟩
 | own y=>obtain ⟨ob,e⟩:=x;exact ⟨ob,k _ _ (.inl rfl) e⟩
 | xd fs=>obtain ⟨mA,⟨od,es,ep,e,c⟩,r⟩:=x;exact ⟨mA,⟨od,es,ep,k _ _ (.inl rfl) e,c⟩,r⟩
 | rng lo hi=>obtain ⟨t,u,v,e⟩:=x;exact ⟨t,u,v,k _ _ (.inl rfl) e⟩
 | frz ob u ih=>obtain ⟨e,q⟩:=x;exact ⟨k _ _ (.inl rfl) e,ih q⟩
 | tbl ps =>
  have e:h.get? a=some { cls:=.none,data:=.fields ps }:=x
  show h'.get? a=some { cls:=.none,data:=.fields ps }
  exact k a _ (.inl rfl) e
 | met f y =>
  have e:h.get? a=some (PySem.W.methodObj (.ref f) (.ref y)):=x
  show h'.get? a=some (PySem.W.methodObj (.ref f) (.ref y))
  exact k a _ (.inl rfl) e
 | ext φ=>obtain ⟨p,⟨o,e⟩,st⟩:=x;exact ⟨st _ _ p fun o q=>k _ _ (.inl rfl) q,⟨o,k _ _ (.inl rfl) e⟩,st⟩
theorem HOk.lt (x:HOk P w H h)(e:H a=some o):a<h.objs.size:=(x a o e).lt
theorem HOk.fresh (x:HOk P w H h)(e:h.objs.size<=a):H a=none:=by
 cases q:H a with
 | none=>rfl
 | some u=>exact absurd (Nat.lt_of_lt_of_le (x.lt q) e) (Nat.lt_irrefl _)
theorem HOk.kept (x:HOk P w H h)(k:∀ b u,h.get? b=some u->h'.get? b=some u):HOk P w H h':=fun a o e =>
 (x a o e).stay (fun b u _ q=>k b u q) (fun _ q=>q) fun _ _ q=>q
theorem HOk.laid (x:HOk P w H h)(k:∀ b u,h.get? b=some u->h'.get? b=some u)(hp:h.objs.size<=a)(new:Eh P w (upd H a o) h' a o):HOk P w (upd H a o) h':=fun b u e=>by
 have hn:=x.fresh hp
 by_cases hb:b=a
 ·subst hb;rw [Ac] at e;cases e;exact new
 ·rw [Ap hb] at e
  exact (x b u e).stay (fun c v _ q=>k c v q) (fun c q=>by rw [Ap (Ar q hn)];exact q) fun c xs q=>by rw [Ap (Ar q hn)];exact q
end
def Rd (H:Hp)(a:Addr)(u:HO):Prop:=H a=some u\/∃ o,H a=some (.frz o u)
theorem Rd.ok {P:Program}{w:World}{H:Hp}{h:Heap}{a:Addr}{u:HO}(r:Rd H a u)(x:HOk P w H h):Eh P w H h a u:=by
 rcases r with r | ⟨o,r⟩
 ·exact x a u r
 ·obtain ⟨_,q⟩:=x a _ r
  exact q
def Mut:Option HO->Prop
 | some (.lst _)=>True
 | some (.dK _)=>True
 | some (.dT _)=>True
 | some (.set _ _)=>True
 | some (.ins _ _ _)=>True
 | some (.ext _)=>True
 | _=>False
section
variable {P:Program} {w:World} {H:Hp} {h h':Heap} {x e:Addr} {o':HO}
theorem HOk.write (ok:HOk P w H h)(mu:Mut (H x))(he:e=x\/H e=some (.own x))(k:∀ b u,b≠e->h.get? b=some u->h'.get? b=some u)(heo:∃ u,h'.get? e=some u)
  (new:Eh P w (upd H x o') h' x o'):HOk P w (upd H x o') h':=fun b u q=>by
 have nown:∀ c y,H c=some (.own y)->c≠x:=fun c y r z=>by subst z;rw [r] at mu;exact mu
 have ntup:∀ c xs,H c=some (.tup xs)->c≠x:=fun c xs r z=>by subst z;rw [r] at mu;exact mu
 by_cases hb:b=x
 ·subst hb;rw [Ac] at q;cases q;exact new
 ·rw [Ap hb] at q
  by_cases hbe:b=e
  ·have q':H b=some (.own x):=by
    rcases he with z | z
    ·exact absurd (hbe.trans z) hb
    ·rw [hbe];exact z
   rw [q] at q';cases q'
   obtain ⟨v,hv⟩:=heo
   exact ⟨v,by rw [hbe];exact hv⟩
  ·refine (ok b u q).stay (fun c v hc r=>k c v ?_ r) (fun c r=>by rw [Ap (nown c b r)];exact r) fun c xs r=>by rw [Ap (ntup c xs r)];exact r
   rcases hc with rfl | hc
   ·exact hbe
   ·rintro rfl
    rcases he with z | z
    ·exact nown c b hc z
    ·rw [hc] at z;cases z;exact hb rfl
end
structure Un (fs ex:List Addr) (H H':Hp) (h h':Heap):Prop where
 keep:∀ b o,h.get? b=some o->H b=none->b∉fs->b∉ex->h'.get? b=some o
 slot:∀ b o,h.get? b=some o->H b=none->b∈fs->b∉ex->∃ sl,h'.get? b=some { o with slots:=sl }
 free:∀ b o,h.get? b=some o->H b=none->b∉ex->H' b=none
 there:∀ b o,h.get? b=some o->b∉ex->∃ o',h'.get? b=some o'
 tups:∀ b xs,H b=some (.tup xs)->H' b=some (.tup xs)
 frzs:∀ b o u,H b=some (.frz o u)->H' b=some (.frz o u)
 tbls:∀ b ps,H b=some (.tbl ps)->∃ more,H' b=some (.tbl (ps++more))
section
variable {fs fs' ex ex':List Addr} {H H1 H2:Hp} {h h1 h2 h':Heap} {a x e:Addr} {o:HO}
theorem Un.any (u:Un fs ex H H1 h h1){b:Addr}{ob:Obj}(q:h.get? b=some ob)(n:H b=none)(hx:b∉ex):∃ sl,h1.get? b=some { ob with slots:=sl }:=by
 by_cases hb:b∈fs
 ·exact u.slot b ob q n hb hx
 ·exact ⟨ob.slots,u.keep b ob q n hb hx⟩
theorem Un.trans (a:Un fs ex H H1 h h1)(b:Un fs ex H1 H2 h1 h2):Un fs ex H H2 h h2 where
 keep:=fun c ob q n hc hx=>b.keep c ob (a.keep c ob q n hc hx) (a.free c ob q n hx) hc hx
 slot:=fun c ob q n hc hx=>by
  obtain ⟨sl,e1⟩:=a.slot c ob q n hc hx
  obtain ⟨sl',e2⟩:=b.slot c _ e1 (a.free c ob q n hx) hc hx
  exact ⟨sl',e2⟩
 free:=fun c ob q n hx=>by
  obtain ⟨o',e1⟩:=a.there c ob q hx
  exact b.free c o' e1 (a.free c ob q n hx) hx
 there:=fun c ob q hx=>by
  obtain ⟨o',e1⟩:=a.there c ob q hx
  exact b.there c o' e1 hx
 tups:=fun c xs q=>b.tups c xs (a.tups c xs q)
 frzs:=fun c ob xs q=>b.frzs c ob xs (a.frzs c ob xs q)
 tbls:=fun c ps q=>by
  obtain ⟨m1,e1⟩:=a.tbls c ps q
  obtain ⟨m2,e2⟩:=b.tbls c _ e1
  exact ⟨m1++m2,by rw [e2,Array.append_assoc]⟩
theorem Un.kept (k:∀ b u,h.get? b=some u->h'.get? b=some u):Un fs ex H H h h' :=
 ⟨fun b ob q _ _ _=>k b ob q,fun b ob q _ _ _=>⟨ob.slots,k b ob q⟩,fun _ _ _ n _=>n,fun b ob q _=>⟨ob,k b ob q⟩,fun _ _ q=>q,fun _ _ _ q=>q,fun _ ps q=>⟨#[],by rw [q];simp⟩⟩
theorem Un.refl:Un fs ex H H h h:=Un.kept fun _ _ q=>q
theorem Un.laid (k:∀ b u,h.get? b=some u->h'.get? b=some u)(hp:h.objs.size<=a)(hn:H a=none):Un fs ex H (upd H a o) h h' where
 keep:=fun b u q _ _ _=>k b u q
 slot:=fun b u q _ _ _=>⟨u.slots,k b u q⟩
 free:=fun b u q n _=>by rw [Ap (Nat.ne_of_lt (Nat.lt_of_lt_of_le (Heap.lt_size q) hp))];exact n
 there:=fun b u q _=>⟨u,k b u q⟩
 tups:=fun b xs q=>by rw [Ap (Ar q hn)];exact q
 frzs:=fun b u xs q=>by rw [Ap (Ar q hn)];exact q
 tbls:=fun b ps q=>⟨#[],by rw [Ap (Ar q hn),q];simp⟩
theorem Un.write (mu:Mut (H x))(he:e=x\/H e=some (.own x))(k:∀ b u,b≠e->h.get? b=some u->h'.get? b=some u)(heo:∃ u,h'.get? e=some u):Un fs ex H (upd H x o) h h':=by
 have hx:∀ b,H b=none->b≠x:=fun b n z=>by subst z;rw [n] at mu;exact mu
 have hb:∀ b,H b=none->b≠e:=fun b n z=>by
  subst z
  rcases he with r | r
  ·exact hx b n r
  ·rw [n] at r;cases r
 have hm:∀ b u,H b=some u->¬ Mut (some u)->b≠x:=fun b u q nm z=>by subst z;rw [q] at mu;exact nm mu
 refine ⟨fun b u q n _ _=>k b u (hb b n) q,fun b u q n _ _=>⟨u.slots,k b u (hb b n) q⟩,fun b u q n _=>by rw [Ap (hx b n)];exact n,fun b u q _=>?_,
  fun b xs q=>by rw [Ap (hm b _ q fun z=>z)];exact q,fun b u xs q=>by rw [Ap (hm b _ q fun z=>z)];exact q,fun b ps q=>⟨#[],by rw [Ap (hm b _ q fun z=>z),q];simp⟩⟩
 by_cases hbe:b=e
 ·subst hbe;exact heo
 ·exact ⟨u,k b u hbe q⟩
end
def trk (h:Heap)(H:Hp):List Addr:=(List.range h.objs.size).filter fun a=>(H a).isSome
def Y8 (h:Heap)(H:Hp):Heap:=PySem.W.hideAll h (trk h H)
theorem iG (h:Heap)(H:Hp):(Y8 h H).objs.size=h.objs.size:=PySem.W.hideAll_size _ _
theorem R6 {h:Heap}{H:Hp}{b:Addr}{o:Obj}(e:h.get? b=some o)(n:H b=none):(Y8 h H).get? b=some o :=
 PySem.W.hideAll_get _ e fun hm=>by
  have q:(H b).isSome=true:=(List.mem_filter.mp hm).2
  rw [n] at q;simp at q
theorem oO {h:Heap}{H:Hp}{b:Addr}{o:Obj}(e:(Y8 h H).get? b=some o):h.get? b=some o/\H b=none:=by
 have e':h.get? b=some o:=PySem.W.of_hideAll (trk h H) e
 refine ⟨e',?_⟩
 cases q:H b with
 | none=>rfl
 | some x =>
  have hm:b∈trk h H:=List.mem_filter.mpr ⟨List.mem_range.mpr (Heap.lt_size e'),by simp [q]⟩
  have z:(Y8 h H).get? b=none:=PySem.W.hideAll_none (trk h H) hm
  rw [z] at e;cases e
structure Mod (K:PySem.W.Frag) (mg:Str->Option Value) (base:Heap):Prop where
 kin:K.In base
 glob:base.Ns mainGlobals mg
 blt:∃ mb,base.Ns builtinsNs mb/\∀ x:Str,x≠"__name__"->mb x=bootBuiltins x
 nolimit:base.NoLimit
structure Cx where
 prog:Program
 w:World
 K:PySem.W.Frag
 mg:Str->Option Value
 base:Heap
 A:Around
 N:List Str
 s₀:Shared
 H₀:Hp
 env:Env
 outer:List Env
 stack:List Env
 ex:List Addr
 fn:Str->Bool
 calm:Bool
 pn:List (Addr×Obj)
 xe:Value->Shared->Prop
def frs (l:List Env):List Addr:=l.filterMap (·.frame)
abbrev Cx.fs (X:Cx):List Addr:=frs X.outer
def Vis (sc:Scope)(x:Str):Prop:=sc.names.lookup x=some .local\/sc.names.lookup x=some .cell\/sc.names.lookup x=some .free
def Loc (sc:Scope)(x:Str):Prop:=sc.names.lookup x=some .local\/sc.names.lookup x=some .cell
def yR (env:Env)(h:Heap)(m:Str->Option Value)(x:Str)(u:Value):Prop :=
 (env.kindOf x=some .local/\m x=some u)\/((env.kindOf x=some .cell\/env.kindOf x=some .free)/\∃ c,env.cells.lookup x=some c/\h.IsCell c (some u))
structure Cx.Ok (X:Cx):Prop where
 mod:Mod X.K X.mg X.base
 kind:X.env.scope.kind=.function
 glob:X.env.globals=mainGlobals
 blt:X.env.builtins=builtinsNs
 above:X.s₀.heap.objs.size<=X.env.locals
 inj:∀ x y c,X.env.cells.lookup x=some c->X.env.cells.lookup y=some c->x=y
 has:∀ x,(X.env.kindOf x=some .cell\/X.env.kindOf x=some .free)->∃ c,X.env.cells.lookup x=some c
 cab:∀ x c,X.fn x=true->X.env.cells.lookup x=some c->X.s₀.heap.objs.size<=c
 hd:X.calm=true->X.A.handled=none
 frames:X.A.frames=some X.stack
 stk:X.stack=X.outer\/(X.stack=X.env::X.outer/\X.env.frame=some X.env.locals)
 exf:∀ b∈X.ex,b≠X.env.locals/\∀ x c,X.env.cells.lookup x=some c->c≠b
 bs:∀ b o,X.base.get? b=some o->X.s₀.heap.get? b=some o/\X.H₀ b=none
 bsz:X.base.objs.size<=X.s₀.heap.objs.size
 noex:∀ b o,X.base.get? b=some o->b∉X.ex
 exfs:∀ b∈X.ex,b∉X.fs
 funs:X.s₀.heap.FunFrames X.base X.outer
 frf:∀ b∈X.fs,X.H₀ b=none
structure Inv (X:Cx) (pins:List (Addr×Obj)) (σ:List (Option V)) (H:Hp) (s:Shared):Prop where
 ok:X.Ok
 os:s.os=X.s₀.os
 bare:AllBare s.gens
 base:Un X.fs X.ex X.H₀ H X.s₀.heap s.heap
 loc:∃ m,s.heap.Ns X.env.locals m/\∀ (i:Nat) (x:Str) (v:V),X.N[i]?=some x->σ[i]?=some (some v)->Vis X.env.scope x->∃ u,Bk v u/\yR X.env s.heap m x u
 cell:∀ x c,X.env.cells.lookup x=some c->∃ v,s.heap.IsCell c v
 free:H X.env.locals=none
 freeC:∀ x c,X.env.cells.lookup x=some c->H c=none
 pin:∀ p∈X.pn++pins,s.heap.get? p.1=some p.2/\H p.1=none/\p.1≠X.env.locals/\p.1∉X.fs/\∀ v,p.2.data≠.cell v
 hok:HOk X.prog X.w H s.heap
 len:σ.length=X.N.length
section
variable {X:Cx} {pins:List (Addr×Obj)} {σ:List (Option V)} {H H':Hp} {s:Shared} {h':Heap}
theorem Cx.Ok.nofr (ok:X.Ok){b:Addr}{o:Obj}(e:X.base.get? b=some o):b∉X.fs:=fun hb=>by
 have:=(ok.funs.mem hb).1
 rw [e] at this;cases this
theorem Inv.bs (I:Inv X pins σ H s):∀ b o,X.base.get? b=some o->s.heap.get? b=some o/\H b=none:=fun b o e =>
 ⟨I.base.keep b o (I.ok.bs b o e).1 (I.ok.bs b o e).2 (I.ok.nofr e) (I.ok.noex b o e),I.base.free b o (I.ok.bs b o e).1 (I.ok.bs b o e).2 (I.ok.noex b o e)⟩
theorem Inv.bk (I:Inv X pins σ H s):∀ b o,X.base.get? b=some o->s.heap.get? b=some o:=fun b o e=>(I.bs b o e).1
theorem Inv.mod (I:Inv X pins σ H s):Mod X.K X.mg X.base:=I.ok.mod
theorem Inv.kIn (I:Inv X pins σ H s):X.K.In s.heap:=I.ok.mod.kin.keeps I.bk
theorem Inv.fr (I:Inv X pins σ H s):∃ m,Fr X.base X.env.locals s.heap m :=
 let ⟨m,hn,_⟩:=I.loc
 ⟨m,hn,I.bk,Nat.le_trans I.ok.bsz I.ok.above⟩
theorem Inv.lt (I:Inv X pins σ H s):X.env.locals<s.heap.objs.size:=let ⟨_,hn,_⟩:=I.loc;hn.lt
theorem Inv.sz (I:Inv X pins σ H s):X.s₀.heap.objs.size<=s.heap.objs.size:=Nat.le_trans I.ok.above (Nat.le_of_lt I.lt)
theorem Inv.nofs (I:Inv X pins σ H s){a:Addr}(h:s.heap.objs.size<=a):a∉X.fs:=fun hb=>by
 obtain ⟨_,o,ho,_⟩:=I.ok.funs.mem hb
 exact absurd (Nat.lt_of_lt_of_le (Heap.lt_size ho) (Nat.le_trans I.sz h)) (Nat.lt_irrefl _)
theorem Inv.cne (I:Inv X pins σ H s):∀ x c,X.env.cells.lookup x=some c->c≠X.env.locals:=fun x c e z=>by
 obtain ⟨v,o,ho,hd⟩:=I.cell x c e
 obtain ⟨m,⟨o',es,ep,ho',hd',_⟩,_⟩:=I.loc
 rw [z,ho'] at ho;cases ho;rw [hd'] at hd;cases hd
theorem Inv.funs (I:Inv X pins σ H s):s.heap.FunFrames X.base X.outer:=by
 have all:∀ (l:List Env),(∀ b∈frs l,b∈X.fs)->X.s₀.heap.FunFrames X.base l->s.heap.FunFrames X.base l:=by
  intro l
  induction l with
  | nil=>intro _ _;trivial
  | cons env r ih =>
   intro hs hl
   obtain ⟨hk,⟨L,o,hf,hn,ho,hd⟩,hr⟩:=hl
   have hL:L∈X.fs:=hs L (by unfold frs;rw [List.filterMap_cons,hf];exact List.mem_cons_self)
   obtain ⟨sl,e⟩:=I.base.slot L o ho (I.ok.frf L hL) hL fun z=>I.ok.exfs L z hL
   exact ⟨hk,⟨L,_,hf,hn,e,hd⟩,ih (fun b hb=>hs b (by unfold frs;rw [List.filterMap_cons,hf];exact List.mem_cons_of_mem _ hb)) hr⟩
 exact all X.outer (fun _ hb=>hb) I.ok.funs
theorem Inv.stack (I:Inv X pins σ H s):s.heap.FunFrames X.base X.stack:=by
 rcases I.ok.stk with e | ⟨e,hf⟩
 ·rw [e];exact I.funs
 ·rw [e]
  obtain ⟨m,hn,_⟩:=I.loc
  refine .cons (by rw [I.ok.kind];decide) hf hn ?_ I.funs
  exact Heap.get?_none_of_le (Nat.le_trans I.ok.bsz I.ok.above)
theorem Inv.stkSub (I:Inv X pins σ H s):∀ b∈frs X.stack,b∈X.env.locals::X.fs:=fun b hb=>by
 rcases I.ok.stk with e | ⟨e,hf⟩
 ·rw [e] at hb;exact List.mem_cons_of_mem _ hb
 ·rw [e] at hb
  unfold frs at hb
  rw [List.filterMap_cons,hf] at hb
  exact hb
theorem Inv.stkFree (I:Inv X pins σ H s):∀ b∈frs X.stack,H b=none:=fun b hb=>by
 rcases List.mem_cons.mp (I.stkSub b hb) with e | hb
 ·rw [e];exact I.free
 ·obtain ⟨_,o,ho,_⟩:=I.ok.funs.mem hb
  exact I.base.free b o ho (I.ok.frf b hb) fun z=>I.ok.exfs b z hb
theorem Inv.step {g':Array GenState}{t':Nat}{d':Drawn}{ch:List Addr}(I:Inv X pins σ H s)
  (hch:∀ b∈ch,(b∈X.ex\/X.s₀.heap.objs.size<=b)/\b≠X.env.locals/\(∀ x c,X.env.cells.lookup x=some c->c≠b)/\∀ p∈X.pn++pins,p.1≠b)
  (keep:∀ b o,b≠X.env.locals->b∉X.fs->b∉ch->s.heap.get? b=some o->H b=none->h'.get? b=some o)
  (slot:∀ b o,b≠X.env.locals->b∈X.fs->b∉ch->s.heap.get? b=some o->H b=none->∃ sl,h'.get? b=some { o with slots:=sl })(free:∀ b o,b∉ch->s.heap.get? b=some o->H b=none->H' b=none)
  (there:∀ b o,b∉ch->s.heap.get? b=some o->∃ o',h'.get? b=some o')
  (tups:∀ b xs,H b=some (.tup xs)->H' b=some (.tup xs))(frzs:∀ b o u,H b=some (.frz o u)->H' b=some (.frz o u))(tbls:∀ b ps,H b=some (.tbl ps)->∃ more,H' b=some (.tbl (ps++more)))
  (ns:∀ m,s.heap.Ns X.env.locals m->h'.Ns X.env.locals m)(hok:HOk X.prog X.w H' h')(hg:AllBare g') :
  Inv X pins σ H' { s with heap:=h',gens:=g',drawn:=d',toks:=t' }:=by
 have neL:∀ b o,X.s₀.heap.get? b=some o->b≠X.env.locals:=fun b o e=>Nat.ne_of_lt (Nat.lt_of_lt_of_le (Heap.lt_size e) I.ok.above)
 have neC:∀ b o,X.s₀.heap.get? b=some o->b∉X.ex->b∉ch:=fun b o e hx hb=>by
  rcases (hch b hb).1 with z | z
  ·exact hx z
  ·exact absurd (Nat.lt_of_lt_of_le (Heap.lt_size e) z) (Nat.lt_irrefl _)
 have cellK:∀ x c,X.env.cells.lookup x=some c->∀ v,s.heap.IsCell c v->h'.IsCell c v:=fun x c e v ⟨o,ho,hd⟩=>by
  have nch:c∉ch:=fun z=>(hch c z).2.2.1 x c e rfl
  by_cases hc:c∈X.fs
  ·obtain ⟨sl,q⟩:=slot c o (I.cne x c e) hc nch ho (I.freeC x c e)
   exact ⟨_,q,hd⟩
  ·exact ⟨o,keep c o (I.cne x c e) hc nch ho (I.freeC x c e),hd⟩
 refine ⟨I.ok,I.os,hg,⟨fun b o e n hb hx=>?_,fun b o e n hb hx=>?_,fun b o e n hx=>?_,fun b o e hx=>?_,fun b xs e=>tups b xs (I.base.tups b xs e),fun b o xs e=>frzs b o xs (I.base.frzs b o xs e),fun b ps e=>?_⟩,?_,fun x c e=>?_,?_,fun x c e=>?_,fun p hp=>?_,hok,I.len⟩
 ·exact keep b o (neL b o e) hb (neC b o e hx) (I.base.keep b o e n hb hx) (I.base.free b o e n hx)
 ·obtain ⟨sl,e1⟩:=I.base.slot b o e n hb hx
  obtain ⟨sl',e2⟩:=slot b _ (neL b o e) hb (neC b o e hx) e1 (I.base.free b o e n hx)
  exact ⟨sl',e2⟩
 ·obtain ⟨o',e1⟩:=I.base.there b o e hx
  exact free b o' (neC b o e hx) e1 (I.base.free b o e n hx)
 ·obtain ⟨o',e1⟩:=I.base.there b o e hx
  exact there b o' (neC b o e hx) e1
 ·obtain ⟨m1,e1⟩:=I.base.tbls b ps e
  obtain ⟨m2,e2⟩:=tbls b _ e1
  exact ⟨m1++m2,by rw [e2,Array.append_assoc]⟩
 ·obtain ⟨m,hn,hl⟩:=I.loc
  refine ⟨m,ns m hn,fun i x v e1 e2 e3=>?_⟩
  obtain ⟨u,r,l⟩:=hl i x v e1 e2 e3
  refine ⟨u,r,?_⟩
  rcases l with l | ⟨k,c,e,z⟩
  ·exact .inl l
  ·exact .inr ⟨k,c,e,cellK x c e _ z⟩
 ·obtain ⟨v,z⟩:=I.cell x c e
  exact ⟨v,cellK x c e v z⟩
 ·obtain ⟨m,⟨o,_,_,ho,_⟩,_⟩:=I.loc
  exact free _ o (fun z=>(hch _ z).2.1 rfl) ho I.free
 ·obtain ⟨v,o,ho,hd⟩:=I.cell x c e
  exact free c o (fun z=>(hch c z).2.2.1 x c e rfl) ho (I.freeC x c e)
 ·obtain ⟨e,n,ne,nf,d⟩:=I.pin p hp
  have nch:p.1∉ch:=fun z=>(hch p.1 z).2.2.2 p hp rfl
  exact ⟨keep p.1 p.2 ne nf nch e n,free p.1 p.2 nch e n,ne,nf,d⟩
theorem Inv.un {t':Nat}(I:Inv X pins σ H s)(u:Un X.fs [] H H' s.heap h')(hok:HOk X.prog X.w H' h'):Inv X pins σ H' { s with heap:=h',toks:=t' }:=by
 obtain ⟨m,⟨o,es,ep,ho,r⟩,_⟩:=id I.loc
 obtain ⟨sl,hL⟩:=u.any ho I.free (by simp)
 exact I.step (g':=s.gens) (d':=s.drawn) (ch:=[]) (fun _ z=>nomatch z) (fun b o _ hb _ e n=>u.keep b o e n hb (by simp)) (fun b o _ hb _ e n=>u.slot b o e n hb (by simp)) (fun b o _ e n=>u.free b o e n (by simp)) (fun b o _ e=>u.there b o e (by simp)) u.tups u.frzs u.tbls (fun m' hm=>by
  obtain ⟨o',es',ep',ho',r'⟩:=hm
  rw [ho] at ho';cases ho'
  exact ⟨_,es',ep',hL,r'⟩) hok I.bare
theorem Inv.call {g':Array GenState}{t':Nat}{d':Drawn}{ch:List Addr}(I:Inv X pins σ H s)(u:Un (frs X.stack) ch H H' s.heap h')(hok:HOk X.prog X.w H' h')(hg:AllBare g')
  (hch:∀ b∈ch,(b∈X.ex\/X.s₀.heap.objs.size<=b)/\b≠X.env.locals/\(∀ x c,X.env.cells.lookup x=some c->c≠b)/\∀ p∈X.pn++pins,p.1≠b) :
  Inv X pins σ H' { s with heap:=h',gens:=g',drawn:=d',toks:=t' }:=by
 obtain ⟨m,⟨o,es,ep,ho,r⟩,_⟩:=id I.loc
 obtain ⟨sl,hL⟩:=u.any ho I.free fun z=>(hch _ z).2.1 rfl
 exact I.step (ch:=ch) hch (fun b o hL hb hc e n=>u.keep b o e n (fun z=>(List.mem_cons.mp (I.stkSub b z)).elim hL hb) hc) (fun b o _ _ hc e n=>u.any e n hc) (fun b o hc e n=>u.free b o e n hc) (fun b o hc e=>u.there b o e hc) u.tups u.frzs u.tbls (fun m' hm=>by
  obtain ⟨o',es',ep',ho',r'⟩:=hm
  rw [ho] at ho';cases ho'
  exact ⟨_,es',ep',hL,r'⟩) hok hg
theorem Inv.turned {t':Nat}{it:Addr}(I:Inv X pins σ H s)(k:∀ b o,b≠it->s.heap.get? b=some o->h'.get? b=some o)(hn:H it=none)(hL:it≠X.env.locals)
  (h1:it∈X.ex\/X.s₀.heap.objs.size<=it)(h2:∀ x c,X.env.cells.lookup x=some c->c≠it)(h3:∀ p∈X.pn++pins,p.1≠it):Inv X pins σ H { s with heap:=h',toks:=t' }:=by
 have nit:∀ b u,H b=some u->b≠it:=fun b u e z=>by rw [z,hn] at e;cases e
 refine I.step (g':=s.gens) (d':=s.drawn) (ch:=[it]) (fun b hb=>?_) (fun b o _ _ hc e _=>k b o (fun z=>hc (by simp [z])) e) (fun b o _ _ hc e _=>⟨o.slots,k b o (fun z=>hc (by simp [z])) e⟩) (fun _ _ _ _ n=>n)
  (fun b o hc e=>⟨o,k b o (fun z=>hc (by simp [z])) e⟩) (fun _ _ e=>e) (fun _ _ _ e=>e) (fun b ps e=>⟨#[],by rw [e];simp⟩) (fun m hm=>?_) (fun b u e=>?_) I.bare
 ·have e:b=it:=by simpa using hb
  subst e
  exact ⟨h1,hL,h2,h3⟩
 ·obtain ⟨o,es,ep,ho,r⟩:=hm
  exact ⟨o,es,ep,k _ o (Ne.symm hL) ho,r⟩
 ·refine (I.hok b u e).stay (fun c v hc q=>k c v ?_ q) (fun _ q=>q) fun _ _ q=>q
  rcases hc with z | z
  ·rw [z];exact nit b u e
  ·exact nit c _ z
theorem Inv.tok (I:Inv X pins σ H s)(t:Nat):Inv X pins σ H { s with toks:=t }:=I.un (h':=s.heap) (t':=t) Un.refl I.hok
theorem Inv.kept {t':Nat}(I:Inv X pins σ H s)(k:∀ b u,s.heap.get? b=some u->h'.get? b=some u):Inv X pins σ H { s with heap:=h',toks:=t' }:=I.un (Un.kept k) (I.hok.kept k)
theorem Inv.laid {a:Addr}{o:HO}{t':Nat}(I:Inv X pins σ H s)(k:∀ b u,s.heap.get? b=some u->h'.get? b=some u)(hp:s.heap.objs.size<=a)(new:Eh X.prog X.w (upd H a o) h' a o) :
  Inv X pins σ (upd H a o) { s with heap:=h',toks:=t' }:=I.un (Un.laid k hp (I.hok.fresh hp)) (I.hok.laid k hp new)
theorem Inv.write {x e:Addr}{o:HO}{t':Nat}(I:Inv X pins σ H s)(mu:Mut (H x))(he:e=x\/H e=some (.own x))(k:∀ b u,b≠e->s.heap.get? b=some u->h'.get? b=some u)(heo:∃ u,h'.get? e=some u)
  (new:Eh X.prog X.w (upd H x o) h' x o):Inv X pins σ (upd H x o) { s with heap:=h',toks:=t' }:=I.un (Un.write mu he k heo) (I.hok.write mu he k heo new)
theorem Inv.weak {σ':List (Option V)}(I:Inv X pins σ H s)(hl:σ'.length=σ.length)(w:∀ (i:Nat) v,σ'[i]?=some (some v)->σ[i]?=some (some v)):Inv X pins σ' H s :=
 ⟨I.ok,I.os,I.bare,I.base,let ⟨m,hn,hl'⟩:=I.loc;⟨m,hn,fun i x v e1 e2 e3=>hl' i x v e1 (w i v e2) e3⟩,I.cell,I.free,I.freeC,I.pin,I.hok,hl.trans I.len⟩
theorem Inv.pins_of {pins':List (Addr×Obj)}(I:Inv X pins σ H s)(h:∀ p∈pins',s.heap.get? p.1=some p.2/\H p.1=none/\p.1≠X.env.locals/\p.1∉X.fs/\∀ v,p.2.data≠.cell v):Inv X pins' σ H s :=
 ⟨I.ok,I.os,I.bare,I.base,I.loc,I.cell,I.free,I.freeC,fun p hp=>(List.mem_append.mp hp).elim (fun z=>I.pin p (List.mem_append_left _ z)) (h p),I.hok,I.len⟩
theorem Zw {N:List Str}(hN:N.Nodup){i j:Nat}{x:Str}(a:N[i]?=some x)(b:N[j]?=some x):i=j:=by
 obtain ⟨h1,e1⟩:=List.getElem?_eq_some_iff.mp a
 obtain ⟨h2,e2⟩:=List.getElem?_eq_some_iff.mp b
 exact (List.getElem_inj hN).mp (e1.trans e2.symm)
theorem iZ {M:Model}{A:Around}{E:Value->Shared->Prop}{i:Nat}{x:Str}{v:V}{u:Value}{Q:Unit->Shared->Prop}(I:Inv X pins σ H s)(hN:X.N.Nodup)(hi:X.N[i]?=some x)(hx:Loc X.env.scope x)(r:Bk v u)
  (h:∀ s',Inv X pins (σ.set i (some v)) H s'->(∃ a,Heap.SameBut a s.heap s'.heap/\(a=X.env.locals\/X.env.cells.lookup x=some a))->Q () s')(hf:X.fn x=true\/X.env.scope.names.lookup x=some .local:=by first | exact .inl rfl | exact .inr rfl | assumption):wpAny M A (storeName X.env x u) Q E s:=by
 obtain ⟨m,hn,hl⟩:=id I.loc
 have hcls:(X.env.scope.kind==.class||(X.env.scope.kind==.module&&X.env.locals != X.env.globals))=false:=by rw [I.ok.kind];rfl
 have hiσ:i<σ.length:=by rw [I.len];exact (List.getElem?_eq_some_iff.mp hi).1
 have cne:=I.cne
 have tracked:∀ {a:Addr} {h':Heap},(∃ o,s.heap.get? a=some o/\H a=none)->Heap.SameBut a s.heap h'->HOk X.prog X.w H h':=fun {a h'} ha hs b ob e=>by
  obtain ⟨_,_,hfree⟩:=ha
  refine (I.hok b ob e).stay (fun c w' hc q=>(hs.2 c ?_).trans q) (fun _ q=>q) fun _ _ q=>q
  rintro rfl
  rcases hc with rfl | hc
  ·rw [hfree] at e;cases e
  ·rw [hfree] at hc;cases hc
 rcases hx with hk | hk
 ·refine wpAny_storeName_local hk hn (fun h' hn' hs=>?_) hcls
  obtain ⟨oL,_,_,hoL,_⟩:=id hn
  refine h _ ⟨I.ok,I.os,I.bare,⟨fun b o e n hb hx=>?_,fun b o e n hb hx=>?_,I.base.free,fun b o e hx=>?_,I.base.tups,I.base.frzs,I.base.tbls⟩,⟨_,hn',fun j y v' e1 e2 e3=>?_⟩,fun y c e=>?_,I.free,I.freeC,fun p hp=>?_,tracked ⟨oL,hoL,I.free⟩ hs,by simpa using I.len⟩ ⟨_,hs,.inl rfl⟩
  ·exact (hs.2 b (Nat.ne_of_lt (Nat.lt_of_lt_of_le (Heap.lt_size e) I.ok.above))).trans (I.base.keep b o e n hb hx)
  ·obtain ⟨sl,e1⟩:=I.base.slot b o e n hb hx
   exact ⟨sl,(hs.2 b (Nat.ne_of_lt (Nat.lt_of_lt_of_le (Heap.lt_size e) I.ok.above))).trans e1⟩
  ·obtain ⟨o',e1⟩:=I.base.there b o e hx
   exact ⟨o',(hs.2 b (Nat.ne_of_lt (Nat.lt_of_lt_of_le (Heap.lt_size e) I.ok.above))).trans e1⟩
  ·by_cases hj:j=i
   ·subst hj
    rw [hi] at e1;cases e1
    rw [List.getElem?_set_self hiσ] at e2
    cases e2
    exact ⟨u,r,.inl ⟨hk,by simp⟩⟩
   ·rw [List.getElem?_set_ne (Ne.symm hj)] at e2
    obtain ⟨u',r',q⟩:=hl j y v' e1 e2 e3
    refine ⟨u',r',?_⟩
    rcases q with ⟨k,e⟩ | ⟨k,c,e,z⟩
    ·refine .inl ⟨k,?_⟩
     have:y≠x:=fun e=>hj (Zw hN e1 (e▸hi))
     simp [this,e]
    ·exact .inr ⟨k,c,e,z.sameBut hs (cne y c e)⟩
  ·obtain ⟨w',z⟩:=I.cell y c e
   exact ⟨w',z.sameBut hs (cne y c e)⟩
  ·obtain ⟨e,n,ne,nf,d⟩:=I.pin p hp
   exact ⟨(hs.2 p.1 ne).trans e,n,ne,nf,d⟩
 ·have hfn:X.fn x=true:=by
   rcases hf with z | z
   ·exact z
   ·rw [z] at hk;cases hk
  obtain ⟨c,hc⟩:=I.ok.has x (.inl hk)
  obtain ⟨w',z⟩:=I.cell x c hc
  refine wpAny_storeName_cell I.ok.kind hk hc z (fun h' hc' hs=>?_)
  obtain ⟨oc,hoc,hocd⟩:=id z
  refine h { s with heap:=h' } ⟨I.ok,I.os,I.bare,⟨fun b o e n hb hx=>?_,fun b o e n hb hx=>?_,I.base.free,fun b o e hx=>?_,I.base.tups,I.base.frzs,I.base.tbls⟩,⟨m,hn.sameBut hs (Ne.symm (cne x c hc)),fun j y v' e1 e2 e3=>?_⟩,fun y c' e=>?_,I.free,I.freeC,fun p hp=>?_,tracked ⟨oc,hoc,I.freeC x c hc⟩ hs,by simpa using I.len⟩ ⟨c,hs,.inr hc⟩
  ·exact (hs.2 b (Nat.ne_of_lt (Nat.lt_of_lt_of_le (Heap.lt_size e) (I.ok.cab x c hfn hc)))).trans (I.base.keep b o e n hb hx)
  ·obtain ⟨sl,e1⟩:=I.base.slot b o e n hb hx
   exact ⟨sl,(hs.2 b (Nat.ne_of_lt (Nat.lt_of_lt_of_le (Heap.lt_size e) (I.ok.cab x c hfn hc)))).trans e1⟩
  ·obtain ⟨o',e1⟩:=I.base.there b o e hx
   exact ⟨o',(hs.2 b (Nat.ne_of_lt (Nat.lt_of_lt_of_le (Heap.lt_size e) (I.ok.cab x c hfn hc)))).trans e1⟩
  ·by_cases hj:j=i
   ·subst hj
    rw [hi] at e1;cases e1
    rw [List.getElem?_set_self hiσ] at e2
    cases e2
    exact ⟨u,r,.inr ⟨.inl hk,c,hc,hc'⟩⟩
   ·rw [List.getElem?_set_ne (Ne.symm hj)] at e2
    obtain ⟨u',r',q⟩:=hl j y v' e1 e2 e3
    refine ⟨u',r',?_⟩
    rcases q with q | ⟨k,c',e,z'⟩
    ·exact .inl q
    ·refine .inr ⟨k,c',e,z'.sameBut hs ?_⟩
     rintro rfl
     exact hj (Zw hN e1 (I.ok.inj _ _ _ e hc▸hi))
  ·by_cases hcc:c'=c
   ·subst hcc;exact ⟨_,hc'⟩
   ·obtain ⟨w2,z2⟩:=I.cell y c' e
    exact ⟨w2,z2.sameBut hs hcc⟩
  ·obtain ⟨e,n,ne,nf,d⟩:=I.pin p hp
   refine ⟨(hs.2 p.1 ?_).trans e,n,ne,nf,d⟩
   intro q
   rw [q,hoc] at e
   have q':oc=p.2:=Option.some.inj e
   exact d w' (by rw [<- q'];exact hocd)
theorem Rv {M:Model}{A:Around}{E:Value->Shared->Prop}{i:Nat}{x:Str}{v:V}{u:Value}{Q:Unit->Shared->Prop}(I:Inv X pins σ H s)(hN:X.N.Nodup)(hi:X.N[i]?=some x)(hx:Loc X.env.scope x)(r:Bk v u)
  (h:∀ s',Inv X pins (σ.set i (some v)) H s'->Q () s')(hf:X.fn x=true\/X.env.scope.names.lookup x=some .local:=by first | exact .inl rfl | exact .inr rfl | assumption):wpAny M A (storeName X.env x u) Q E s :=
 iZ I hN hi hx r (fun s' I' _=>h s' I') hf
theorem Inv.call' {s':Shared}{ch:List Addr}(I:Inv X pins σ H s)(ho:s'.os=s.os)(u:Un (frs X.stack) ch H H' s.heap s'.heap)(hok:HOk X.prog X.w H' s'.heap)(hg:AllBare s'.gens)
  (hch:∀ b∈ch,(b∈X.ex\/X.s₀.heap.objs.size<=b)/\b≠X.env.locals/\(∀ x c,X.env.cells.lookup x=some c->c≠b)/\∀ p∈X.pn++pins,p.1≠b):Inv X pins σ H' s':=by
 obtain ⟨h',g',d',t',o'⟩:=s'
 have e:o'=s.os:=ho
 subst e
 exact I.call (g':=g') (t':=t') (d':=d') u hok hg hch
end
abbrev XK:=Value->Option Addr->Hp->Prop
abbrev St:=List (Option V)
abbrev VK:=V->Hp->Prop
abbrev TE:=St->Hp->VK->Prop
abbrev TT:=St->Hp->(Bool->Hp->Prop)->Prop
abbrev TA:=St->Hp->(List V->Hp->Prop)->Prop
structure Ja where
 nx:St->Hp->Prop
 rt:VK
 bk:St->Hp->Prop:=fun _ _=>False
 ct:St->Hp->Prop:=fun _ _=>False
abbrev TS:=Ja->St->Hp->Prop
def EP (X:Cx)(pins:List (Addr×Obj))(σ:St)(Q:VK)(u:Value)(s':Shared):Prop:=∃ v H',Inv X pins σ H' s'/\Bk v u/\Q v H'
def TP (X:Cx)(pins:List (Addr×Obj))(σ:St)(Q:Bool->Hp->Prop)(b:Bool)(s':Shared):Prop:=∃ H',Inv X pins σ H' s'/\Q b H'
def AP (X:Cx)(pins:List (Addr×Obj))(σ:St)(Q:List V->Hp->Prop)(us:List Value)(s':Shared):Prop:=∃ vs H',Inv X pins σ H' s'/\A6 vs us/\Q vs H'
def SP (X:Cx)(pins:List (Addr×Obj))(D:Ja)(f:Flow)(s':Shared):Prop :=
 match f with
 | .next=>∃ σ' H',Inv X pins σ' H' s'/\D.nx σ' H'
 | .brk=>∃ σ' H',Inv X pins σ' H' s'/\D.bk σ' H'
 | .cont=>∃ σ' H',Inv X pins σ' H' s'/\D.ct σ' H'
 | .ret u=>∃ v σ' H',Inv X pins σ' H' s'/\Bk v u/\D.rt v H'
def PE (X:Cx)(e:Expr)(t:TE):Prop :=
 ∀ (pins:List (Addr×Obj)) (s:Shared) (σ:St) (H:Hp) (Q:VK),Inv X pins σ H s->t σ H Q->wpAny (model X.prog X.w) X.A (eval e X.env) (EP X pins σ Q) X.xe s
def PT (X:Cx)(e:Expr)(t:TT):Prop :=
 ∀ (pins:List (Addr×Obj)) (s:Shared) (σ:St) (H:Hp) (Q:Bool->Hp->Prop),Inv X pins σ H s->t σ H Q->wpAny (model X.prog X.w) X.A (isTrue e X.env (eval e X.env)) (TP X pins σ Q) X.xe s
def PW (X:Cx)(e:Expr)(t:TT):Prop :=
 ∀ (whole:Sem Value) (pins:List (Addr×Obj)) (s:Shared) (σ:St) (H:Hp) (Q:Bool->Hp->Prop),Inv X pins σ H s->t σ H Q->wpAny (model X.prog X.w) X.A (isTrue e X.env whole) (TP X pins σ Q) X.xe s
theorem PW.pt {X:Cx}{e:Expr}{t:TT}(h:PW X e t):PT X e t:=h _
def PA (X:Cx)(es:List Expr)(t:TA):Prop :=
 ∀ (pos:Pos) (pins:List (Addr×Obj)) (s:Shared) (σ:St) (H:Hp) (Q:List V->Hp->Prop),Inv X pins σ H s->t σ H Q->wpAny (model X.prog X.w) X.A (spliced (backTo pos (starEach es X.env))) (AP X pins σ Q) X.xe s
def PS (X:Cx)(st:Stmt)(t:TS):Prop :=
 ∀ (pins:List (Addr×Obj)) (s:Shared) (σ:St) (H:Hp) (D:Ja),Inv X pins σ H s->t D σ H->wpAny (model X.prog X.w) X.A (exec st X.env) (SP X pins D) X.xe s
def PSs (X:Cx)(st:List Stmt)(t:TS):Prop :=
 ∀ (pins:List (Addr×Obj)) (s:Shared) (σ:St) (H:Hp) (D:Ja),Inv X pins σ H s->t D σ H->wpAny (model X.prog X.w) X.A (execs st X.env) (SP X pins D) X.xe s
theorem thn {α:Type}{t:Sem α}{Q Q':α->Shared->Prop}{M:Model}{A:Around}{E:Value->Shared->Prop}{s:Shared}(h:wpAny M A t Q E s)(hQ:∀ a s,Q a s->Q' a s):wpAny M A t Q' E s:=wpAny_mono h hQ fun _ _ x=>x
section
variable {X:Cx}
theorem bin {a b:Expr}{ta tb:TE}(ha:PE X a ta)(hb:PE X b tb){pins:List (Addr×Obj)}{s:Shared}{σ:St}{H:Hp}{R:V->V->Hp->Prop}(I:Inv X pins σ H s)(h:ta σ H fun x H1=>tb σ H1 fun y H2=>R x y H2)
  {α:Type}{Q:α->Shared->Prop}{f:Value->Value->Sem α}
  (hf:∀ v u s2 x y H2,Inv X pins σ H2 s2->Bk x v->Bk y u->R x y H2->wpAny (model X.prog X.w) X.A (f v u) Q X.xe s2) :
  wpAny (model X.prog X.w) X.A (eval a X.env) (fun v s₁=>wpAny (model X.prog X.w) X.A (eval b X.env) (fun u s₂=>wpAny (model X.prog X.w) X.A (f v u) Q X.xe s₂) X.xe s₁) X.xe s:=by
 refine thn (ha pins s σ H _ I h) fun v s1 ⟨x,H1,I1,r1,q1⟩=>?_
 refine thn (hb pins s1 σ H1 _ I1 q1) fun u s2 ⟨y,H2,I2,r2,q2⟩=>?_
 exact hf v u s2 x y H2 I2 r1 r2 q2
def qA (i:Nat):TE:=fun σ H Q=>∃ v,σ[i]?=some (some v)/\Q v H
def tC (v:V):TE:=fun _ H Q=>Q v H
theorem lL {i:Nat}{x:Str}{pos:Pos}(hN:X.N[i]?=some x)(hv:Vis X.env.scope x)(hd:(x==("__debug__":Str))=false:=by decide)(hcd:(x==("__classdict__":Str))=false:=by decide):PE X (.Name x pos) (qA i):=by
 intro pins s σ H Q I h
 obtain ⟨v,e,h⟩:=h
 obtain ⟨m,hn,hl⟩:=I.loc
 obtain ⟨u,r,l⟩:=hl i x v hN e hv
 have fin:EP X pins σ Q u s:=⟨v,H,I,r,h⟩
 rcases l with ⟨hk,hm⟩ | ⟨hk,c,hc,hcell⟩
 ·exact wpAny_Name (wpAny_loadName_local I.ok.kind hk hn hm fin) hd
 ·rcases hk with hk | hk
  ·exact wpAny_Name (wpAny_loadName_cell I.ok.kind hk hc hcell fin) hd
  ·exact wpAny_Name (wpAny_loadName_free I.ok.kind hk hc hcell fin hcd) hd
theorem Ag {i j pos}:PE X (.Constant (.int i) j pos) (tC (.int i)):=fun _ _ _ H _ I h=>wpAny_Constant_int ⟨.int i,H,I.tok _,⟨_,rfl⟩,h⟩
theorem T7 {b j pos}:PE X (.Constant (.bool b) j pos) (tC (.bl b)):=fun _ _ _ H _ I h=>Constant_bool ⟨.bl b,H,I,rfl,h⟩
theorem E6 {j pos}:PE X (.Constant .none j pos) (tC .non):=fun _ _ _ H _ I h=>Constant_none ⟨.non,H,I,rfl,h⟩
theorem Fq {x j pos}:PE X (.Constant (.str x) j pos) (tC (.str x)):=fun _ _ _ H _ I h=>Calls.Constant_str ⟨.str x,H,I.tok _,⟨_,rfl⟩,h⟩
def Gl (X:Cx)(x:Str):Prop:=X.env.kindOf x=some .globalImplicit
theorem M8 {E:Value->Shared->Prop}{pins:List (Addr×Obj)}{s:Shared}{σ:St}{H:Hp}{x:Str}{u:Value}{pos:Pos}{Q:Value->Shared->Prop}(I:Inv X pins σ H s)(hg:Gl X x)(hm:X.mg x=some u)(h:Q u s)
  (hd:(x==("__debug__":Str))=false:=by decide):wpAny (model X.prog X.w) X.A (eval (.Name x pos) X.env) Q E s :=
 Calls.Name_function_global I.ok.kind hg (Calls.loadGlobal_global (by rw [I.ok.glob];exact I.mod.glob.keeps I.bk) hm h) hd
theorem Ei {E:Value->Shared->Prop}{pins:List (Addr×Obj)}{s:Shared}{σ:St}{H:Hp}{x:Str}{u:Value}{pos:Pos}{Q:Value->Shared->Prop}(I:Inv X pins σ H s)(hg:Gl X x)(hm:X.mg x=none)(hv:bootBuiltins x=some u)(h:Q u s)
  (hn:x≠"__name__":=by decide)(hd:(x==("__debug__":Str))=false:=by decide):wpAny (model X.prog X.w) X.A (eval (.Name x pos) X.env) Q E s:=by
 obtain ⟨mb,h1,h2⟩:=I.mod.blt
 exact Calls.Name_function_global I.ok.kind hg (Calls.loadGlobal_builtin (by rw [I.ok.glob];exact I.mod.glob.keeps I.bk) hm (by rw [I.ok.blt];exact h1.keeps I.bk) ((h2 x hn).trans hv) h) hd
theorem P3 {x:Str}{v:V}{u:Value}{pos:Pos}(hg:Gl X x)(hm:X.mg x=some u)(r:Bk v u)(hd:(x==("__debug__":Str))=false:=by decide):PE X (.Name x pos) (tC v) :=
 fun _ _ _ H _ I h=>M8 I hg hm ⟨v,H,I,r,h⟩ hd
theorem Nh {x:Str}{v:V}{u:Value}{pos:Pos}(hg:Gl X x)(hm:X.mg x=none)(hv:bootBuiltins x=some u)(r:Bk v u)(hn:x≠"__name__":=by decide)(hd:(x==("__debug__":Str))=false:=by decide):PE X (.Name x pos) (tC v) :=
 fun _ _ _ H _ I h=>Ei I hg hm hv ⟨v,H,I,r,h⟩ hn hd
variable {a b:Expr} {ta tb:TE} {pos:Pos}
def PC (X:Cx)(op:CmpOp)(a b:Expr)(t:TE):Prop :=
 ∀ (pins:List (Addr×Obj)) (s:Shared) (σ:St) (H:Hp) (Q:VK),Inv X pins σ H s->t σ H Q ->
  wpAny (model X.prog X.w) X.A (eval a X.env) (fun v s₁=>wpAny (model X.prog X.w) X.A (eval b X.env) (fun u s₂=>wpAny (model X.prog X.w) X.A (compareOp op v u) (EP X pins σ Q) X.xe s₂) X.xe s₁) X.xe s
theorem nZ (b:Expr){op:CmpOp}(h:op≠.In)(h2:op≠.NotIn):behindInMarks op b=false:=by
 have e1:(op==CmpOp.In)=false:=by cases op<;>first | rfl | exact absurd rfl h
 have e2:(op==CmpOp.NotIn)=false:=by cases op<;>first | rfl | exact absurd rfl h2
 cases b<;>simp [behindInMarks,e1,e2]
def vP (ta:TE):TE:=fun σ H Q=>ta σ H fun x H1=>Q (.bl (decide (x=.non))) H1
def rL (ta:TE):TE:=fun σ H Q=>ta σ H fun x H1=>Q (.bl (!decide (x=.non))) H1
theorem Bk.none_iff {x:V}{v:Value}(r:Bk x v):(v==Value.none)=decide (x=.non):=by
 cases x with
 | non=>cases r;rfl
 | bl _=>cases r;rfl
 | int _=>obtain ⟨t,rfl⟩:=r;rfl
 | str _=>obtain ⟨t,rfl⟩:=r;rfl
 | byt _=>obtain ⟨t,rfl⟩:=r;rfl
 | flt _=>obtain ⟨t,rfl⟩:=r;rfl
 | ref _=>cases r;rfl
 | ty _=>cases r;rfl
theorem tJ {j pos'}(ha:PE X a ta):PC X .Is a (.Constant .none j pos') (vP ta):=by
 intro pins s σ H Q I h
 refine thn (ha pins s σ H _ I h) fun v s1 ⟨x,H1,I1,r1,q1⟩=>?_
 exact Constant_none (is_none_gen ⟨.bl _,H1,I1,by rw [r1.none_iff];rfl,q1⟩)
theorem Kb {j pos'}(ha:PE X a ta):PC X .IsNot a (.Constant .none j pos') (rL ta):=by
 intro pins s σ H Q I h
 refine thn (ha pins s σ H _ I h) fun v s1 ⟨x,H1,I1,r1,q1⟩=>?_
 exact Constant_none (isnot_none_gen ⟨.bl _,H1,I1,by rw [r1.none_iff];rfl,q1⟩)
def tB (t:TE):TT:=fun σ H Q=>t σ H fun x H1=>∃ c,x=.bl c/\Q c H1
theorem K2 {op:CmpOp}{t:TE}(h:PC X op a b t)(h1:behindInMarks op b=false:=by first | exact nZ _ (by decide) (by decide) | rfl):PT X (.Compare a [op] [b] pos) (tB t):=by
 intro pins s σ H Q I hw
 refine wpAny_isTrue_Compare1 (thn (h pins s σ H _ I hw) fun v s1 h1=>thn h1 fun u s2 h2=>thn h2 fun c s3 ⟨x,H1,I1,r1,q1⟩=>?_) h1
 obtain ⟨d,rfl,q⟩:=q1
 cases r1
 exact wpAny_truthy_bool ⟨H1,I1,q⟩
theorem Dl {e:Expr}{t:TE}(h:PE X e t)(he:∀ whole,isTrue e X.env whole=(do let v <- whole;standAt e.pos;holding [v] (truthy v)):=by intro _;rfl):PT X e (tB t):=by
 intro pins s σ H Q I hw
 refine isTrue_plain (thn (h pins s σ H _ I hw) fun v s1 ⟨x,H1,I1,r1,q1⟩=>?_) (he _)
 obtain ⟨d,rfl,q⟩:=q1
 cases r1
 exact wpAny_truthy_bool ⟨H1,I1,q⟩
variable {tA tB':TT} {rest:List Expr}
def xU (t u:TT):TT:=fun σ H Q=>t σ H fun c H1=>if c=true then u σ H1 Q else Q false H1
def tOr (t u:TT):TT:=fun σ H Q=>t σ H fun c H1=>if c=true then Q true H1 else u σ H1 Q
def xR (t:TT):TT:=fun σ H Q=>t σ H fun c H1=>Q (!c) H1
theorem Lm (ha:PT X a tA):PW X (.BoolOp .And [a] pos) tA:=by
 intro wh pins s σ H Q I h
 refine isTrue_and (thn (ha pins s σ H Q I h) fun c s1 e=>?_)
 cases c with
 | true=>exact isTrue_and_nil e
 | false=>exact e
theorem Oc (ha:PT X a tA):PW X (.BoolOp .Or [a] pos) tA:=by
 intro wh pins s σ H Q I h
 refine isTrue_or (thn (ha pins s σ H Q I h) fun c s1 e=>?_)
 cases c with
 | false=>exact isTrue_or_nil e
 | true=>exact e
theorem N6 (ha:PT X a tA)(hb:PW X (.BoolOp .And (b::rest) pos) tB'):PW X (.BoolOp .And (a::b::rest) pos) (xU tA tB'):=by
 intro wh pins s σ H Q I h
 refine isTrue_and (thn (ha pins s σ H _ I h) fun c s1 ⟨H1,I1,q1⟩=>?_)
 cases c with
 | true=>exact hb wh pins s1 σ H1 Q I1 q1
 | false=>exact ⟨H1,I1,q1⟩
theorem O1 (ha:PT X a tA)(hb:PW X (.BoolOp .Or (b::rest) pos) tB'):PW X (.BoolOp .Or (a::b::rest) pos) (tOr tA tB'):=by
 intro wh pins s σ H Q I h
 refine isTrue_or (thn (ha pins s σ H _ I h) fun c s1 ⟨H1,I1,q1⟩=>?_)
 cases c with
 | true=>exact ⟨H1,I1,q1⟩
 | false=>exact hb wh pins s1 σ H1 Q I1 q1
theorem Hd (ha:PT X a tA):PT X (.UnaryOp .Not a pos) (xR tA):=by
 intro pins s σ H Q I h
 exact isTrue_not (ha pins s σ H (fun c H1=>Q (!c) H1) I h)
def sC (ta tb:TE):TE:=fun σ H Q=>ta σ H fun x H1=>∃ c,x=.bl c/\if c=true then tb σ H1 Q else Q (.bl false) H1
def xC (ta tb:TE):TE:=fun σ H Q=>ta σ H fun x H1=>∃ c,x=.bl c/\if c=true then Q (.bl true) H1 else tb σ H1 Q
def rN (ta:TE):TE:=fun σ H Q=>ta σ H fun x H1=>∃ c,x=.bl c/\Q (.bl (!c)) H1
theorem S8 {op}{t:TE}(h:PE X a t):PE X (.BoolOp op [a] pos) t:=fun pins s σ H Q I hw=>BoolOp_one (h pins s σ H Q I hw)
theorem dZ (ha:PE X a ta)(hb:PE X (.BoolOp .And (b::rest) pos) tb):PE X (.BoolOp .And (a::b::rest) pos) (sC ta tb):=by
 intro pins s σ H Q I h
 refine BoolOp_and (thn (ha pins s σ H _ I h) fun v s1 ⟨x,H1,I1,r1,q1⟩=>?_)
 obtain ⟨c,rfl,q1⟩:=q1
 cases r1
 refine wpAny_truthy_bool ?_
 cases c with
 | true=>exact hb pins s1 σ H1 Q I1 q1
 | false=>exact ⟨.bl false,H1,I1,rfl,q1⟩
theorem sK (ha:PE X a ta)(hb:PE X (.BoolOp .Or (b::rest) pos) tb):PE X (.BoolOp .Or (a::b::rest) pos) (xC ta tb):=by
 intro pins s σ H Q I h
 refine BoolOp_or (thn (ha pins s σ H _ I h) fun v s1 ⟨x,H1,I1,r1,q1⟩=>?_)
 obtain ⟨c,rfl,q1⟩:=q1
 cases r1
 refine wpAny_truthy_bool ?_
 cases c with
 | false=>exact hb pins s1 σ H1 Q I1 q1
 | true=>exact ⟨.bl true,H1,I1,rfl,q1⟩
theorem jK (ha:PE X a ta):PE X (.UnaryOp .Not a pos) (rN ta):=by
 intro pins s σ H Q I h
 refine UnaryOp_ (thn (ha pins s σ H _ I h) fun v s1 ⟨x,H1,I1,r1,q1⟩=>?_)
 obtain ⟨c,rfl,q1⟩:=q1
 cases r1
 exact not_of (wpAny_truthy_bool ⟨.bl (!c),H1,I1,rfl,q1⟩)
def tIf (t:TT)(ta tb:TE):TE:=fun σ H Q=>t σ H fun c H1=>if c=true then ta σ H1 Q else tb σ H1 Q
theorem B2 {c:Expr}(hc:PT X c tA)(ha:PE X a ta)(hb:PE X b tb):PE X (.IfExp c a b pos) (tIf tA ta tb):=by
 intro pins s σ H Q I h
 refine wpAny_IfExp (thn (hc pins s σ H _ I h) fun d s1 ⟨H1,I1,q1⟩=>?_)
 cases d with
 | true=>exact ha pins s1 σ H1 Q I1 q1
 | false=>exact hb pins s1 σ H1 Q I1 q1
end
def SqL (K:PySem.W.Frag)(H:Hp)(a:Addr)(xs:List V):Prop :=
 Rd H a (.lst xs) \/
  ∃ (o:Obj) (its:Array Value) (n:Nat),K.lookup a=some o/\o.cls=.type "list"/\o.dict=none/\o.data=.seq its n/\its.size<=sizeLine/\A6 xs its.toList
def SqT (K:PySem.W.Frag)(H:Hp)(a:Addr)(xs:List V):Prop :=
 Rd H a (.tup xs) \/
  ∃ (o:Obj) (its:Array Value) (n:Nat),K.lookup a=some o/\o.cls=.type "tuple"/\o.data=.seq its n/\its.size<=sizeLine/\A6 xs its.toList
def yH:Value->Option V
 | .none=>some .non
 | .bool b=>some (.bl b)
 | .int i _=>some (.int i)
 | .str x _=>some (.str x)
 | .bytes b _=>some (.byt b)
 | .float b _=>some (.flt b)
 | .ref a=>some (.ref a)
 | .type n=>some (.ty n)
 | _=>none
theorem Bk.abs {x:V}{u:Value}(r:Bk x u):yH u=some x:=by
 cases x with
 | non=>cases r;rfl
 | bl _=>cases r;rfl
 | int _=>obtain ⟨t,rfl⟩:=r;rfl
 | str _=>obtain ⟨t,rfl⟩:=r;rfl
 | byt _=>obtain ⟨t,rfl⟩:=r;rfl
 | flt _=>obtain ⟨t,rfl⟩:=r;rfl
 | ref _=>cases r;rfl
 | ty _=>cases r;rfl
theorem Bk.inj {x y:V}{u:Value}(r:Bk x u)(q:Bk y u):x=y:=Option.some.inj (r.abs.symm.trans q.abs)
theorem A6.inj:∀ {xs ys:List V}{us:List Value},A6 xs us->A6 ys us->xs=ys
 | _,_,_,.nil,.nil=>rfl
 | _,_,_,.cons r t,.cons r' t'=>by rw [r.inj r',A6.inj t t']
section
variable {X:Cx} {pins:List (Addr×Obj)} {σ:St} {H:Hp} {s:Shared} {a:Addr} {xs ys:List V}
theorem SqL.of {K:PySem.W.Frag}(h:H a=some (.lst xs)):SqL K H a xs:=.inl (.inl h)
theorem SqT.of {K:PySem.W.Frag}(h:H a=some (.tup xs)):SqT K H a xs:=.inl (.inl h)
theorem Inv.list (I:Inv X pins σ H s)(h:SqL X.K H a xs):∃ its:List Value,A6 xs its/\PlainL s.heap a its.toArray/\xs.length<=sizeLine:=by
 rcases h with h | ⟨o,its,n,hk,hc,hd,hs,hz,r⟩
 ·obtain ⟨z,its,n,r,e⟩:=h.ok I.hok
  exact ⟨its,r,⟨_,n,e,rfl,rfl,rfl⟩,z⟩
 ·refine ⟨its.toList,r,⟨o,n,I.kIn a o hk,hc,hd,by simpa using hs⟩,?_⟩
  have e:=r.length
  simp only [Array.length_toList] at e
  omega
theorem Inv.tuple (I:Inv X pins σ H s)(h:SqT X.K H a xs):∃ its:List Value,A6 xs its/\IsTup s.heap a its.toArray/\xs.length<=sizeLine:=by
 rcases h with h | ⟨o,its,n,hk,hc,hs,hz,r⟩
 ·obtain ⟨z,its,r,p⟩:=h.ok I.hok
  exact ⟨its,r,p,z⟩
 ·refine ⟨its.toList,r,⟨o,I.kIn a o hk,hc,n,by simpa using hs⟩,?_⟩
  have e:=r.length
  simp only [Array.length_toList] at e
  omega
theorem Inv.list_inj (I:Inv X pins σ H s)(h:SqL X.K H a xs)(h':SqL X.K H a ys):xs=ys:=by
 obtain ⟨its,r,⟨o,n,e,_,_,d⟩,_⟩:=I.list h
 obtain ⟨its',r',⟨o',n',e',_,_,d'⟩,_⟩:=I.list h'
 rw [e] at e';cases e'
 rw [d] at d'
 injection d' with d1 _
 have:its=its':=by simpa using congrArg Array.toList d1
 subst this
 exact r.inj r'
theorem Inv.tuple_inj (I:Inv X pins σ H s)(h:SqT X.K H a xs)(h':SqT X.K H a ys):xs=ys:=by
 obtain ⟨its,r,⟨o,e,_,n,d⟩,_⟩:=I.tuple h
 obtain ⟨its',r',⟨o',e',_,n',d'⟩,_⟩:=I.tuple h'
 rw [e] at e';cases e'
 rw [d] at d'
 injection d' with d1 _
 have:its=its':=by simpa using congrArg Array.toList d1
 subst this
 exact r.inj r'
end
abbrev Cx.wish (X:Cx)(E:Value->Shared->Prop):Cx:={ X with xe:=E }
abbrev Cx.nox (X:Cx):Cx:=X.wish fun _ _=>False
theorem Cx.Ok.wish {X:Cx}(ok:X.Ok)(E:Value->Shared->Prop):(X.wish E).Ok :=
 ⟨ok.mod,ok.kind,ok.glob,ok.blt,ok.above,ok.inj,ok.has,ok.cab,ok.hd,ok.frames,ok.stk,ok.exf,ok.bs,ok.bsz,ok.noex,ok.exfs,ok.funs,ok.frf⟩
theorem Cx.Ok.unwish {X:Cx}{E:Value->Shared->Prop}(ok:(X.wish E).Ok):X.Ok :=
 ⟨ok.mod,ok.kind,ok.glob,ok.blt,ok.above,ok.inj,ok.has,ok.cab,ok.hd,ok.frames,ok.stk,ok.exf,ok.bs,ok.bsz,ok.noex,ok.exfs,ok.funs,ok.frf⟩
section
variable {X:Cx} {pins:List (Addr×Obj)} {σ:St} {H:Hp} {s:Shared} {E:Value->Shared->Prop}
theorem Inv.wish (I:Inv X pins σ H s)(E:Value->Shared->Prop):Inv (X.wish E) pins σ H s:=⟨I.ok.wish E,I.os,I.bare,I.base,I.loc,I.cell,I.free,I.freeC,I.pin,I.hok,I.len⟩
theorem Inv.unwish (I:Inv (X.wish E) pins σ H s):Inv X pins σ H s:=⟨I.ok.unwish,I.os,I.bare,I.base,I.loc,I.cell,I.free,I.freeC,I.pin,I.hok,I.len⟩
theorem SP.unwish {D:Ja}{f:Flow}{s':Shared}(h:SP (X.wish E) pins D f s'):SP X pins D f s':=by
 cases f with
 | next=>obtain ⟨σ',H',I,q⟩:=h;exact ⟨σ',H',I.unwish,q⟩
 | brk=>obtain ⟨σ',H',I,q⟩:=h;exact ⟨σ',H',I.unwish,q⟩
 | cont=>obtain ⟨σ',H',I,q⟩:=h;exact ⟨σ',H',I.unwish,q⟩
 | ret u=>obtain ⟨v,σ',H',I,r,q⟩:=h;exact ⟨v,σ',H',I.unwish,r,q⟩
theorem PSs.nox {st:List Stmt}{t:TS}(h:PSs X.nox st t):PSs X st t:=fun pins s σ H D I hw =>
 wpAny_mono (h pins s σ H D (I.wish _) hw) (fun _ _ q=>q.unwish) fun _ _ z=>False.elim z
end
section
variable {X:Cx} {st:Stmt} {rest:List Stmt} {t u:TS} {e:Expr} {te:TE} {pos:Pos}
def rS:TS:=fun D σ H=>D.nx σ H
def vX (t u:TS):TS:=fun D σ H=>t { D with nx:=u D } σ H
theorem A9:PSs X [] rS:=fun _ _ σ H _ I h=>wpAny_execs_nil ⟨σ,H,I,h⟩
theorem Ab (h1:PS X st t)(h2:PSs X rest u):PSs X (st::rest) (vX t u):=by
 intro pins s σ H D I h
 refine wpAny_execs_cons (thn (h1 pins s σ H { D with nx:=u D } I h) fun f s1 q=>?_)
 cases f with
 | next =>
  obtain ⟨σ',H',I',q⟩:=q
  exact h2 pins s1 σ' H' D I' q
 | ret v=>exact q
 | brk=>exact q
 | cont=>exact q
theorem Ae (h1:PS X st t):PSs X [st] t:=by
 intro pins s σ H D I h
 refine wpAny_execs_cons (thn (h1 pins s σ H D I h) fun f s1 q=>?_)
 cases f with
 | next=>exact wpAny_execs_nil q
 | ret v=>exact q
 | brk=>exact q
 | cont=>exact q
theorem Inv.quiet {pins:List (Addr×Obj)}{σ:St}{H:Hp}{s:Shared}(I:Inv X pins σ H s):interactive X.env=false:=by simp [interactive,I.ok.kind]
def sG (te:TE):TS:=fun D σ H=>te σ H fun _ H1=>D.nx σ H1
theorem Bi (he:PE X e te)(hs:swapsWith e none pos.line X.env=pure false:=by rfl):PS X (.Expr e pos) (sG te):=by
 intro pins s σ H D I h
 exact wpAny_Expr_any (thn (he pins s σ H _ I h) fun v s1 ⟨x,H1,I1,r1,q1⟩=>⟨σ,H1,I1,q1⟩) I.quiet hs
def vU (te:TE):TS:=fun D σ H=>te σ H D.rt
theorem Am (he:PE X e te):PS X (.Return (some e) pos) (vU te):=by
 intro pins s σ H D I h
 exact wpAny_Return_some (thn (he pins s σ H _ I h) fun v s1 ⟨x,H1,I1,r1,q1⟩=>⟨x,σ,H1,I1,r1,q1⟩)
def wO (c:TT)(t u:TS):TS:=fun D σ H=>c σ H fun b H1=>if b=true then t D σ H1 else u D σ H1
theorem B4 {c:Expr}{a b:List Stmt}{tc:TT}(hc:PT X c tc)(ha:PSs X a t)(hb:PSs X b u):PS X (.If c a b pos) (wO tc t u):=by
 intro pins s σ H D I h
 refine wpAny_If (thn (hc pins s σ H _ I h) fun d s1 ⟨H1,I1,q1⟩=>?_)
 cases d with
 | true=>exact ha pins s1 σ H1 D I1 q1
 | false=>exact hb pins s1 σ H1 D I1 q1
def tY:TS:=fun _ _ _=>False
theorem Cw:PS X st tY:=fun _ _ _ _ _ _ h=>h.elim
end
abbrev TG:=V->St->Hp->(St->Hp->Prop)->Prop
abbrev TGs:=List V->St->Hp->(St->Hp->Prop)->Prop
def PG (X:Cx)(target:Expr)(t:TG):Prop :=
 ∀ (pins:List (Addr×Obj)) (s:Shared) (σ:St) (H:Hp) (v:V) (u:Value) (Q:St->Hp->Prop),Inv X pins σ H s->Bk v u->t v σ H Q ->
  wpAny (model X.prog X.w) X.A (assign target X.env u) (fun _ s'=>∃ σ' H',Inv X pins σ' H' s'/\Q σ' H') X.xe s
def PGs (X:Cx)(ts:List Expr)(t:TGs):Prop :=
 ∀ (pins:List (Addr×Obj)) (s:Shared) (σ:St) (H:Hp) (vs:List V) (us:List Value) (Q:St->Hp->Prop),Inv X pins σ H s->A6 vs us->t vs σ H Q ->
  wpAny (model X.prog X.w) X.A (assignInOrder ((assignEach ts X.env).map (·.2)) us) (fun _ s'=>∃ σ' H',Inv X pins σ' H' s'/\Q σ' H') X.xe s
abbrev qD:=V->V->V->Hp->(Hp->Prop)->Prop
def xD (X:Cx)(t:qD):Prop :=
 ∀ (pins:List (Addr×Obj)) (s:Shared) (σ:St) (H:Hp) (o i v:V) (ov iv u:Value) (Q:Hp->Prop),Inv X pins σ H s->Bk o ov->Bk i iv->Bk v u->t o i v H Q ->
  wpAny (model X.prog X.w) X.A (setItem ov iv u) (fun _ s'=>∃ H',Inv X pins σ H' s'/\Q H') X.xe s
abbrev TIp:=V->V->Hp->VK->Prop
def PIp (X:Cx)(op:Operator)(t:TIp):Prop :=
 ∀ (pins:List (Addr×Obj)) (s:Shared) (σ:St) (H:Hp) (x y:V) (v u:Value) (Q:VK),Inv X pins σ H s->Bk x v->Bk y u->t x y H Q ->
  wpAny (model X.prog X.w) X.A (inplaceOp op v u) (EP X pins σ Q) X.xe s
section
variable {X:Cx} {pos:Pos}
def Fa (i:Nat):TG:=fun v σ H Q=>Q (σ.set i (some v)) H
theorem Bl {i:Nat}{x:Str}(hN:X.N.Nodup)(hi:X.N[i]?=some x)(hx:Loc X.env.scope x)(hf:X.fn x=true\/X.env.scope.names.lookup x=some .local:=by first | exact .inl rfl | exact .inr rfl | assumption):PG X (.Name x pos) (Fa i):=by
 intro pins s σ H v u Q I r h
 exact wpAny_assign_Name (Rv I hN hi hx r (fun s' I'=>⟨_,H,I',h⟩) hf)
def cX:TGs:=fun vs σ H Q=>vs=[]/\Q σ H
def Jf (t:TG)(u:TGs):TGs:=fun vs σ H Q=>∃ v r,vs=v::r/\t v σ H fun σ' H'=>u r σ' H' Q
theorem Ka:PGs X [] cX:=by
 intro pins s σ H vs us Q I r h
 obtain ⟨e,h⟩:=h
 subst e
 cases r
 exact assignInOrder_nil ⟨σ,H,I,h⟩
theorem Cc {e:Expr}{es:List Expr}{t:TG}{u:TGs}(h1:PG X e t)(h2:PGs X es u)
  (hs:(assignEach (e::es) X.env).map (·.2)=assign e X.env::(assignEach es X.env).map (·.2):=by rfl):PGs X (e::es) (Jf t u):=by
 intro pins s σ H vs us Q I r h
 obtain ⟨v,vr,e1,h⟩:=h
 subst e1
 cases r with
 | cons r rr =>
  rw [hs]
  refine assignInOrder_cons (thn (h1 pins s σ H _ _ _ I r h) fun _ s1 ⟨σ1,H1,I1,q1⟩=>?_)
  exact h2 pins s1 σ1 H1 _ _ Q I1 rr q1
def eJ (K:PySem.W.Frag)(n:Nat)(t:TGs):TG:=fun v σ H Q=>∃ a xs,v=.ref a/\SqT K H a xs/\xs.length=n/\t xs σ H Q
theorem Mg {es:List Expr}{k:Nat}{t:TGs}{n:Nat}(hc:X.calm=true)(h:PGs X es t)
  (hn:(assignEach es X.env).length=n:=by rfl)(hst:(assignEach es X.env).findIdx? (·.1)=none:=by rfl):PG X (.Tuple es k pos) (eJ X.K n t):=by
 intro pins s σ H v u Q I r hw
 obtain ⟨a,xs,e1,hq,hl,hw⟩:=hw
 subst e1
 cases r
 obtain ⟨its,rv,ht,hz⟩:=I.tuple hq
 refine assign_Tuple_tuple (I.ok.hd hc) ht (by simp [hn,<- hl,rv.length]) hst fun h' hx=>?_
 have I1:Inv X pins σ H { s with heap:=h' }:=I.kept (t':=s.toks) fun b o e=>hx b o (Nat.ne_of_lt (Heap.lt_size e)) e
 exact h pins _ σ H xs _ Q I1 (by simpa using rv) hw
def oH (te:TE)(g:TG):TS:=fun D σ H=>te σ H fun x H1=>g x σ H1 D.nx
theorem kD {tg e:Expr}{te:TE}{g:TG}(he:PE X e te)(hg:PG X tg g)(hs:swapsWithSole [tg] e pos.line X.env=pure false:=by rfl)(hw:swappedStores [tg] e X.env=pure none:=by rfl)
  (h1:(assignEach [tg] X.env).map (·.2)=[assign tg X.env]:=by rfl):PS X (.Assign [tg] e pos) (oH te g):=by
 intro pins s σ H D I h
 refine wpAny_Assign_stores (thn (he pins s σ H _ I h) fun v s1 ⟨x,H1,I1,r1,q1⟩=>?_) hs hw
 rw [h1]
 exact thn (hg pins s1 σ H1 x v _ I1 r1 q1) fun _ s2 q=>q
theorem An {i:Nat}{x:Str}{e:Expr}{te:TE}{pos':Pos}(hN:X.N.Nodup)(hi:X.N[i]?=some x)(hx:Loc X.env.scope x)(he:PE X e te)(hs:swapsWith e (some (.Name x pos')) pos.line X.env=pure false:=by rfl)(hf:X.fn x=true\/X.env.scope.names.lookup x=some .local:=by first | exact .inl rfl | exact .inr rfl | assumption) :
  PS X (.Assign [.Name x pos'] e pos) (oH te (Fa i)):=by
 intro pins s σ H D I h
 refine wpAny_Assign_Name (thn (he pins s σ H _ I h) fun v s1 ⟨y,H1,I1,r1,q1⟩=>?_) hs
 exact Rv I1 hN hi hx r1 (fun s2 I2=>⟨_,H1,I2,q1⟩) hf
def xJ (i:Nat)(te:TE)(ti:TIp):TS:=fun D σ H=>∃ x,σ[i]?=some (some x)/\te σ H fun y H1=>ti x y H1 fun z H2=>D.nx (σ.set i (some z)) H2
theorem Ha {i:Nat}{x:Str}{e:Expr}{te:TE}{op:Operator}{ti:TIp}{pos':Pos}(hN:X.N.Nodup)(hi:X.N[i]?=some x)(hx:Loc X.env.scope x)(he:PE X e te)(ho:PIp X op ti)(hf:X.fn x=true\/X.env.scope.names.lookup x=some .local:=by first | exact .inl rfl | exact .inr rfl | assumption) :
  PS X (.AugAssign (.Name x pos') op e pos) (xJ i te ti):=by
 intro pins s σ H D I h
 obtain ⟨v,e1,h⟩:=h
 obtain ⟨m,hn,hl⟩:=I.loc
 have vis:Vis X.env.scope x:=by rcases hx with k | k;exact .inl k;exact .inr (.inl k)
 obtain ⟨u,r,l⟩:=hl i x v hi e1 vis
 refine wpAny_AugAssign_Name ?_
 have go:wpAny (model X.prog X.w) X.A (eval e X.env) (fun w s₂=>wpAny (model X.prog X.w) X.A (inplaceOp op u w) (fun r s₃=>wpAny (model X.prog X.w) X.A (storeName X.env x r) (fun _=>SP X pins D .next) X.xe s₃) X.xe s₂) X.xe s:=by
  refine thn (he pins s σ H _ I h) fun w s1 ⟨y,H1,I1,r1,q1⟩=>?_
  refine thn (ho pins s1 σ H1 v y u w _ I1 r r1 q1) fun z s2 ⟨zv,H2,I2,r2,q2⟩=>?_
  exact Rv I2 hN hi hx r2 (fun s3 I3=>⟨_,H2,I3,q2⟩) hf
 rcases l with ⟨hk,hm⟩ | ⟨hk,c,hc,hcell⟩
 ·exact wpAny_loadName_local I.ok.kind hk hn hm go
 ·rcases hk with hk | hk
  ·exact wpAny_loadName_cell I.ok.kind hk hc hcell go
  ·rcases hx with k | k
   ·have:X.env.scope.names.lookup x=some .free:=hk
    rw [k] at this;cases this
   ·have:X.env.scope.names.lookup x=some .free:=hk
    rw [k] at this;cases this
def sM (to ti te:TE)(tget:V->V->Hp->VK->Prop)(tip:TIp)(tset:qD):TS:=fun D σ H=>to σ H fun o H1=>ti σ H1 fun i H2=>tget o i H2 fun x H3=>te σ H3 fun y H4=>tip x y H4 fun z H5=>tset o i z H5 fun H6=>D.nx σ H6
def wU (X:Cx)(t:V->V->Hp->VK->Prop):Prop :=
 ∀ (pins:List (Addr×Obj)) (s:Shared) (σ:St) (H:Hp) (o i:V) (ov iv:Value) (Q:VK),Inv X pins σ H s->Bk o ov->Bk i iv->t o i H Q ->
  wpAny (model X.prog X.w) X.A (getItem ov iv) (EP X pins σ Q) X.xe s
theorem eP {o i e:Expr}{to ti te:TE}{tget:V->V->Hp->VK->Prop}{tip:TIp}{tset:qD}{op:Operator}{tpos:Pos}(ho:PE X o to)(hi:PE X i ti)(hg:wU X tget)(he:PE X e te)(hp:PIp X op tip)(hs:xD X tset)
  (ha:∀ ov iv new,augStore i ov iv new=(do holding [new,ov,iv] (setItem ov iv new);release [new,ov,iv] [];pure .next):=by intros;rfl):PS X (.AugAssign (.Subscript o i tpos) op e pos) (sM to ti te tget tip tset):=by
 intro pins s σ H D I h
 refine wpAny_AugAssign_SubscriptAny (thn (ho pins s σ H _ I h) fun ov s1 ⟨x1,H1,I1,r1,q1⟩=>?_) ha
 refine thn (hi pins s1 σ H1 _ I1 q1) fun iv s2 ⟨x2,H2,I2,r2,q2⟩=>?_
 refine thn (hg pins s2 σ H2 x1 x2 ov iv _ I2 r1 r2 q2) fun old s3 ⟨x3,H3,I3,r3,q3⟩=>?_
 refine thn (he pins s3 σ H3 _ I3 q3) fun v s4 ⟨x4,H4,I4,r4,q4⟩=>?_
 refine thn (hp pins s4 σ H4 x3 x4 old v _ I4 r3 r4 q4) fun new s5 ⟨x5,H5,I5,r5,q5⟩=>?_
 exact thn (hs pins s5 σ H5 x1 x2 x5 ov iv new _ I5 r1 r2 r5 q5) fun _ s6 ⟨H6,I6,q6⟩=>⟨σ,H6,I6,q6⟩
def ipI (f:Int->Int->Int):TIp:=fun x y H Q=>∃ i j,x=.int i/\y=.int j/\Q (.int (f i j)) H
theorem J6:PIp X .Add (ipI fun i j=>i+j):=by
 intro pins s σ H x y v u Q I r1 r2 h
 obtain ⟨i,j,e1,e2,q⟩:=h
 subst e1;subst e2
 obtain ⟨t,rfl⟩:=r1
 obtain ⟨t',rfl⟩:=r2
 exact iadd_int ⟨.int _,H,I.tok _,⟨_,rfl⟩,q⟩
theorem lR:PIp X .Sub (ipI fun i j=>i-j):=by
 intro pins s σ H x y v u Q I r1 r2 h
 obtain ⟨i,j,e1,e2,q⟩:=h
 subst e1;subst e2
 obtain ⟨t,rfl⟩:=r1
 obtain ⟨t',rfl⟩:=r2
 exact isub_int ⟨.int _,H,I.tok _,⟨_,rfl⟩,q⟩
end
section
variable {X:Cx} {pos:Pos}
def oB (c:TT)(tb:TS):TS:=fun D σ H=>∃ W:Nat->St->Hp->Prop,(∃ m,W m σ H)/\∀ m σ H,W m σ H ->
 c σ H fun b H1=>if b=true then ∃ N:St->Hp->Prop,(∀ σ' H',N σ' H'->∃ m',m'<m/\W m' σ' H')/\tb { D with nx:=N,ct:=N,bk:=D.nx } σ H1 else D.nx σ H1
theorem Gb {c:Expr}{body:List Stmt}{tc:TT}{tb:TS}(hp:PassesOwn (model X.prog X.w) X.A X.env X.xe)(hc:PT X c tc)(hb:PSs X body tb):PS X (.While c body [] pos) (oB tc tb):=by
 intro pins s σ H D I h
 obtain ⟨W,⟨m0,w0⟩,turn⟩:=h
 refine wpAny_While (codeAny_whileLoop (fun n s'=>∃ σ' H',Inv X pins σ' H' s'/\W n σ' H') ?_ m0 ⟨σ,H,I,w0⟩)
 rintro n s1 ⟨σ1,H1,I1,w1⟩
 refine wpAny_passesOwn hp (thn (hc pins s1 σ1 H1 _ I1 (turn n σ1 H1 w1)) fun b s2 ⟨H2,I2,q2⟩=>?_)
 cases b with
 | true =>
  obtain ⟨N,hN,q2⟩:=q2
  rw [if_pos rfl]
  refine wpAny_passesOwn hp (thn (hb pins s2 σ1 H2 _ I2 q2) fun f s3 q3=>?_)
  cases f with
  | next =>
   obtain ⟨σ3,H3,I3,n3⟩:=q3
   obtain ⟨m',hm,w3⟩:=hN σ3 H3 n3
   exact ⟨m',hm,σ3,H3,I3,w3⟩
  | cont =>
   obtain ⟨σ3,H3,I3,n3⟩:=q3
   obtain ⟨m',hm,w3⟩:=hN σ3 H3 n3
   exact ⟨m',hm,σ3,H3,I3,w3⟩
  | brk=>exact q3
  | ret v=>exact q3
 | false =>
  rw [if_neg Bool.false_ne_true]
  exact wpAny_execs_nil ⟨σ1,H2,I2,q2⟩
end
structure It where
 go:Nat->Hp->Prop
 yld:Nat->Hp->V->Hp->Prop
 stop:Nat->Hp->Prop
def Nf (X:Cx)(pins:List (Addr×Obj))(H:Hp)(b:Addr):Prop :=
 H b=none/\b≠X.env.locals/\b∉X.fs/\(b∈X.ex\/X.s₀.heap.objs.size<=b)/\(∀ x c,X.env.cells.lookup x=some c->c≠b)/\∀ p∈X.pn++pins,p.1≠b
theorem Inv.fpOk {X:Cx}{pins:List (Addr×Obj)}{σ:St}{H H':Hp}{s:Shared}{b:Addr}(I:Inv X pins σ H s)(hb:s.heap.objs.size<=b)(hn:H' b=none):Nf X pins H' b:=by
 refine ⟨hn,Nat.ne_of_gt (Nat.lt_of_lt_of_le I.lt hb),I.nofs hb,.inr (Nat.le_trans I.sz hb),fun x c e z=>?_,fun p hp z=>?_⟩
 ·obtain ⟨v,q⟩:=I.cell x c e
  exact absurd (Nat.lt_of_lt_of_le q.lt (by rw [z];exact hb)) (Nat.lt_irrefl _)
 ·exact absurd (Nat.lt_of_lt_of_le (Heap.lt_size (I.pin p hp).1) (by rw [z];exact hb)) (Nat.lt_irrefl _)
structure Mq (P:Program) (w:World) (K:PySem.W.Frag) (tg:Expr) (J:It) (fp:List Addr) (it:Addr) (tn:Nat->Heap->Prop):Prop where
 mem:it∈fp
 obj:∀ i h,tn i h->∀ b∈fp,∃ o,h.get? b=some o/\∀ v,o.data≠.cell v
 keep:∀ i h h',tn i h->(∀ b∈fp,∀ o,h.get? b=some o->h'.get? b=some o)->tn i h'
 item:∀ (X:Cx),X.prog=P->X.w=w->X.K=K->X.calm=true->∀ (i:Nat) (pins:List (Addr×Obj)) (s:Shared) (σ:St) (H:Hp) (E:Value->Shared->Prop),Inv X pins σ H s->(∀ b∈fp,Nf X pins H b)->tn i s.heap->J.go i H ->
  wpAny (model P w) X.A (pyNext (.ref it)) (fun r s1=>∃ u,r=some u /\
   wpAny (model P w) X.A (letOwnedTupleGo tg (.ref it) u) (fun _ s2=>∃ x H',Inv X pins σ H' s2/\Bk x u/\J.yld i H x H'/\tn (i+1) s2.heap/\∀ b∈fp,H' b=none) E s1) E s
 done:∀ (X:Cx),X.prog=P->X.w=w->X.K=K->X.calm=true->∀ (i:Nat) (pins:List (Addr×Obj)) (s:Shared) (σ:St) (H:Hp) (E:Value->Shared->Prop),Inv X pins σ H s->(∀ b∈fp,Nf X pins H b)->tn i s.heap->J.stop i H ->
  wpAny (model P w) X.A (pyNext (.ref it)) (fun r s1=>r=none/\Inv X pins σ H s1) E s
 self:∀ (A:Around) (i:Nat) (s:Shared) (Q:Value->Shared->Prop) (E:Value->Shared->Prop),tn i s.heap->Q (.ref it) s->wpAny (model P w) A (pyIter (.ref it)) Q E s
abbrev TI:=St->Hp->(It->Hp->Prop)->Prop
def PIE (X:Cx)(pins:List (Addr×Obj))(σ:St)(tg:Expr)(R:It->Hp->Prop)(itv:Value)(s2:Shared):Prop :=
 ∃ (it:Addr) (fp:List Addr) (tn:Nat->Heap->Prop) (J:It) (H':Hp),itv=.ref it/\Inv X pins σ H' s2/\Mq X.prog X.w X.K tg J fp it tn/\tn 0 s2.heap/\(∀ b∈fp,Nf X pins H' b)/\R J H'
def PI (X:Cx)(tg iter:Expr)(wi:TI):Prop :=
 ∀ (pins:List (Addr×Obj)) (s:Shared) (σ:St) (H:Hp) (R:It->Hp->Prop),Inv X pins σ H s->wi σ H R ->
  wpAny (model X.prog X.w) X.A (eval iter X.env) (fun v s1=>wpAny (model X.prog X.w) X.A (pyIter v) (PIE X pins σ tg R) X.xe s1) X.xe s
theorem Uo {M : Model}{A : Around}{E : Value->Shared->Prop}{s : Shared}{tg : Expr}{it : Addr}{u : Value}{o : Obj}{n : String}{vs : Array Value}{Q : Unit->Shared->Prop}(ho : s.heap.get? it = some o)(hc : o.cls = .type n)(hd : o.data = .fields vs)
    (hn : ["enumerate", "zip", "dict_itemiterator", "dict_reverseitemiterator", "odict_iterator", "itertools.zip_longest", "itertools.pairwise"].contains n = false)(hQ : Q () s) : wpAny M A (letOwnedTupleGo tg (.ref it) u) Q E s := by
  unfold letOwnedTupleGo
  cases tg <;> first
    | exact wpAny_pure hQ
    | (cases u <;> first
        | exact wpAny_pure hQ
        | (refine wpAny_bind (wpAny_load ho ?_)
           rw [hc, hd]
           show wpAny M A (if (["enumerate", "zip", "dict_itemiterator", "dict_reverseitemiterator", "odict_iterator", "itertools.zip_longest", "itertools.pairwise"].contains n && vs[0]? == some (rawInt _)) = true then _ else _) Q E s
           rw [if_neg (by intro h; rw [hn, Bool.false_and] at h; cases h)]
           exact wpAny_pure hQ))
def Itl (K:PySem.W.Frag)(a:Addr):It :=
 ⟨fun i H=>∃ xs x,SqL K H a xs/\xs[i]?=some x,fun i H x H'=>H'=H/\∀ xs,SqL K H a xs->xs[i]?=some x,fun i H=>∃ xs,SqL K H a xs/\xs.length<=i⟩
def Itt (K:PySem.W.Frag)(a:Addr):It :=
 ⟨fun i H=>∃ xs x,SqT K H a xs/\xs[i]?=some x,fun i H x H'=>H'=H/\∀ xs,SqT K H a xs->xs[i]?=some x,fun i H=>∃ xs,SqT K H a xs/\xs.length<=i⟩
def Itr (lo:Int)(n:Nat):It:=⟨fun i _=>i<n,fun i H x H'=>H'=H/\x=.int (lo+i),fun i _=>n<=i⟩
theorem iI {P:Program}{w:World}{K:PySem.W.Frag}{tg:Expr}(a it:Addr):Mq P w K tg (Itl K a) [it] it (fun i h=>h.IsListIter it a i) where
 mem:=by simp
 obj:=fun i h st b hb=>by
  have e:b=it:=by simpa using hb
  subst e
  obtain ⟨o,e,c,d⟩:=st
  exact ⟨o,e,fun v z=>by rw [d] at z;cases z⟩
 keep:=fun i h h' st k=>st.at fun o e=>k it (by simp) o e
 item:=by
  intro X hP hw hK hc i pins s σ H E I hf st hg
  subst hP hw hK
  obtain ⟨xs,x,hq,hx⟩:=hg
  obtain ⟨its,rv,p,hz⟩:=I.list hq
  obtain ⟨u,hu,ru⟩:=rv.get hx
  obtain ⟨f0,f1,f2,f3,f4,f5⟩:=hf it (by simp)
  refine wpAny_pyNext_list_item st p.isList (x:=u) (by simpa using hu) fun h' st' sb=>?_
  have I1:Inv X pins σ H { s with heap:=h' }:=I.turned (t':=s.toks) (fun b o hb e=>(sb.2 b hb).trans e) f0 f1 f3 f4 f5
  obtain ⟨o,e,c,d⟩:=id st'
  exact ⟨u,rfl,Uo (s:={ s with heap:=h' }) e c d (by decide) ⟨x,H,I1,ru,⟨rfl,fun ys hy=>by rw [I.list_inj hy hq];exact hx⟩,st',fun b hb=>(hf b hb).1⟩⟩
 done:=by
  intro X hP hw hK hc i pins s σ H E I hf st hg
  subst hP hw hK
  obtain ⟨xs,hq,hx⟩:=hg
  obtain ⟨its,rv,p,hz⟩:=I.list hq
  obtain ⟨f0,f1,f2,f3,f4,f5⟩:=hf it (by simp)
  have hl:=rv.length
  exact wpAny_pyNext_list_end (I.ok.hd hc) st p.isList (by simp;omega) fun h' eb=>⟨rfl,I.turned (t':=s.toks) (fun b o hb e=>eb b o hb e) f0 f1 f3 f4 f5⟩
 self:=fun _ _ _ _ _ st h=>wpAny_pyIter_listiter st h
theorem dA {P:Program}{w:World}{K:PySem.W.Frag}{tg:Expr}(a it:Addr):Mq P w K tg (Itt K a) [it] it (fun i h=>h.IsTupleIter it a i) where
 mem:=by simp
 obj:=fun i h st b hb=>by
  have e:b=it:=by simpa using hb
  subst e
  obtain ⟨o,e,c,d⟩:=st
  exact ⟨o,e,fun v z=>by rw [d] at z;cases z⟩
 keep:=fun i h h' st k=>st.at fun o e=>k it (by simp) o e
 item:=by
  intro X hP hw hK hc i pins s σ H E I hf st hg
  subst hP hw hK
  obtain ⟨xs,x,hq,hx⟩:=hg
  obtain ⟨its,rv,p,hz⟩:=I.tuple hq
  obtain ⟨u,hu,ru⟩:=rv.get hx
  obtain ⟨f0,f1,f2,f3,f4,f5⟩:=hf it (by simp)
  refine wpAny_pyNext_tuple_item st (show s.heap.IsTuple a its.toArray from p) (x:=u) (by simpa using hu) fun h' st' sb=>?_
  have I1:Inv X pins σ H { s with heap:=h' }:=I.turned (t':=s.toks) (fun b o hb e=>(sb.2 b hb).trans e) f0 f1 f3 f4 f5
  obtain ⟨o,e,c,d⟩:=id st'
  exact ⟨u,rfl,Uo (s:={ s with heap:=h' }) e c d (by decide) ⟨x,H,I1,ru,⟨rfl,fun ys hy=>by rw [I.tuple_inj hy hq];exact hx⟩,st',fun b hb=>(hf b hb).1⟩⟩
 done:=by
  intro X hP hw hK hc i pins s σ H E I hf st hg
  subst hP hw hK
  obtain ⟨xs,hq,hx⟩:=hg
  obtain ⟨its,rv,p,hz⟩:=I.tuple hq
  obtain ⟨f0,f1,f2,f3,f4,f5⟩:=hf it (by simp)
  have hl:=rv.length
  exact wpAny_pyNext_tuple_end (I.ok.hd hc) st (show s.heap.IsTuple a its.toArray from p) (by simp;omega) fun h' eb=>⟨rfl,I.turned (t':=s.toks) (fun b o hb e=>eb b o hb e) f0 f1 f3 f4 f5⟩
 self:=fun _ _ _ _ _ st h=>wpAny_pyIter_tupleiter st h
theorem cS {P:Program}{w:World}{K:PySem.W.Frag}{tg:Expr}(it:Addr)(lo:Int)(n:Nat):Mq P w K tg (Itr lo n) [it] it (fun i h=>IsRangeIter h it (lo+(i:Nat)*1) ((n:Int)-(i:Nat)) 1) where
 mem:=by simp
 obj:=fun i h st b hb=>by
  have e:b=it:=by simpa using hb
  subst e
  exact ⟨_,st,fun v z=>by
   have z':Data.fields _=Data.cell v:=z
   cases z'⟩
 keep:=fun i h h' st k=>k it (by simp) _ st
 item:=by
  intro X hP hw hK hc i pins s σ H E I hf st hg
  subst hP hw hK
  obtain ⟨f0,f1,f2,f3,f4,f5⟩:=hf it (by simp)
  have W:=Walks.range (prog:=X.prog) (w:=X.w) (I.ok.hd hc) it lo 1 n
  refine W.item i s _ _ hg st fun v h' tk hv st' kk=>?_
  obtain ⟨t,rfl⟩:=hv
  have I1:Inv X pins σ H { s with heap:=h',toks:=tk }:=I.turned (fun b o hb e=>kk b o (by simpa using hb) e) f0 f1 f3 f4 f5
  refine ⟨_,rfl,Uo (s:={ s with heap:=h',toks:=tk }) (n:="range_iterator") st' rfl rfl (by decide) ⟨.int (lo+i),H,I1,⟨t,?_⟩,⟨rfl,rfl⟩,st',fun b hb=>(hf b hb).1⟩⟩
  rw [Int.mul_one]
 done:=by
  intro X hP hw hK hc i pins s σ H E I hf st hg
  subst hP hw hK
  obtain ⟨f0,f1,f2,f3,f4,f5⟩:=hf it (by simp)
  exact wpAny_pyNext_range_end (I.ok.hd hc) st (by have:n<=i:=hg;omega) fun h' eb=>⟨rfl,I.turned (t':=s.toks) (fun b o hb e=>eb b o hb e) f0 f1 f3 f4 f5⟩
 self:=fun _ _ _ _ _ st h=>wpAny_pyIter_rangeiter st h
section
variable {X:Cx} {tg:Expr}
def rJ (K:PySem.W.Frag)(tl:TE):TI:=fun σ H R=>tl σ H fun x H1=>∃ a,x=.ref a/\(∃ xs,SqL K H1 a xs)/\R (Itl K a) H1
def tO (K:PySem.W.Frag)(tl:TE):TI:=fun σ H R=>tl σ H fun x H1=>∃ a,x=.ref a/\(∃ xs,SqT K H1 a xs)/\R (Itt K a) H1
theorem Eb {l:Expr}{tl:TE}(hl:PE X l tl):PI X tg l (rJ X.K tl):=by
 intro pins s σ H R I h
 refine thn (hl pins s σ H _ I h) fun v s1 ⟨x,H1,I1,r1,q1⟩=>?_
 obtain ⟨a,e,⟨xs,hq⟩,q⟩:=q1
 subst e
 cases r1
 obtain ⟨its,rv,p,hz⟩:=I1.list hq
 refine wpAny_pyIter_list p.isList ?_
 refine ⟨s1.heap.objs.size,[s1.heap.objs.size],_,_,H1,rfl,I1.kept (t':=s1.toks) fun b o e=>Heap.get?_push_of_some _ e,iI a _,⟨_,Heap.get?_push_size _ rfl,rfl,rfl⟩,fun b hb=>?_,q⟩
 have e:b=s1.heap.objs.size:=by simpa using hb
 subst e
 exact I1.fpOk (Nat.le_refl _) (I1.hok.fresh (Nat.le_refl _))
theorem cG {l:Expr}{tl:TE}(hl:PE X l tl):PI X tg l (tO X.K tl):=by
 intro pins s σ H R I h
 refine thn (hl pins s σ H _ I h) fun v s1 ⟨x,H1,I1,r1,q1⟩=>?_
 obtain ⟨a,e,⟨xs,hq⟩,q⟩:=q1
 subst e
 cases r1
 obtain ⟨its,rv,p,hz⟩:=I1.tuple hq
 refine wpAny_pyIter_tuple (show s1.heap.IsTuple a its.toArray from p) ?_
 refine ⟨s1.heap.objs.size,[s1.heap.objs.size],_,_,H1,rfl,I1.kept (t':=s1.toks) fun b o e=>Heap.get?_push_of_some _ e,dA a _,⟨_,Heap.get?_push_size _ rfl,rfl,rfl⟩,fun b hb=>?_,q⟩
 have e:b=s1.heap.objs.size:=by simpa using hb
 subst e
 exact I1.fpOk (Nat.le_refl _) (I1.hok.fresh (Nat.le_refl _))
theorem aE {pins:List (Addr×Obj)}{σ:St}{H:Hp}{s:Shared}{R:It->Hp->Prop}{E:Value->Shared->Prop}{lo hi:Int}{t u v:Tok}{tk:Nat}(I:Inv X pins σ H s)(h1:-(2 ^ 62)<=lo)(h2:lo<2 ^ 62)(h3:-(2 ^ 62)<=hi)(h4:hi<2 ^ 62)
  (q:R (Itr lo (hi-lo).toNat) H):wpAny (model X.prog X.w) X.A (pyIter (.ref s.heap.objs.size)) (PIE X pins σ tg R) E { s with heap:=s.heap.push { cls:=.type "range",data:=.fields #[.int lo t,.int hi u,.int 1 v] },toks:=tk }:=by
 refine wpAny_pyIter_range (IsRange.new ..) (small_one h1 h2 h3 h4) ?_
 have I1:Inv X pins σ H { s with heap:=s.heap.push { cls:=.type "range",data:=.fields #[.int lo t,.int hi u,.int 1 v] },toks:=tk }:=I.kept fun b o e=>Heap.get?_push_of_some _ e
 refine ⟨(s.heap.push { cls:=.type "range",data:=.fields #[.int lo t,.int hi u,.int 1 v] }).objs.size,[(s.heap.push { cls:=.type "range",data:=.fields #[.int lo t,.int hi u,.int 1 v] }).objs.size],_,_,H,rfl,
  I1.kept (t':=tk) fun b o e=>Heap.get?_push_of_some _ e,cS _ lo (hi-lo).toNat,?_,fun b hb=>?_,q⟩
 ·have e1:lo+((0:Nat):Int)*1=lo:=by simp
  have e2:(((hi-lo).toNat:Nat):Int)-((0:Nat):Int)=Builtin.Range.rangeSize lo hi 1:=by rw [rangeSize_one];split<;>omega
  show IsRangeIter _ _ (lo+((0:Nat):Int)*1) ((((hi-lo).toNat:Nat):Int)-((0:Nat):Int)) 1
  rw [e1,e2]
  exact Heap.get?_push_size _ rfl
 ·have e:b=(s.heap.push { cls:=.type "range",data:=.fields #[.int lo t,.int hi u,.int 1 v] }).objs.size:=by simpa using hb
  subst e
  exact I1.fpOk (Nat.le_refl _) (I1.hok.fresh (Nat.le_refl _))
def rT (ta:TA):TI:=fun σ H R=>ta σ H fun vs H1=>∃ j:Int,vs=[.int j]/\-(2 ^ 62)<=j/\j<2 ^ 62/\R (Itr 0 j.toNat) H1
def rR (ta:TA):TI:=fun σ H R=>ta σ H fun vs H1=>∃ i j:Int,vs=[.int i,.int j]/\(-(2 ^ 62)<=i/\i<2 ^ 62/\-(2 ^ 62)<=j/\j<2 ^ 62)/\R (Itr i (j-i).toNat) H1
theorem Jb {a:Expr}{ta:TA}{p pos:Pos}(hg:Gl X "range")(hm:X.mg "range"=none)(ha:PA X [a] ta)(hs:starEach [a] X.env=[(false,eval a X.env)]:=by rfl):PI X tg (.Call (.Name "range" p) [a] [] pos) (rT ta):=by
 intro pins s σ H R I h
 refine Call_ (Ei I hg hm boot_range (PyProof.Rows.callWith_type1 (thn (ha pos pins s σ H _ I h) fun us s1 ⟨vs,H1,I1,r1,q1⟩=>?_) hs rfl))
 obtain ⟨j,e,q1,q2,q⟩:=q1
 subst e
 cases r1 with
 | cons r rr =>
  cases rr
  obtain ⟨t,rfl⟩:=r
  exact call_range_1 (aE I1 (by omega) (by omega) q1 q2 (by simpa using q))
theorem iE {a b:Expr}{ta:TA}{p pos:Pos}(hg:Gl X "range")(hm:X.mg "range"=none)(ha:PA X [a,b] ta)(hs:starEach [a,b] X.env=[(false,eval a X.env),(false,eval b X.env)]:=by rfl)(hs2:starEach [b] X.env=[(false,eval b X.env)]:=by rfl) :
  PI X tg (.Call (.Name "range" p) [a,b] [] pos) (rR ta):=by
 intro pins s σ H R I h
 refine Call_ (Ei I hg hm boot_range (PyProof.Rows.callWith_type1 (thn (ha pos pins s σ H _ I h) fun us s1 ⟨vs,H1,I1,r1,q1⟩=>?_) (by rw [hs,hs2]) (by rw [hs2];rfl)))
 obtain ⟨i,j,e,⟨q1,q2,q3,q4⟩,q⟩:=q1
 subst e
 cases r1 with
 | cons r rr =>
  cases rr with
  | cons r' rr =>
   cases rr
   obtain ⟨t,rfl⟩:=r
   obtain ⟨t',rfl⟩:=r'
   exact call_range_2 (aE I1 q1 q2 q3 q4 q)
def wJ (wi:TI)(g:TG)(tb:TS):TS:=fun D σ H=>wi σ H fun J H1=>∃ W:Nat->Nat->St->Hp->Prop,(∃ m,W 0 m σ H1)/\∀ i m σ H,W i m σ H ->
 (J.stop i H/\D.nx σ H)\/(J.go i H/\∃ N:St->Hp->Prop,(∀ σ' H',N σ' H'->∃ m',m'<m/\W (i+1) m' σ' H')/\∀ x H',J.yld i H x H'->g x σ H' fun σ2 H2=>tb { D with nx:=N,ct:=N,bk:=D.nx } σ2 H2)
def Og (fp:List Addr)(h:Heap):List (Addr×Obj):=fp.filterMap fun b=>(h.get? b).map fun o=>(b,o)
theorem Fy {fp:List Addr}{h:Heap}{b:Addr}{o:Obj}(hb:b∈fp)(e:h.get? b=some o):(b,o)∈Og fp h:=List.mem_filterMap.mpr ⟨b,hb,by rw [e];rfl⟩
theorem iU {fp:List Addr}{h:Heap}{p:Addr×Obj}(hp:p∈Og fp h):p.1∈fp/\h.get? p.1=some p.2:=by
 obtain ⟨b,hb,e⟩:=List.mem_filterMap.mp hp
 cases q:h.get? b with
 | none=>rw [q] at e;cases e
 | some o =>
  rw [q] at e
  have e':(b,o)=p:=Option.some.inj e
  subst e'
  exact ⟨hb,q⟩
theorem Inv.pinned {pins:List (Addr×Obj)}{σ:St}{H:Hp}{s:Shared}{fp:List Addr}(I:Inv X pins σ H s)(hf:∀ b∈fp,Nf X pins H b)(ho:∀ b∈fp,∃ o,s.heap.get? b=some o/\∀ v,o.data≠.cell v):Inv X (pins++Og fp s.heap) σ H s :=
 I.pins_of fun p hp=>(List.mem_append.mp hp).elim (fun z=>I.pin p (List.mem_append_right _ z)) fun z=>by
  obtain ⟨hb,e⟩:=iU z
  obtain ⟨f0,f1,f2,_⟩:=hf p.1 hb
  obtain ⟨o,e',d⟩:=ho p.1 hb
  rw [e] at e';cases e'
  exact ⟨e,f0,f1,f2,d⟩
theorem Inv.unpinned {pins pl:List (Addr×Obj)}{σ:St}{H:Hp}{s:Shared}(I:Inv X (pins++pl) σ H s):Inv X pins σ H s:=I.pins_of fun p hp=>I.pin p (List.mem_append_right _ (List.mem_append_left _ hp))
theorem E4 {iter:Expr}{body:List Stmt}{wi:TI}{g:TG}{tb:TS}{pos:Pos}(hp:PassesOwn (model X.prog X.w) X.A X.env X.xe)(hc:X.calm=true)(hi:PI X tg iter wi)(hg:PG X tg g)(hb:PSs X body tb)
  (hs:∀ x,foldedSetIterable iter X.env x=pure x:=by intro _;rfl):PS X (.For tg iter body [] pos) (wJ wi g tb):=by
 intro pins s σ H D I h
 refine wpAny_For (thn (hi pins s σ H _ I h) fun v s1 h1=>thn h1 fun itv s2 h2=>?_) hs
 obtain ⟨it,fp,tn,J,H2,e,I2,T,st2,f2,W,⟨m0,w0⟩,turn⟩:=h2
 subst e
 -- what stays true of the iterator's objects through the loop
 have stat:∀ {H':Hp},(∀ b∈fp,H' b=none)->∀ b∈fp,Nf X pins H' b:=fun hn b hb=>⟨hn b hb,(f2 b hb).2⟩
 refine codeAny_forLoop_any (fun n s'=>∃ i σ' H',Inv X pins σ' H' s'/\tn i s'.heap/\(∀ b∈fp,H' b=none)/\W i n σ' H') ?_ m0 ⟨0,σ,H2,I2,st2,fun b hb=>(f2 b hb).1,w0⟩
 rintro n s3 ⟨i,σ3,H3,I3,st3,fr3,w3⟩
 rcases turn i n σ3 H3 w3 with ⟨stop,qn⟩ | ⟨go,N,hN,step⟩
 ·refine wpAny_passesOwn hp (thn (T.done X rfl rfl rfl hc i pins s3 σ3 H3 X.xe I3 (stat fr3) st3 stop) fun r s4 ⟨hr,I4⟩=>?_)
  subst hr
  exact wpAny_execs_nil ⟨σ3,H3,I4,qn⟩
 ·refine wpAny_passesOwn hp (thn (T.item X rfl rfl rfl hc i pins s3 σ3 H3 X.xe I3 (stat fr3) st3 go) fun r s4 ⟨u,hr,h4⟩=>?_)
  subst hr
  refine wpAny_passesOwn hp (thn h4 fun _ s5 ⟨x,H5,I5,r5,y5,st5,fr5⟩=>?_)
  have I5':=I5.pinned (stat fr5) (T.obj _ _ st5)
  refine wpAny_passesOwn hp (thn (hg _ s5 σ3 H5 x u _ I5' r5 (step x H5 y5)) fun _ s6 ⟨σ6,H6,I6,q6⟩=>?_)
  refine wpAny_passesOwn hp (thn (hb _ s6 σ6 H6 _ I6 q6) fun f s7 q7=>?_)
  have again:∀ {σ7:St} {H7:Hp},Inv X (pins++Og fp s5.heap) σ7 H7 s7->N σ7 H7->∃ m,m<n/\∃ i σ' H',Inv X pins σ' H' s7/\tn i s7.heap/\(∀ b∈fp,H' b=none)/\W i m σ' H':=fun {σ7 H7} I7 n7=>by
   obtain ⟨m',hm,w7⟩:=hN σ7 H7 n7
   refine ⟨m',hm,i+1,σ7,H7,I7.unpinned,T.keep _ _ _ st5 fun b hb o e=>(I7.pin (b,o) (List.mem_append_right _ (List.mem_append_right _ (Fy hb e)))).1,fun b hb=>?_,w7⟩
   obtain ⟨o,e,d⟩:=T.obj _ _ st5 b hb
   exact (I7.pin (b,o) (List.mem_append_right _ (List.mem_append_right _ (Fy hb e)))).2.1
  cases f with
  | next=>obtain ⟨σ7,H7,I7,n7⟩:=q7;exact again I7 n7
  | cont=>obtain ⟨σ7,H7,I7,n7⟩:=q7;exact again I7 n7
  | brk=>obtain ⟨σ7,H7,I7,q7⟩:=q7;exact ⟨σ7,H7,I7.unpinned,q7⟩
  | ret v=>obtain ⟨x7,σ7,H7,I7,r7,q7⟩:=q7;exact ⟨x7,σ7,H7,I7.unpinned,r7,q7⟩
end
theorem Kz {K:PySem.W.Frag}{a:Addr}{xs:List V}{g:TG}{tb:TS}{D:Ja}{σ:St}{H:Hp}(Pv:Nat->St->Hp->Prop)(h0:Pv 0 σ H)(hl:∀ i σ H,i<=xs.length->Pv i σ H->SqL K H a xs)
  (hs:∀ i x σ H,xs[i]?=some x->Pv i σ H->g x σ H fun σ2 H2=>tb { D with nx:=Pv (i+1),ct:=Pv (i+1),bk:=D.nx } σ2 H2)(hd:∀ σ H,Pv xs.length σ H->D.nx σ H) :
  ∃ W:Nat->Nat->St->Hp->Prop,(∃ m,W 0 m σ H)/\∀ i m σ H,W i m σ H ->
   ((Itl K a).stop i H/\D.nx σ H)\/((Itl K a).go i H/\∃ N:St->Hp->Prop,(∀ σ' H',N σ' H'->∃ m',m'<m/\W (i+1) m' σ' H')/\∀ x H',(Itl K a).yld i H x H'->g x σ H' fun σ2 H2=>tb { D with nx:=N,ct:=N,bk:=D.nx } σ2 H2):=by
 refine ⟨fun i m σ H=>m=xs.length-i/\i<=xs.length/\Pv i σ H,⟨xs.length,by simp,Nat.zero_le _,h0⟩,?_⟩
 rintro i m σ H ⟨rfl,hi,p⟩
 have q:=hl i σ H hi p
 by_cases hlt:i<xs.length
 ·refine .inr ⟨⟨xs,xs[i],q,by simp [hlt]⟩,Pv (i+1),fun σ' H' p'=>⟨xs.length-(i+1),by omega,rfl,hlt,p'⟩,fun x H' y=>?_⟩
  obtain ⟨e,y⟩:=y
  subst e
  exact hs i x σ _ (y xs q) p
 ·have e:i=xs.length:=by omega
  subst e
  exact .inl ⟨⟨xs,q,Nat.le_refl _⟩,hd σ H p⟩
theorem oU {K:PySem.W.Frag}{a:Addr}{xs:List V}{g:TG}{tb:TS}{D:Ja}{σ:St}{H:Hp}(Pv:Nat->St->Hp->Prop)(h0:Pv 0 σ H)(hl:∀ i σ H,i<=xs.length->Pv i σ H->SqT K H a xs)
  (hs:∀ i x σ H,xs[i]?=some x->Pv i σ H->g x σ H fun σ2 H2=>tb { D with nx:=Pv (i+1),ct:=Pv (i+1),bk:=D.nx } σ2 H2)(hd:∀ σ H,Pv xs.length σ H->D.nx σ H) :
  ∃ W:Nat->Nat->St->Hp->Prop,(∃ m,W 0 m σ H)/\∀ i m σ H,W i m σ H ->
   ((Itt K a).stop i H/\D.nx σ H)\/((Itt K a).go i H/\∃ N:St->Hp->Prop,(∀ σ' H',N σ' H'->∃ m',m'<m/\W (i+1) m' σ' H')/\∀ x H',(Itt K a).yld i H x H'->g x σ H' fun σ2 H2=>tb { D with nx:=N,ct:=N,bk:=D.nx } σ2 H2):=by
 refine ⟨fun i m σ H=>m=xs.length-i/\i<=xs.length/\Pv i σ H,⟨xs.length,by simp,Nat.zero_le _,h0⟩,?_⟩
 rintro i m σ H ⟨rfl,hi,p⟩
 have q:=hl i σ H hi p
 by_cases hlt:i<xs.length
 ·refine .inr ⟨⟨xs,xs[i],q,by simp [hlt]⟩,Pv (i+1),fun σ' H' p'=>⟨xs.length-(i+1),by omega,rfl,hlt,p'⟩,fun x H' y=>?_⟩
  obtain ⟨e,y⟩:=y
  subst e
  exact hs i x σ _ (y xs q) p
 ·have e:i=xs.length:=by omega
  subst e
  exact .inl ⟨⟨xs,q,Nat.le_refl _⟩,hd σ H p⟩
theorem Lo {lo:Int}{n:Nat}{g:TG}{tb:TS}{D:Ja}{σ:St}{H:Hp}(Pv:Nat->St->Hp->Prop)(h0:Pv 0 σ H)
  (hs:∀ i σ H,i<n->Pv i σ H->g (.int (lo+i)) σ H fun σ2 H2=>tb { D with nx:=Pv (i+1),ct:=Pv (i+1),bk:=D.nx } σ2 H2)(hd:∀ σ H,Pv n σ H->D.nx σ H) :
  ∃ W:Nat->Nat->St->Hp->Prop,(∃ m,W 0 m σ H)/\∀ i m σ H,W i m σ H ->
   ((Itr lo n).stop i H/\D.nx σ H)\/((Itr lo n).go i H/\∃ N:St->Hp->Prop,(∀ σ' H',N σ' H'->∃ m',m'<m/\W (i+1) m' σ' H')/\∀ x H',(Itr lo n).yld i H x H'->g x σ H' fun σ2 H2=>tb { D with nx:=N,ct:=N,bk:=D.nx } σ2 H2):=by
 refine ⟨fun i m σ H=>m=n-i/\i<=n/\Pv i σ H,⟨n,by simp,Nat.zero_le _,h0⟩,?_⟩
 rintro i m σ H ⟨rfl,hi,p⟩
 by_cases hlt:i<n
 ·refine .inr ⟨hlt,Pv (i+1),fun σ' H' p'=>⟨n-(i+1),by omega,rfl,hlt,p'⟩,fun x H' y=>?_⟩
  obtain ⟨e,y⟩:=y
  subst e y
  exact hs i σ _ hlt p
 ·have e:i=n:=by omega
  subst e
  exact .inl ⟨Nat.le_refl _,hd σ H p⟩
abbrev R2:=V->V->Hp->VK->Prop
def OpR (X:Cx)(f:Value->Value->Sem Value)(r:R2):Prop :=
 ∀ (pins:List (Addr×Obj)) (s:Shared) (σ:St) (H:Hp) (x y:V) (v u:Value) (Q:VK),Inv X pins σ H s->Bk x v->Bk y u->r x y H Q ->
  wpAny (model X.prog X.w) X.A (f v u) (EP X pins σ Q) X.xe s
def UnR (X:Cx)(f:Value->Sem Value)(r:V->Hp->VK->Prop):Prop :=
 ∀ (pins:List (Addr×Obj)) (s:Shared) (σ:St) (H:Hp) (x:V) (v:Value) (Q:VK),Inv X pins σ H s->Bk x v->r x H Q ->
  wpAny (model X.prog X.w) X.A (f v) (EP X pins σ Q) X.xe s
def Fo (X:Cx)(f:Value)(r:List V->Hp->VK->Prop):Prop :=
 ∀ (pins:List (Addr×Obj)) (s:Shared) (σ:St) (H:Hp) (xs:List V) (us:List Value) (Q:VK),Inv X pins σ H s->A6 xs us->r xs H Q ->
  wpAny (model X.prog X.w) X.A (call f us) (EP X pins σ Q) X.xe s
def tOp (r:R2)(ta tb:TE):TE:=fun σ H Q=>ta σ H fun x H1=>tb σ H1 fun y H2=>r x y H2 Q
def tUn (r:V->Hp->VK->Prop)(ta:TE):TE:=fun σ H Q=>ta σ H fun x H1=>r x H1 Q
def rI (C:Int->Int->Prop)(g:Int->Int->V):R2:=fun x y H Q=>∃ i j,x=.int i/\y=.int j/\C i j/\Q (g i j) H
def rI0 (g:Int->Int->V):R2:=fun x y H Q=>∃ i j,x=.int i/\y=.int j/\Q (g i j) H
def rU (g:Int->V):V->Hp->VK->Prop:=fun x H Q=>∃ i,x=.int i/\Q (g i) H
section
variable {X:Cx} {a b c:Expr} {ta tb tc:TE} {pos:Pos}
theorem uP (ha:PE X a ta)(hb:PE X b tb){pins:List (Addr×Obj)}{s:Shared}{σ:St}{H:Hp}{R:V->V->Hp->Prop}(I:Inv X pins σ H s)
  (h:ta σ H fun x H1=>tb σ H1 fun y H2=>R x y H2){Q:Value->Shared->Prop}{f:Value->Value->Sem Value}
  (hf:∀ v u s2 x y H2,Inv X pins σ H2 s2->Bk x v->Bk y u->R x y H2->wpAny (model X.prog X.w) X.A (f v u) Q X.xe s2) :
  wpAny (model X.prog X.w) X.A (eval a X.env) (fun v s₁=>wpAny (model X.prog X.w) X.A (eval b X.env) (fun u s₂=>wpAny (model X.prog X.w) X.A (f v u) Q X.xe s₂) X.xe s₁) X.xe s:=by
 refine thn (ha pins s σ H _ I h) fun v s1 ⟨x,H1,I1,r1,q1⟩=>?_
 refine thn (hb pins s1 σ H1 _ I1 q1) fun u s2 ⟨y,H2,I2,r2,q2⟩=>?_
 exact hf v u s2 x y H2 I2 r1 r2 q2
theorem Aj {op:Operator}{r:R2}(ho:OpR X (binaryOp op) r)(ha:PE X a ta)(hb:PE X b tb):PE X (.BinOp a op b pos) (tOp r ta tb):=by
 intro pins s σ H Q I h
 exact wpAny_BinOp (uP ha hb I h fun v u s2 x y H2 I2 rx ry q=>ho pins s2 σ H2 x y v u Q I2 rx ry q)
theorem Gh {op:UnaryOp}{r:V->Hp->VK->Prop}(ho:UnR X (unaryOp op) r)(ha:PE X a ta):PE X (.UnaryOp op a pos) (tUn r ta):=by
 intro pins s σ H Q I h
 exact UnaryOp_ (thn (ha pins s σ H _ I h) fun v s1 ⟨x,H1,I1,r1,q1⟩=>ho pins s1 σ H1 x v Q I1 r1 q1)
theorem opI {f:Value->Value->Sem Value}{C:Int->Int->Prop}{g:Int->Int->Int}
  (rule:∀ (i j:Int) (t u:Tok) (s:Shared) (Q:Value->Shared->Prop) (E:Value->Shared->Prop),C i j->Q (.int (g i j) s.toks) { s with toks:=s.toks+1 }->wpAny (model X.prog X.w) X.A (f (.int i t) (.int j u)) Q E s) :
  OpR X f (rI C fun i j=>.int (g i j)):=by
 intro pins s σ H x y v u Q I rx ry h
 obtain ⟨i,j,rfl,rfl,hc,q⟩:=h
 obtain ⟨t,rfl⟩:=rx
 obtain ⟨t',rfl⟩:=ry
 exact rule i j t t' s _ _ hc ⟨.int (g i j),H,I.tok _,⟨_,rfl⟩,q⟩
theorem oX {f:Value->Value->Sem Value}{g:Int->Int->Int}
  (rule:∀ (i j:Int) (t u:Tok) (s:Shared) (Q:Value->Shared->Prop) (E:Value->Shared->Prop),Q (.int (g i j) s.toks) { s with toks:=s.toks+1 }->wpAny (model X.prog X.w) X.A (f (.int i t) (.int j u)) Q E s) :
  OpR X f (rI0 fun i j=>.int (g i j)):=by
 intro pins s σ H x y v u Q I rx ry h
 obtain ⟨i,j,rfl,rfl,q⟩:=h
 obtain ⟨t,rfl⟩:=rx
 obtain ⟨t',rfl⟩:=ry
 exact rule i j t t' s _ _ ⟨.int (g i j),H,I.tok _,⟨_,rfl⟩,q⟩
theorem oQ {f:Value->Value->Sem Value}{g:Int->Int->Bool}
  (rule:∀ (i j:Int) (t u:Tok) (s:Shared) (Q:Value->Shared->Prop) (E:Value->Shared->Prop),Q (.bool (g i j)) s->wpAny (model X.prog X.w) X.A (f (.int i t) (.int j u)) Q E s) :
  OpR X f (rI0 fun i j=>.bl (g i j)):=by
 intro pins s σ H x y v u Q I rx ry h
 obtain ⟨i,j,rfl,rfl,q⟩:=h
 obtain ⟨t,rfl⟩:=rx
 obtain ⟨t',rfl⟩:=ry
 exact rule i j t t' s _ _ ⟨.bl (g i j),H,I,rfl,q⟩
def xZ (i j:Int):Prop:=0<j/\j<1073741824
def vV (i j:Int):Prop:=0<=j/\j<=1000000/\i.natAbs<2 ^ 64
def mI (i j:Int):Prop:=(-(2 ^ 64)<i/\i<2 ^ 64)\/(-(2 ^ 64)<j/\j<2 ^ 64)
theorem mI.ok {i j:Int}(h:mI i j):IntMulOk i j:=by
 rcases h with ⟨h1,h2⟩ | ⟨h1,h2⟩
 ·exact .of_left (intBits_le_64 h1 h2)
 ·exact .of_right (intBits_le_64 h1 h2)
theorem R5 (k:Nat):(0:Int)<=2 ^ k:=by
 rw [two_pow_cast]
 exact Int.natCast_nonneg _
theorem Bd:OpR X (binaryOp .Add) (rI0 fun i j=>.int (i+j)):=oX fun _ _ _ _ _ _ _ q=>add_int q
theorem Bn:OpR X (binaryOp .Sub) (rI0 fun i j=>.int (i-j)):=oX fun _ _ _ _ _ _ _ q=>sub_int q
theorem Hb:OpR X (binaryOp .Mult) (rI mI fun i j=>.int (i*j)):=opI fun _ _ _ _ _ _ _ hc q=>mul_int q hc.ok
theorem Dc:OpR X (binaryOp .FloorDiv) (rI xZ fun i j=>.int (i/j)):=opI fun i j _ _ _ _ _ hc q=>by
 have h1:(0:Int)<j:=hc.1
 have h2:j<1073741824:=hc.2
 exact floordiv_int (by omega) (by rw [Int.fdiv_eq_ediv_of_nonneg i (by omega)];exact q) (.inl (PyProof.noPylong_small (by omega)))
theorem Ek:OpR X (binaryOp .Mod) (rI (fun _ j=>0<j) fun i j=>.int (i%j)):=opI fun i j _ _ _ _ _ hc q=>by
 have h1:(0:Int)<j:=hc
 exact mod_int' (by omega) (by rw [Int.fmod_eq_emod_of_nonneg i (by omega)];exact q)
theorem uT:OpR X (binaryOp .Pow) (rI vV fun i j=>.int (i ^ j.toNat)):=opI fun _ _ _ _ _ _ _ hc q=>pow_int_small hc.1 hc.2.1 hc.2.2 q
theorem vE:OpR X (binaryOp .LShift) (rI vV fun i j=>.int (i*2 ^ j.toNat)):=opI fun _ _ _ _ _ _ _ hc q=>lshift_int_small hc.1 hc.2.1 hc.2.2 q
theorem cR:OpR X (binaryOp .RShift) (rI (fun _ j=>0<=j) fun i j=>.int (i/2 ^ j.toNat)):=opI fun i j _ _ _ _ _ hc q =>
 rshift_int hc (by rw [Int.fdiv_eq_ediv_of_nonneg i (R5 _)];exact q)
theorem Mj:OpR X (binaryOp .BitAnd) (rI0 fun i j=>.int (Builtin.bitAnd i j)):=oX fun _ _ _ _ _ _ _ q=>and_int q
theorem eK:OpR X (binaryOp .BitXor) (rI0 fun i j=>.int (Builtin.bitXor i j)):=oX fun _ _ _ _ _ _ _ q=>xor_int q
theorem eS:OpR X (inplaceOp .RShift) (rI (fun _ j=>0<=j) fun i j=>.int (i/2 ^ j.toNat)):=opI fun i j _ _ _ _ _ hc q =>
 irshift_int hc (by rw [Int.fdiv_eq_ediv_of_nonneg i (R5 _)];exact q)
theorem unI {f:Value->Sem Value}{g:Int->Int}
  (rule:∀ (i:Int) (t:Tok) (s:Shared) (Q:Value->Shared->Prop) (E:Value->Shared->Prop),Q (.int (g i) s.toks) { s with toks:=s.toks+1 }->wpAny (model X.prog X.w) X.A (f (.int i t)) Q E s) :
  UnR X f (rU fun i=>.int (g i)):=by
 intro pins s σ H x v Q I rx h
 obtain ⟨i,rfl,q⟩:=h
 obtain ⟨t,rfl⟩:=rx
 exact rule i t s _ _ ⟨.int (g i),H,I.tok _,⟨_,rfl⟩,q⟩
theorem Dy:UnR X (unaryOp .USub) (rU fun i=>.int (-i)):=unI fun _ _ _ _ _ q=>neg_int q
end
def qE:V->V->Bool
 | .non,.non=>true | .non,.int _=>true | .int _,.non=>true | .non,.bl _=>true | .bl _,.non=>true | .non,.str _=>true | .str _,.non=>true
 | .int _,.int _=>true | .bl _,.bl _=>true | .str _,.str _=>true | .byt _,.byt _=>true
 | .int _,.str _=>true | .str _,.int _=>true | .bl _,.str _=>true | .str _,.bl _=>true
 | _,_=>false
def rEq:R2:=fun x y H Q=>qE x y=true/\Q (.bl (decide (x=y))) H
def rNe:R2:=fun x y H Q=>qE x y=true/\Q (.bl (!decide (x=y))) H
theorem fN {i j:Int}:decide (V.int i=V.int j)=(i==j):=by
 rw [Bool.eq_iff_iff]
 simp
theorem jY {i j:Bool}:decide (V.bl i=V.bl j)=(i==j):=by
 rw [Bool.eq_iff_iff]
 simp
theorem fA {i j:Str}:decide (V.str i=V.str j)=(i==j):=by
 rw [Bool.eq_iff_iff]
 simp
theorem gK {i j:Array UInt8}:decide (V.byt i=V.byt j)=(i.toList==j.toList):=by
 rw [Bool.eq_iff_iff]
 cases i
 cases j
 simp
section
variable {X:Cx} {a b c:Expr} {ta tb tc:TE} {pos:Pos}
theorem Br {pins:List (Addr×Obj)}{σ:St}{H:Hp}{s:Shared}{Q:VK}{k k':Bool}(I:Inv X pins σ H s)(q:Q (.bl k) H)(e:k=k'):EP X pins σ Q (.bool k') s:=by
 subst e
 exact ⟨.bl k,H,I,rfl,q⟩
theorem Fm:OpR X (compareOp .Eq) rEq:=by
 intro pins s σ H x y v u Q I rx ry h
 obtain ⟨hs,q⟩:=h
 cases x with
 | non =>
  cases rx
  cases y with
  | non=>cases ry;exact PySem.EqNone.eq_none_none (Br I q (by simp))
  | bl j=>cases ry;exact PySem.EqNone.eq_none_bool (Br I q (by simp))
  | int j=>obtain ⟨t',rfl⟩:=ry;exact PySem.EqNone.eq_none_int (Br I q (by simp))
  | str j=>obtain ⟨t',rfl⟩:=ry;exact PySem.EqNone.eq_none_str (Br I q (by simp))
  | _=>exact absurd (show false=true from hs) Bool.false_ne_true
 | bl i =>
  cases rx
  cases y with
  | non=>cases ry;exact PySem.EqNone.eq_bool_none (Br I q (by simp))
  | bl j=>cases ry;exact eq_bool (Br I q jY)
  | str j=>obtain ⟨t',rfl⟩:=ry;exact PySem.EqMixed.eq_bool_str (Br I q (by simp))
  | _=>exact absurd (show false=true from hs) Bool.false_ne_true
 | int i =>
  obtain ⟨t,rfl⟩:=rx
  cases y with
  | non=>cases ry;exact PySem.EqNone.eq_int_none (Br I q (by simp))
  | int j=>obtain ⟨t',rfl⟩:=ry;exact eq_int (Br I q fN)
  | str j=>obtain ⟨t',rfl⟩:=ry;exact PySem.EqMixed.eq_int_str (Br I q (by simp))
  | _=>exact absurd (show false=true from hs) Bool.false_ne_true
 | str i =>
  obtain ⟨t,rfl⟩:=rx
  cases y with
  | non=>cases ry;exact PySem.EqNone.eq_str_none (Br I q (by simp))
  | bl j=>cases ry;exact PySem.EqMixed.eq_str_bool (Br I q (by simp))
  | int j=>obtain ⟨t',rfl⟩:=ry;exact PySem.EqMixed.eq_str_int (Br I q (by simp))
  | str j=>obtain ⟨t',rfl⟩:=ry;exact eq_str (Br I q fA)
  | _=>exact absurd (show false=true from hs) Bool.false_ne_true
 | byt i =>
  obtain ⟨t,rfl⟩:=rx
  cases y with
  | byt j=>obtain ⟨t',rfl⟩:=ry;exact PySem.W.eq_bytes (Br I q gK)
  | _=>exact absurd (show false=true from hs) Bool.false_ne_true
 | _=>cases y<;>exact absurd (show false=true from hs) Bool.false_ne_true
theorem U0:OpR X (compareOp .NotEq) rNe:=by
 intro pins s σ H x y v u Q I rx ry h
 obtain ⟨hs,q⟩:=h
 cases x with
 | non =>
  cases rx
  cases y with
  | non=>cases ry;exact PySem.EqNone.ne_none_none (Br I q (by simp))
  | bl j=>cases ry;exact PySem.EqNone.ne_none_bool (Br I q (by simp))
  | int j=>obtain ⟨t',rfl⟩:=ry;exact PySem.EqNone.ne_none_int (Br I q (by simp))
  | str j=>obtain ⟨t',rfl⟩:=ry;exact PySem.EqNone.ne_none_str (Br I q (by simp))
  | _=>exact absurd (show false=true from hs) Bool.false_ne_true
 | bl i =>
  cases rx
  cases y with
  | non=>cases ry;exact PySem.EqNone.ne_bool_none (Br I q (by simp))
  | bl j=>cases ry;exact ne_bool (Br I q (congrArg not jY))
  | str j=>obtain ⟨t',rfl⟩:=ry;exact PySem.EqMixed.ne_bool_str (Br I q (by simp))
  | _=>exact absurd (show false=true from hs) Bool.false_ne_true
 | int i =>
  obtain ⟨t,rfl⟩:=rx
  cases y with
  | non=>cases ry;exact PySem.EqNone.ne_int_none (Br I q (by simp))
  | int j=>obtain ⟨t',rfl⟩:=ry;exact ne_int (Br I q (congrArg not fN))
  | str j=>obtain ⟨t',rfl⟩:=ry;exact PySem.EqMixed.ne_int_str (Br I q (by simp))
  | _=>exact absurd (show false=true from hs) Bool.false_ne_true
 | str i =>
  obtain ⟨t,rfl⟩:=rx
  cases y with
  | non=>cases ry;exact PySem.EqNone.ne_str_none (Br I q (by simp))
  | bl j=>cases ry;exact PySem.EqMixed.ne_str_bool (Br I q (by simp))
  | int j=>obtain ⟨t',rfl⟩:=ry;exact PySem.EqMixed.ne_str_int (Br I q (by simp))
  | str j=>obtain ⟨t',rfl⟩:=ry;exact ne_str (Br I q (congrArg not fA))
  | _=>exact absurd (show false=true from hs) Bool.false_ne_true
 | byt i =>
  obtain ⟨t,rfl⟩:=rx
  cases y with
  | byt j=>obtain ⟨t',rfl⟩:=ry;exact PySem.W.ne_bytes (Br I q (congrArg not gK))
  | _=>exact absurd (show false=true from hs) Bool.false_ne_true
 | _=>cases y<;>exact absurd (show false=true from hs) Bool.false_ne_true
theorem L7:OpR X (compareOp .Lt) (rI0 fun i j=>.bl (decide (i<j))):=oQ fun _ _ _ _ _ _ _ q=>lt_int q
theorem Uj:OpR X (compareOp .LtE) (rI0 fun i j=>.bl (decide (i<=j))):=oQ fun _ _ _ _ _ _ _ q=>le_int q
theorem Ir:OpR X (compareOp .Gt) (rI0 fun i j=>.bl (decide (j<i))):=oQ fun _ _ _ _ _ _ _ q=>gt_int q
theorem lB:OpR X (compareOp .GtE) (rI0 fun i j=>.bl (decide (j<=i))):=oQ fun _ _ _ _ _ _ _ q=>ge_int q
theorem Aw (b:Expr){op:CmpOp}(h:op≠.In:=by decide)(h2:op≠.NotIn:=by decide):behindInMarks op b=false:=by
 have e1:(op==CmpOp.In)=false:=by cases op<;>first | rfl | exact absurd rfl h
 have e2:(op==CmpOp.NotIn)=false:=by cases op<;>first | rfl | exact absurd rfl h2
 cases b<;>simp [behindInMarks,e1,e2]
theorem G5 {op:CmpOp}{r:R2}(ho:OpR X (compareOp op) r)(ha:PE X a ta)(hb:PE X b tb)(hm:behindInMarks op b=false):PE X (.Compare a [op] [b] pos) (tOp r ta tb):=by
 intro pins s σ H Q I h
 exact wpAny_Compare1 (uP ha hb I h fun v u s2 x y H2 I2 rx ry q=>ho pins s2 σ H2 x y v u Q I2 rx ry q) hm
def rW (t:TE):TT:=fun σ H Q=>t σ H fun x H'=>∃ k,x=.bl k/\Q k H'
theorem As {op:CmpOp}{r:R2}(ho:OpR X (compareOp op) r)(ha:PE X a ta)(hb:PE X b tb)(hm:behindInMarks op b=false):PT X (.Compare a [op] [b] pos) (rW (tOp r ta tb)):=by
 intro pins s σ H Q I h
 refine wpAny_isTrue_Compare1 (thn (ha pins s σ H _ I h) fun v s1 ⟨x,H1,I1,r1,q1⟩=>thn (hb pins s1 σ H1 _ I1 q1) fun u s2 ⟨y,H2,I2,r2,q2⟩ =>
  thn (ho pins s2 σ H2 x y v u _ I2 r1 r2 q2) fun c s3 ⟨z,H3,I3,r3,k,e,q3⟩=>?_) hm
 subst e
 cases r3
 exact wpAny_truthy_bool ⟨H3,I3,q3⟩
def mE (r r':R2)(ta tb tc:TE):TE:=fun σ H Q=>ta σ H fun x H1=>tb σ H1 fun y H2=>r x y H2 fun z H3=>∃ k,z=.bl k /\
 (if k=true then tc σ H3 fun w' H4=>r' y w' H4 Q else Q (.bl false) H3)
theorem aV {op op':CmpOp}{r r':R2}(ho:OpR X (compareOp op) r)(ho':OpR X (compareOp op') r')(ha:PE X a ta)(hb:PE X b tb)(hc:PE X c tc)
  (hm:lastMarks [op,op'] [b,c]=false:=by with_unfolding_all rfl):PE X (.Compare a [op,op'] [b,c] pos) (mE r r' ta tb tc):=by
 intro pins s σ H Q I h
 refine Compare_chain (thn (ha pins s σ H _ I h) fun v s1 ⟨x,H1,I1,r1,q1⟩=>chain_link (thn (hb pins s1 σ H1 _ I1 q1) fun u s2 ⟨y,H2,I2,r2,q2⟩ =>
  thn (ho pins s2 σ H2 x y v u _ I2 r1 r2 q2) fun d s3 ⟨z,H3,I3,r3,k,e,q3⟩=>?_)) hm
 subst e
 cases r3
 refine wpAny_truthy_bool ?_
 cases k with
 | false=>exact ite_ff ⟨.bl false,H3,I3,rfl,q3⟩
 | true=>exact ite_tt (chain_last (thn (hc pins s3 σ H3 _ I3 q3) fun w' s4 ⟨z',H4,I4,r4,q4⟩=>ho' pins s4 σ H4 y z' u w' Q I4 r2 r4 q4))
theorem Kr:(sizeLine:Nat)<2 ^ 63:=by rw [sizeLine_eq];decide
theorem Mn:OpR X (binaryOp .Add) (fun x y H Q=>∃ i j,x=.str i/\y=.str j/\i.length+j.length<=sizeLine/\Q (.str (i++j)) H):=by
 intro pins s σ H x y v u Q I rx ry h
 obtain ⟨i,j,rfl,rfl,hz,q⟩:=h
 obtain ⟨t,rfl⟩:=rx
 obtain ⟨t',rfl⟩:=ry
 exact add_str (fun t' tk=>⟨.str (i++j),H,I.tok _,⟨_,rfl⟩,q⟩) hz
theorem Gc {x:V}{us:List Value}(r:A6 [x] us):∃ u,us=[u]/\Bk x u:=by
 cases r with
 | cons r1 r2=>cases r2;exact ⟨_,rfl,r1⟩
theorem Sm {x y:V}{us:List Value}(r:A6 [x,y] us):∃ u w',us=[u,w']/\Bk x u/\Bk y w':=by
 cases r with
 | cons r1 r2 =>
  cases r2 with
  | cons r3 r4=>cases r4;exact ⟨_,_,rfl,r1,r3⟩
theorem kP:Fo X (.builtin "abs") (fun xs H Q=>∃ i,xs=[.int i]/\Q (.int (if i<0 then -i else i)) H):=by
 intro pins s σ H xs us Q I r h
 obtain ⟨i,rfl,q⟩:=h
 obtain ⟨u,rfl,t,rfl⟩:=Gc r
 exact call_abs_int fun u tk=>⟨.int (if i<0 then -i else i),H,I.tok _,⟨_,rfl⟩,q⟩
theorem gL (hc:X.calm=true):Fo X (.builtin "max") (fun xs H Q=>∃ i j,xs=[.int i,.int j]/\Q (.int (if j>i then j else i)) H):=by
 intro pins s σ H xs us Q I r h
 obtain ⟨i,j,rfl,q⟩:=h
 obtain ⟨u,w',rfl,⟨t,rfl⟩,⟨t',rfl⟩⟩:=Sm r
 refine max_two_ints (I.ok.hd hc) fun h' tk k=>⟨_,H,I.kept k,?_,q⟩
 by_cases hj:j>i
 ·rw [if_pos hj,if_pos hj];exact ⟨_,rfl⟩
 ·rw [if_neg hj,if_neg hj];exact ⟨_,rfl⟩
theorem Ob (hc:X.calm=true):Fo X (.builtin "min") (fun xs H Q=>∃ i j,xs=[.int i,.int j]/\Q (.int (if j<i then j else i)) H):=by
 intro pins s σ H xs us Q I r h
 obtain ⟨i,j,rfl,q⟩:=h
 obtain ⟨u,w',rfl,⟨t,rfl⟩,⟨t',rfl⟩⟩:=Sm r
 refine min_two_ints (I.ok.hd hc) fun h' tk k=>⟨_,H,I.kept k,?_,q⟩
 by_cases hj:j<i
 ·rw [if_pos hj,if_pos hj];exact ⟨_,rfl⟩
 ·rw [if_neg hj,if_neg hj];exact ⟨_,rfl⟩
theorem hU:Fo X (.type "int") (fun xs H Q=>(∃ i,xs=[.int i]/\Q (.int i) H)\/∃ k,xs=[.bl k]/\Q (.int (if k then 1 else 0)) H):=by
 intro pins s σ H xs us Q I r h
 rcases h with ⟨i,rfl,q⟩ | ⟨k,rfl,q⟩
 ·obtain ⟨u,rfl,t,rfl⟩:=Gc r
  exact call_int_int ⟨.int i,H,I,⟨_,rfl⟩,q⟩
 ·obtain ⟨u,rfl,r1⟩:=Gc r
  cases r1
  exact call_int_bool ⟨.int (if k then 1 else 0),H,I.tok _,⟨_,rfl⟩,q⟩
end
structure cM (h:Heap) (x dx C:Addr) (mA:Str->Option Value):Prop where
 obj:h.get? x=some (PySem.W.instObj C dx)
 ns:h.Ns1 dx mA
 ne:dx≠x
theorem gV {h:Heap}{dx:Addr}{mA:Str->Option Value}(n:h.Ns1 dx mA):∃ od,h.get? dx=some od/\∀ name,PySem.W.lookIn name od=some (mA name):=by
 obtain ⟨o,es,ep,ho,hd,hk,_,hm⟩:=n
 refine ⟨o,ho,fun name=>?_⟩
 have e:=hm name
 unfold nsFind findBy at e
 rw [<- Array.find?_toList] at e
 unfold PySem.W.lookIn
 rw [hd]
 dsimp only
 split
 ·rename_i y q
  rw [q] at e
  exact congrArg some e
 ·rename_i q
  rw [q] at e
  have a:es.toList.any (·.refKey)=false:=by
   rw [List.any_eq_false]
   intro y hy
   obtain ⟨z,t,hkey⟩:=hk y (Array.mem_toList_iff.mp hy)
   simp [DictEntry.refKey,hkey]
  have a':¬ es.toList.any (·.refKey)=true:=by rw [a];exact Bool.false_ne_true
  rw [if_neg a']
  exact congrArg some e
theorem cM.look {h:Heap}{x dx C:Addr}{mA:Str->Option Value}(I:cM h x dx C mA):∃ od,PySem.W.InstAt h x (PySem.W.instObj C dx) C (some od)/\∀ name,PySem.W.lookIn name od=some (mA name) :=
 let ⟨od,ho,hl⟩:=gV I.ns
 ⟨od,⟨I.obj,rfl,rfl,ho⟩,hl⟩
section
variable {prog:Program} {w:World} {A:Around} {E:Value->Shared->Prop} {s:Shared} {K:PySem.W.Frag} {x dx C f:Addr} {mA:Str->Option Value} {name:Str} {v:Value}
theorem pA {expr:Bool}{Q:Value->Shared->Prop}(X:K.In s.heap)(I:cM s.heap x dx C mA)(hg:PySem.W.plainGet K C name=true)(hh:PySem.W.hasDictIn K C=true)
  (ha:PySem.W.findIn K (.ref C) name=some none)(hv:mA name=some v)(hv':PySem.W.handedIn v=true)(h:Q v { s with toks:=s.toks+1 }) :
  wpAny (model prog w) A (getAttr (.ref x) name expr) Q E s:=by
 obtain ⟨od,J,hl⟩:=I.look
 exact PySem.W.get_value X J (PySem.W.plainGet_of hg).1 (PySem.W.findObj_own hh ha rfl (by rw [hl,hv])) hv' h
theorem nR {pl:Sem Bool}{Q:Value×List Value->Shared->Prop}(X:K.In s.heap)(I:cM s.heap x dx C mA)(hg:PySem.W.plainGet K C name=true)
  (hf:PySem.W.findIn K (.ref C) name=some (some (.ref f)))(ht:PySem.W.isFn K (.ref f)=true)(hv:mA name=none)(h:Q (.ref f,[.ref x]) s) :
  wpAny (model prog w) A (getMethod (.ref x) name pl) Q E s:=by
 obtain ⟨od,J,hl⟩:=I.look
 exact PySem.W.method_fn X J (PySem.W.plainGet_of hg).1 (PySem.W.plainGet_of hg).2 hf (beq_iff_eq.mp ht) (by show (PySem.W.lookIn name od).map (·.isSome)=some false;rw [hl,hv];rfl) h
theorem qF {ns:List Str}{Q:Unit->Shared->Prop}(X:K.In s.heap)(I:cM s.heap x dx C mA)
  (hs:PySem.W.findIn K (.ref C) "__setattr__"=some (some (.builtin "object.__setattr__")))(hp:PySem.W.plainOver K C=true)(ht:PySem.W.takerIn K C name=some none)(hh:PySem.W.hasDictIn K C=true)
  (hw:PySem.Within mA ns)(hsz:ns.length<=sizeLine)
  (h:∀ h',cM h' x dx C (fun y=>if y=name then some v else mA y)->Heap.SameBut dx s.heap h'->Q () { s with heap:=h',toks:=s.toks+2 }) :
  wpAny (model prog w) A (setAttr (.ref x) name v) Q E s:=by
 obtain ⟨od,J,hl⟩:=I.look
 refine PySem.W.set_plain X J hs (PySem.W.osa_open (s:={ s with toks:=s.toks+1 }) (r:=none) X J hp ht fun b=>?_)
 obtain ⟨cd,hc,hd'⟩:=PySem.W.any_some hh
 have hx:s.heap.get? x=some ⟨.ref C,some dx,.plain,#[]⟩:=I.obj
 refine wpAny_bind (wpAny_pure (wpAny_bind (wpAny_bind (wpAny_loadPart hx (wpAny_bind (PySem.W.Looks.here (s:={ s with toks:=s.toks+1 }) (PySem.W.looks_clsIn X hc) ?_))))))
 rw [hd']
 refine wpAny_pure (a:=some dx) (wpAny_bind (wpAny_pure (wpAny_bind ?_)))
 refine wpAny_nsSet1 (s:={ s with toks:=s.toks+1 }) I.ns fun h' hn2 hs2=>?_
 obtain ⟨oD,esD,epD,hoD,hdD,hcD⟩:=hn2.count (PySem.Within.cons name v hw)
 refine wpAny_bind (wpAny_lookBehind hoD (by rw [hdD];exact pastItsLine_dict (Nat.le_trans hcD (by rw [List.length_cons];omega))) ?_)
 exact wpAny_pure (h _ ⟨(hs2.2 _ (Ne.symm I.ne)).trans I.obj,hn2,I.ne⟩ hs2)
theorem jM {R:Result->Shared->Prop}{vs:List Value}{kw:List (Str×Value)}(X:K.In s.heap)(hm:PySem.W.makesIn K C=true)
  (hi:PySem.W.findIn K (.ref C) "__init__"=some (some (.ref f)))(hf:PySem.W.typeIn K (.ref f)=some (.type "function"))
  (h:codeAny (model prog w) (A.under (.builtin "type.__call__" ⟨.ref C::vs,kw⟩)) (.call (.ref f) ⟨.ref (s.heap.objs.size+1)::vs,kw⟩) (PySem.W.InitBack (s.heap.objs.size+1) R)
   { s with heap:=(s.heap.push PySem.W.emptyDict).push (PySem.W.instObj C s.heap.objs.size) }) :
  codeAny (model prog w) A (.call (.ref C) ⟨vs,kw⟩) R s:=by
 obtain ⟨hh,g,d,t,os⟩:=s
 exact PySem.W.make_core (PySem.W.makes_of X hm) (PySem.W.looks_findIn X hi) (fun self=>PySem.W.bind_fn X self hf) (.inl rfl) h
end
def Gk (f : Str)(v : V) : List (Str × V)->List (Str × V)
  | [] => [(f, v)]
  | (g, x) :: r => if g = f then (g, v) :: r else (g, x) :: Gk f v r
theorem O5 (f g : Str)(v : V) : ∀ fs : List (Str × V), (Gk f v fs).lookup g = if g = f then some v else fs.lookup g
  | [] => by
    show List.lookup g [(f, v)] = _
    by_cases h : g = f
    · have hb : (g == f) = true := beq_iff_eq.mpr h
      simp only [List.lookup, hb, if_pos h]
    · have hb : (g == f) = false := beq_eq_false_iff_ne.mpr h
      simp only [List.lookup, hb, if_neg h]
  | (k, x) :: r => by
    have ih := O5 f g v r
    rw [show Gk f v ((k, x) :: r) = (if k = f then (k, v) :: r else (k, x) :: Gk f v r) from rfl]
    by_cases hk : k = f
    · rw [if_pos hk]
      by_cases h : g = k
      · have hb : (g == k) = true := beq_iff_eq.mpr h
        simp only [List.lookup, hb, if_pos (h.trans hk)]
      · have hb : (g == k) = false := beq_eq_false_iff_ne.mpr h
        simp only [List.lookup, hb, if_neg (fun e : g = f => h (e.trans hk.symm))]
    · rw [if_neg hk]
      by_cases h : g = k
      · have hb : (g == k) = true := beq_iff_eq.mpr h
        simp only [List.lookup, hb, if_neg (fun e : g = f => hk (h.symm.trans e))]
      · have hb : (g == k) = false := beq_eq_false_iff_ne.mpr h
        simp only [List.lookup, hb]
        exact ih
theorem Op (f : Str)(v : V) : ∀ fs : List (Str × V), f ∈ (Gk f v fs).map (·.1)/\∀ g, g ∈ fs.map (·.1)->g ∈ (Gk f v fs).map (·.1)
  | [] => ⟨by simp [Gk], fun g h => by simp at h⟩
  | (k, x) :: r => by
    obtain ⟨i1, i2⟩ := Op f v r
    rw [show Gk f v ((k, x) :: r) = (if k = f then (k, v) :: r else (k, x) :: Gk f v r) from rfl]
    by_cases hk : k = f
    · rw [if_pos hk]
      subst hk
      exact ⟨by simp, fun g h => by simpa using h⟩
    · rw [if_neg hk]
      refine ⟨?_, fun g h => ?_⟩
      · rw [List.map_cons]
        exact List.mem_cons_of_mem _ i1
      · rw [List.map_cons] at h ⊢
        rcases List.mem_cons.mp h with e | e
        · exact List.mem_cons.mpr (.inl e)
        · exact List.mem_cons_of_mem _ (i2 g e)
theorem Oy (f : Str)(v : V) : ∀ fs : List (Str × V), (Gk f v fs).length <= fs.length + 1
  | [] => by simp [Gk]
  | (k, x) :: r => by
    have ih := Oy f v r
    rw [show Gk f v ((k, x) :: r) = (if k = f then (k, v) :: r else (k, x) :: Gk f v r) from rfl]
    by_cases hk : k = f
    · rw [if_pos hk, List.length_cons, List.length_cons]; omega
    · rw [if_neg hk, List.length_cons, List.length_cons]; omega
theorem Tn.some_of {v:V}{o:Option Value}(r:Tn (some v) o):∃ u,o=some u/\Bk v u:=by
 cases o with
 | none=>exact (show False from r).elim
 | some u=>exact ⟨u,rfl,r⟩
theorem Tn.none_of {o:Option Value}(r:Tn none o):o=none:=by
 cases o with
 | none=>rfl
 | some u=>exact (show False from r).elim
theorem gX {v:V}{u:Value}(r:Bk v u):PySem.W.handedIn u=true:=by
 cases v with
 | non=>cases (show u=Value.none from r);rfl
 | bl b=>cases (show u=Value.bool b from r);rfl
 | int i=>obtain ⟨t,e⟩:=(show ∃ t,u=Value.int i t from r);cases e;rfl
 | str x=>obtain ⟨t,e⟩:=(show ∃ t,u=Value.str x t from r);cases e;rfl
 | byt b=>obtain ⟨t,e⟩:=(show ∃ t,u=Value.bytes b t from r);cases e;rfl
 | flt b=>obtain ⟨t,e⟩:=(show ∃ t,u=Value.float b t from r);cases e;rfl
 | ref a=>cases (show u=Value.ref a from r);rfl
 | ty n=>cases (show u=Value.type n from r);rfl
section
variable {P:Program} {w:World} {H H':Hp} {h h':Heap} {a C dx:Addr} {fs fs':List (Str×V)}
theorem Po (hok:HOk P w H h)(e:H a=some (.ins C dx fs)):∃ mA,cM h a dx C mA/\(∀ f,Tn (fs.lookup f) (mA f))/\PySem.Within mA (fs.map (·.1))/\fs.length<=1000/\H dx=some (.own a):=by
 obtain ⟨d,z,ne,ob,mA,n,r,q⟩:=(show Eh P w H h a (.ins C dx fs) from hok a _ e)
 exact ⟨mA,⟨ob,n,ne⟩,r,q,z,d⟩
end
structure Cls (K:PySem.W.Frag) (C:Addr):Prop where
 pg:PySem.W.plainGet K C Str.empty=true
 hd:PySem.W.hasDictIn K C=true
 po:PySem.W.plainOver K C=true
 sa:PySem.W.findIn K (.ref C) "__setattr__"=some (some (.builtin "object.__setattr__"))
theorem Cls.get {K:PySem.W.Frag}{C:Addr}(c:Cls K C)(f:Str):PySem.W.plainGet K C f=true:=c.pg
def Bv (K:PySem.W.Frag)(C:Addr)(f:Str):Prop:=PySem.W.findIn K (.ref C) f=some none
theorem Bv.taker {K:PySem.W.Frag}{C:Addr}{f:Str}(n:Bv K C f):PySem.W.takerIn K C f=some none:=by
 unfold PySem.W.takerIn
 rw [show PySem.W.findIn K (.ref C) f=some none from n]
 rfl
structure kM (K:PySem.W.Frag) (C:Addr) (m:Str) (f:Addr):Prop where
 at_:PySem.W.findIn K (.ref C) m=some (some (.ref f))
 fn:PySem.W.isFn K (.ref f)=true
 kp:PySem.W.keepIn K (.ref f)=true
section
variable {X:Cx} {pins:List (Addr×Obj)} {σ:St} {H:Hp} {s:Shared} {a C dx:Addr} {fs:List (Str×V)} {f:Str} {v:V} {A:Around} {E:Value->Shared->Prop}
theorem cH {b:Bool}{Q:Value->Shared->Prop}(I:Inv X pins σ H s)(e:H a=some (.ins C dx fs))(c:Cls X.K C)(n:Bv X.K C f)(l:fs.lookup f=some v)
  (h:∀ u s',Inv X pins σ H s'->Bk v u->Q u s'):wpAny (model X.prog X.w) A (getAttr (.ref a) f b) Q E s:=by
 obtain ⟨mA,O,r,_,_,_⟩:=Po I.hok e
 obtain ⟨u,hu,ru⟩:=Tn.some_of (v:=v) (o:=mA f) (by rw [<- l];exact r f)
 exact pA I.kIn O (c.get f) c.hd n hu (gX ru) (h u _ (I.tok _) ru)
theorem Md {m:Str}{g:Addr}{pl:Sem Bool}{Q:Value×List Value->Shared->Prop}(I:Inv X pins σ H s)(e:H a=some (.ins C dx fs))(c:Cls X.K C)(k:kM X.K C m g)(l:fs.lookup m=none)
  (h:Q (.ref g,[.ref a]) s):wpAny (model X.prog X.w) A (getMethod (.ref a) m pl) Q E s:=by
 obtain ⟨mA,O,r,_,_,_⟩:=Po I.hok e
 have hn:mA m=none:=Tn.none_of (by rw [<- l];exact r m)
 exact nR I.kIn O (c.get m) k.at_ k.fn hn h
theorem cQ {y:V}{u:Value}{Q:Unit->Shared->Prop}(I:Inv X pins σ H s)(e:H a=some (.ins C dx fs))(c:Cls X.K C)(n:Bv X.K C f)(hl:fs.length<1000)(ry:Bk y u)
  (h:∀ s',Inv X pins σ (upd H a (.ins C dx (Gk f y fs))) s'->Q () s'):wpAny (model X.prog X.w) A (setAttr (.ref a) f u) Q E s:=by
 obtain ⟨mA,O,r,wi,_,ho⟩:=Po I.hok e
 have hz:(fs.map (·.1)).length<=sizeLine:=by rw [List.length_map,sizeLine_eq];omega
 refine qF I.kIn O c.sa c.po n.taker c.hd wi hz fun h' O' sb=>h _ ?_
 have hd:∃ o,h'.get? dx=some o:=let ⟨o,_,_,e',_⟩:=O'.ns;⟨o,e'⟩
 refine I.write (x:=a) (e:=dx) (by rw [e];exact True.intro) (.inr ho) (fun b q hb z=>(sb.2 b hb).trans z) hd ?_
 refine ⟨by rw [Ap O.ne];exact ho,?_,O.ne,O'.obj,_,O'.ns,fun g=>?_,fun g hg=>?_⟩
 ·have:=Oy f y fs;omega
 ·show Tn ((Gk f y fs).lookup g) (if g=f then some u else mA g)
  rw [O5]
  by_cases q:g=f
  ·rw [if_pos q,if_pos q];exact ry
  ·rw [if_neg q,if_neg q];exact r g
 ·by_cases q:g=f
  ·rw [q];exact (Op f y fs).1
  ·refine (Op f y fs).2 g (wi g fun z=>hg ?_)
   show (if g=f then some u else mA g)=none
   rw [if_neg q];exact z
theorem Inv.made (I:Inv X pins σ H s):Inv X pins σ (upd (upd H s.heap.objs.size (.own (s.heap.objs.size+1))) (s.heap.objs.size+1) (.ins C s.heap.objs.size []))
  { s with heap:=(s.heap.push PySem.W.emptyDict).push (PySem.W.instObj C s.heap.objs.size) }:=by
 have e1:(s.heap.push PySem.W.emptyDict).get? s.heap.objs.size=some PySem.W.emptyDict:=Heap.get?_push_size s.heap rfl
 have e2:((s.heap.push PySem.W.emptyDict).push (PySem.W.instObj C s.heap.objs.size)).get? (s.heap.objs.size+1)=some (PySem.W.instObj C s.heap.objs.size):=by
  have:=Heap.get?_push_size (s.heap.push PySem.W.emptyDict) (o:=PySem.W.instObj C s.heap.objs.size) rfl
  rwa [Heap.size_push] at this
 have e3:(s.heap.push PySem.W.emptyDict).Ns s.heap.objs.size (fun _=>none):=⟨PySem.W.emptyDict,#[],_,e1,rfl,(fun e he=>absurd he (by simp)),fun _=>rfl⟩
 have I1:=I.laid (a:=s.heap.objs.size) (o:=.own (s.heap.objs.size+1)) (h':=s.heap.push PySem.W.emptyDict) (t':=s.toks) (fun b u q=>Heap.get?_push_of_some _ q) (Nat.le_refl _) ⟨_,e1⟩
 refine I1.laid (a:=s.heap.objs.size+1) (o:=.ins C s.heap.objs.size []) (t':=s.toks) (fun b u q=>Heap.get?_push_of_some _ q) (Nat.le_of_eq (Heap.size_push _ _)) ?_
 have ne:s.heap.objs.size≠s.heap.objs.size+1:=Nat.ne_of_lt (Nat.lt_succ_self _)
 refine ⟨by rw [Ap ne,Ac],Nat.zero_le _,ne,e2,fun _=>none,(Heap.Ns1.of_empty e3).at fun o q=>Heap.get?_push_of_some _ q,fun _=>True.intro,fun y hy=>absurd rfl hy⟩
theorem qG {prog:Program}{w:World}{env:Env}{e:Expr}{f:Str}{pos:Pos}{s:Shared}{Q:Value->Shared->Prop}(hb:attributeBase e f env (eval e env)=eval e env)
  (h:wpAny (model prog w) A (eval e env) (fun o s₁=>wpAny (model prog w) A (getAttr o f true) Q E s₁) E s):wpAny (model prog w) A (eval (.Attribute e f pos) env) Q E s :=
 Attribute_any_ h (by rw [arm_eval_Attribute,hb])
end
def vQ (K:PySem.W.Frag)(ta:TE)(f:Str):TE:=fun σ H Q=>ta σ H fun x H1=>∃ a C dx fs v,x=.ref a/\H1 a=some (.ins C dx fs)/\Cls K C/\Bv K C f/\fs.lookup f=some v/\Q v H1
def vY (K:PySem.W.Frag)(ta tv:TE)(f:Str):TS:=fun D σ H=>tv σ H fun y H1=>ta σ H1 fun x H2=>∃ a C dx fs,x=.ref a/\H2 a=some (.ins C dx fs)/\Cls K C/\Bv K C f/\fs.length<1000 /\
 D.nx σ (upd H2 a (.ins C dx (Gk f y fs)))
section
variable {X:Cx} {o e value:Expr} {f:Str} {pos pos' tpos:Pos} {ta tv:TE}
theorem A0 (he:PE X e ta)(hb:attributeBase e f X.env (eval e X.env)=eval e X.env):PE X (.Attribute e f pos) (vQ X.K ta f):=by
 intro pins s σ H Q I h
 refine qG hb (thn (he pins s σ H _ I h) fun u s1 ⟨x,H1,I1,rx,a,C,dx,fs,v,ex,ea,c,n,l,q⟩=>?_)
 subst ex
 obtain rfl:u=Value.ref a:=rx
 exact cH I1 ea c n l fun u' s2 I2 ru=>⟨v,H1,I2,ru,q⟩
theorem Ft (ha:PE X o ta)(hv:PE X value tv)(hs:swapsWith value (some (.Attribute o f pos')) pos.line X.env=pure false):PS X (.Assign [.Attribute o f pos'] value pos) (vY X.K ta tv f):=by
 intro pins s σ H D I h
 refine plainObj_wpAny_Assign_Attribute (thn (hv pins s σ H _ I h) fun u s1 ⟨y,H1,I1,ry,q⟩=>thn (ha pins s1 σ H1 _ I1 q) fun ov s2 ⟨x,H2,I2,rx,a,C,dx,fs,ex,ea,c,n,l,q2⟩=>?_) hs
 subst ex
 obtain rfl:ov=Value.ref a:=rx
 exact cQ I2 ea c n l ry fun s3 I3=>⟨σ,_,I3,q2⟩
theorem sH {pl:Sem Bool}{m:Str}{apos:Pos}{args:List Expr}{pins:List (Addr×Obj)}{s:Shared}{σ:St}{H:Hp}{Q:Value->Shared->Prop}{te:TE}(he:PE X e te)(I:Inv X pins σ H s)
  (h:te σ H fun x H1=>∃ a C dx fs g,x=.ref a/\H1 a=some (.ins C dx fs)/\Cls X.K C/\kM X.K C m g/\fs.lookup m=none /\
   ∀ s1,Inv X pins σ H1 s1->wpAny (model X.prog X.w) X.A (callWith pos (.ref g) [.ref a] (backTo pos (starEach args X.env)) (backToKw pos (keywordEach [] X.env))) Q X.xe s1)
  (ht:eval (.Call (.Attribute e m apos) args [] pos) X.env=(do
   let ov <- eval e X.env
   standAt apos.atName
   let (f,first) <- holding [ov] (getMethod ov m pl)
   callWith pos f first (backTo pos (starEach args X.env)) (backToKw pos (keywordEach [] X.env)))) :
  wpAny (model X.prog X.w) X.A (eval (.Call (.Attribute e m apos) args [] pos) X.env) Q X.xe s:=by
 refine PySem.W.methodCall_KW (pl:=pl) (thn (he pins s σ H _ I h) fun u s1 ⟨x,H1,I1,rx,a,C,dx,fs,g,ex,ea,c,k,l,q⟩=>?_) ht
 subst ex
 obtain rfl:u=Value.ref a:=rx
 exact Md I1 ea c k l (q s1 I1)
end
section
variable {X:Cx} {pins:List (Addr×Obj)} {σ:St} {H:Hp} {s:Shared} {A:Around} {E:Value->Shared->Prop} {Q:Value->Shared->Prop} {c:Value} {b:Bool}
inductive N0 (K:PySem.W.Frag) (H:Hp):V->Value->Prop where
 | non:N0 K H .non (.type "NoneType")
 | bl (x:Bool):N0 K H (.bl x) (.type "bool")
 | int (i:Int):N0 K H (.int i) (.type "int")
 | str (x:Str):N0 K H (.str x) (.type "str")
 | flt (x:UInt64):N0 K H (.flt x) (.type "float")
 | lst {a:Addr} {xs:List V} (e:H a=some (.lst xs)):N0 K H (.ref a) (.type "list")
 | frz {a:Addr} {o:Obj} {xs:List V} (e:H a=some (.frz o (.lst xs))):N0 K H (.ref a) (.type "list")
 | tup {a:Addr} {xs:List V} (e:H a=some (.tup xs)):N0 K H (.ref a) (.type "tuple")
 | dK {a:Addr} {kvs:List (Key×V)} (e:H a=some (.dK kvs)):N0 K H (.ref a) (.type "dict")
 | dT {a:Addr} {kvs:List (List Key×V)} (e:H a=some (.dT kvs)):N0 K H (.ref a) (.type "dict")
 | ins {a C dx:Addr} {fs:List (Str×V)} (e:H a=some (.ins C dx fs)) (cl:Cls K C) (ha:PySem.W.findIn K (.ref C) "__class__"=some (some (.builtin "object.__class__")))
   (hn:PySem.W.specialIn K (.builtin "object.__class__") "__get__"=some (some (.builtin "getset_descriptor.__get__"))) (htk:PySem.W.takesIn K (.builtin "object.__class__")=some true)
   (hm:PySem.W.mroIn K C (.type "object")=some true):N0 K H (.ref a) (.ref C)
theorem iH {x:V}{u t:Value}(I:Inv X pins σ H s)(rx:Bk x u)(ty:N0 X.K H x t)(e:PySem.W.kitOne X.K t c=some b)(h:∀ tk,Q (.bool b) { s with toks:=tk }) :
  wpAny (model X.prog X.w) A (call (.builtin "isinstance") [u,c]) Q E s:=by
 cases ty with
 | non=>cases (show u=Value.none from rx);exact PySem.W.kia_one PySem.W.kitx_none I.kIn True.intro e (fun z=>nomatch z) h
 | bl y=>cases (show u=Value.bool y from rx);exact PySem.W.kia_one PySem.W.kitx_bool I.kIn True.intro e (fun z=>nomatch z) h
 | int i=>obtain ⟨t,q⟩:=(show ∃ t,u=Value.int i t from rx);cases q;exact PySem.W.kia_one PySem.W.kitx_int I.kIn True.intro e (fun z=>nomatch z) h
 | str y=>obtain ⟨t,q⟩:=(show ∃ t,u=Value.str y t from rx);cases q;exact PySem.W.kia_one PySem.W.kitx_str I.kIn True.intro e (fun z=>nomatch z) h
 | flt y=>obtain ⟨t,q⟩:=(show ∃ t,u=Value.float y t from rx);cases q;exact PySem.W.kia_one PySem.W.kitx_float I.kIn True.intro e (fun z=>nomatch z) h
 | @lst a xs ea =>
  cases (show u=Value.ref a from rx)
  obtain ⟨_,_,n,_,h1⟩:=(show Eh X.prog X.w H s.heap a (.lst xs) from I.hok a _ ea)
  exact PySem.W.kia_one PySem.W.kitx_list I.kIn ⟨_,h1,rfl⟩ e (fun z=>nomatch z) h
 | @frz a ob xs ea =>
  cases (show u=Value.ref a from rx)
  obtain ⟨_,_,_,n,_,h1⟩:=(show Eh X.prog X.w H s.heap a (.frz ob (.lst xs)) from I.hok a _ ea)
  exact PySem.W.kia_one PySem.W.kitx_list I.kIn ⟨_,h1,rfl⟩ e (fun z=>nomatch z) h
 | @tup a xs ea =>
  cases (show u=Value.ref a from rx)
  obtain ⟨_,_,_,p⟩:=(show Eh X.prog X.w H s.heap a (.tup xs) from I.hok a _ ea)
  obtain ⟨o,h1,h2,_⟩:=p
  exact PySem.W.kia_one PySem.W.kitx_tuple I.kIn ⟨o,h1,h2⟩ e (fun z=>nomatch z) h
 | @dK a kvs ea =>
  cases (show u=Value.ref a from rx)
  obtain ⟨_,_,vs,_,p⟩:=(show Eh X.prog X.w H s.heap a (.dK kvs) from I.hok a _ ea)
  obtain ⟨o,es,ep,h1,h2,_⟩:=p
  exact PySem.W.kia_one PySem.W.kitx_dict I.kIn ⟨o,h1,h2.1⟩ e (fun z=>nomatch z) h
 | @dT a kvs ea =>
  cases (show u=Value.ref a from rx)
  obtain ⟨_,_,xs,_,o,es,ep,h1,h2,_⟩:=(show Eh X.prog X.w H s.heap a (.dT kvs) from I.hok a _ ea)
  exact PySem.W.kia_one PySem.W.kitx_dict I.kIn ⟨o,h1,h2.1⟩ e (fun z=>nomatch z) h
 | @ins a C dx fs ea cl ha hn htk hm =>
  cases (show u=Value.ref a from rx)
  obtain ⟨mA,O,_⟩:=Po I.hok ea
  obtain ⟨od,J,_⟩:=O.look
  exact PySem.W.kia_one (PySem.W.kitx_own (cl.get _) cl.hd ha hn htk hm) I.kIn J e (fun z=>nomatch z) h
end
structure Dd (k:Nat) (A:Around):Prop where
 hd:A.handled=none
 dp:A.depth+3*k+5<recursionLimit
 un:A.units+16*k+200<cLine
theorem Dd.mono {j k:Nat}{A:Around}(r:Dd k A)(h:j<=k):Dd j A:=⟨r.hd,by have:=r.dp;omega,by have:=r.un;omega⟩
theorem Dd.deeper {k:Nat}{A:Around}(r:Dd (k+1) A)(env:Env):Dd k (A.deeper env) :=
 ⟨r.hd,by have:=r.dp;show A.depth+1+3*k+5<_;omega,by have:=r.un;show A.units+3+16*k+200<_;omega⟩
theorem dD {A:Around}{C:Addr}{us:List Value}{kw:List (Str×Value)}:(A.under (.builtin "type.__call__" ⟨.ref C::us,kw⟩)).depth=A.depth+1:=by
 first | rfl | simp [Around.under,Code.weight,Code.isCreation,Code.isGuard,Code.isCaller,Code.frames,Code.isFrame,guardIds]
theorem eI {A:Around}{C:Addr}{us:List Value}{kw:List (Str×Value)}:(A.under (.builtin "type.__call__" ⟨.ref C::us,kw⟩)).units=A.units+1:=by
 first | rfl | simp [Around.under,Code.cUnits,Code.frames,Code.isFrame]
theorem Dd.make {k:Nat}{A:Around}(r:Dd (k+1) A)(C:Addr)(us:List Value)(kw:List (Str×Value)):Dd k (A.under (.builtin "type.__call__" ⟨.ref C::us,kw⟩)) :=
 ⟨r.hd,by have:=r.dp;rw [dD];omega,by have:=r.un;rw [eI];omega⟩
theorem Dd.depth {k:Nat}{A:Around}(r:Dd k A):A.depth<recursionLimit:=by have:=r.dp;omega
theorem Dd.units {k:Nat}{A:Around}(r:Dd k A):A.units+64<cLine:=by have:=r.un;omega
def cU:TA:=fun _ H Q=>Q [] H
def fI (ta:TE)(tr:TA):TA:=fun σ H Q=>ta σ H fun x H1=>tr σ H1 fun xs H2=>Q (x::xs) H2
section
variable {X:Cx} {e:Expr} {es:List Expr} {te:TE} {t:TA} {pos:Pos}
theorem Aa:PA X [] cU:=fun _ _ _ _ H Q I h=>Calls.spliced_nil ⟨[],H,I,.nil,h⟩
theorem fE (ha:PE X e te)(hr:PA X es t)(hs:starEach (e::es) X.env=(false,eval e X.env)::starEach es X.env:=by rfl):PA X (e::es) (fI te t):=by
 intro pos pins s σ H Q I h
 rw [hs]
 show wpAny _ _ (spliced ((false,eval e X.env)::backTo pos (starEach es X.env))) _ _ s
 refine Calls.spliced_cons (thn (ha pins s σ H _ I h) fun u s1 ⟨x,H1,I1,r1,q1⟩=>?_)
 exact thn (hr pos pins s1 σ H1 _ I1 q1) fun us s2 ⟨xs,H2,I2,r2,q2⟩=>⟨x::xs,H2,I2,.cons r1 r2,q2⟩
def xI (t:TA):TE:=fun σ H Q=>t σ H fun xs H1=>xs.length<=sizeLine/\∀ p,H1 p=none->Q (.ref p) (upd H1 p (.tup xs))
def wY (t:TA):TE:=fun σ H Q=>t σ H fun xs H1=>xs.length<=sizeLine/\∀ p,H1 p=none->Q (.ref p) (upd H1 p (.lst xs))
theorem N8 {x1}(h:PA X es t):PE X (.Tuple es x1 pos) (xI t):=by
 intro pins s σ H Q I hq
 refine wpAny_Tuple_spliced (thn (h pos pins s σ H _ I hq) fun us s1 ⟨xs,H1,I1,r,z,q⟩=>⟨by rw [<- r.length];exact z,?_⟩)
 have hf:H1 s1.heap.objs.size=none:=I1.hok.fresh (Nat.le_refl _)
 refine ⟨.ref s1.heap.objs.size,upd H1 s1.heap.objs.size (.tup xs),I1.laid (t':=s1.toks) (fun b u e=>Heap.get?_push_of_some _ e) (Nat.le_refl _) ?_,rfl,q _ hf⟩
 exact ⟨z,us,r,⟨_,Heap.get?_push_size _ rfl,rfl,_,rfl⟩⟩
theorem By (h:PA X es t):PE X (.List es pos) (wY t):=by
 intro pins s σ H Q I hq
 refine wpAny_List_spliced (thn (h pos pins s σ H _ I hq) fun us s1 ⟨xs,H1,I1,r,z,q⟩=>⟨by rw [<- r.length];exact z,?_⟩)
 have hf:H1 s1.heap.objs.size=none:=I1.hok.fresh (Nat.le_refl _)
 refine ⟨.ref s1.heap.objs.size,upd H1 s1.heap.objs.size (.lst xs),I1.laid (t':=s1.toks) (fun b u e=>Heap.get?_push_of_some _ e) (Nat.le_refl _) ?_,rfl,q _ hf⟩
 exact ⟨z,us,0,r,Heap.get?_push_size _ rfl⟩
end
abbrev Sp:=List V->Hp->VK->XK->Prop
abbrev CXT:=List Env->Hp->Shared->XK->Value->Shared->Prop
structure Th (P:Program) (w:World) (K:PySem.W.Frag) (mg:Str->Option Value) (base:Heap) (A:Around) (outer:List Env) (s:Shared) (H:Hp):Prop where
 frames:A.frames=some outer
 mod:Mod K mg base
 bs:∀ b o,base.get? b=some o->s.heap.get? b=some o/\H b=none
 bsz:base.objs.size<=s.heap.objs.size
 funs:s.heap.FunFrames base outer
 frf:∀ b∈frs outer,H b=none
 hok:HOk P w H s.heap
 bare:AllBare s.gens
def CE (outer:List Env)(P:Program)(w:World)(H:Hp)(s:Shared)(Q:VK)(u:Value)(s':Shared):Prop :=
 ∃ v H',s'.os=s.os/\AllBare s'.gens/\Un (frs outer) [] H H' s.heap s'.heap/\HOk P w H' s'.heap/\Bk v u/\Q v H'
def CR (CX:CXT)(outer:List Env)(P:Program)(w:World)(H:Hp)(s:Shared)(Q:VK)(E:XK)(r:Result)(s':Shared):Prop :=
 match r with
 | .ok (.ret u)=>CE outer P w H s Q u s'
 | .ok _=>False
 | .error e=>CX outer H s E e s'
structure Ax (P:Program) (w:World) (K:PySem.W.Frag) (mg:Str->Option Value) (base:Heap) (CX:CXT) (k:Nat) (f:Addr) (fd:FuncData) (ps:List Str) (sp:Sp):Prop where
 len:∀ vs H Q E,sp vs H Q E->vs.length=ps.length
 run:∀ (A:Around) (outer:List Env) (s:Shared) (H:Hp) (args:Args) (us:List Value) (vs:List V) (Q:VK) (E:XK),Dd k A->Th P w K mg base A outer s H->BindsTo s fd args (ps.zip us)->A6 vs us->sp vs H Q E ->
  codeAny (model P w) A (.call (.ref f) args) (CR CX outer P w H s Q E) s
theorem Th.make {P:Program}{w:World}{K:PySem.W.Frag}{mg:Str->Option Value}{base:Heap}{A:Around}{outer:List Env}{s:Shared}{H:Hp}(e:Th P w K mg base A outer s H)(C:Addr)(us:List Value)(kw:List (Str×Value)) :
  Th P w K mg base (A.under (.builtin "type.__call__" ⟨.ref C::us,kw⟩)) outer s H:=⟨by first | exact e.frames | (simpa [Around.under,Code.envs,Code.isFrame,pushEnvs] using e.frames),e.mod,e.bs,e.bsz,e.funs,e.frf,e.hok,e.bare⟩
section
variable {X:Cx} {pins:List (Addr×Obj)} {σ:St} {H:Hp} {s s':Shared}
theorem Inv.env0 (I:Inv X pins σ H s):Th X.prog X.w X.K X.mg X.base X.A X.stack s H :=
 ⟨I.ok.frames,I.ok.mod,I.bs,Nat.le_trans I.ok.bsz I.sz,I.stack,I.stkFree,I.hok,I.bare⟩
theorem Inv.after {Q:VK}{u:Value}(I:Inv X pins σ H s)(h:CE X.stack X.prog X.w H s Q u s'):EP X pins σ Q u s':=by
 obtain ⟨v,H',os,bare,un,hok,r,q⟩:=h
 obtain ⟨hh,g,d,t,os'⟩:=s'
 obtain rfl:os'=s.os:=os
 exact ⟨v,H',I.call (h':=hh) (g':=g) (d':=d) (t':=t) (ch:=[]) un hok bare (fun b z=>absurd z (by simp)),r,q⟩
end
def fQ (sp:Sp)(dvs:List V)(E:XK)(t:TA):TE:=fun σ H Q=>t σ H fun vs H1=>sp (vs++dvs) H1 Q E
def Z8 (C:Addr)(m:Str)(sp:Sp)(dvs:List V)(E:XK)(ta:TE)(t:TA):TE:=fun σ H Q=>ta σ H fun x H1=>∃ a dx fs,x=.ref a/\H1 a=some (.ins C dx fs)/\fs.lookup m=none /\
 t σ H1 fun vs H2=>sp (x::(vs++dvs)) H2 Q E
def kJ (C:Addr)(sp:Sp)(dvs:List V)(E:XK)(t:TA):TE:=fun σ H Q=>t σ H fun vs H1=>∀ x dx,H1 x=none->H1 dx=none->dx≠x ->
 sp (.ref x::(vs++dvs)) (upd (upd H1 dx (.own x)) x (.ins C dx [])) (fun v H2=>v=.non/\Q (.ref x) H2) E
def Gp (K:PySem.W.Frag)(fd:FuncData)(ps:List Str)(ds:List Value):Prop :=
 ∀ (s:Shared) (us:List Value),K.In s.heap->(us++ds).length=ps.length->BindsTo s fd ⟨us,[]⟩ (ps.zip (us++ds))
theorem Gp.all {K:PySem.W.Frag}{fd:FuncData}{ps:List Str}(h:∀ us:List Value,us.length=ps.length->bindArgs fd ⟨us,[]⟩=pure (ps.zip us)):Gp K fd ps []:=fun s us _ hl=>by
 rw [List.append_nil] at hl ⊢
 exact .of_eq (h us hl)
def L8 (CX:CXT)(X:Cx)(E:XK):Prop:=∀ (pins:List (Addr×Obj)) (σ:St) (H:Hp) (s:Shared) (e:Value) (s':Shared),Inv X pins σ H s->CX X.stack H s E e s'->X.xe e s'
section
variable {X:Cx} {CX:CXT} {k:Nat} {f C:Addr} {fd:FuncData} {ps:List Str} {sp:Sp} {dvs:List V} {ds:List Value} {E:XK} {x m:Str} {p pos apos:Pos} {e o:Expr} {es:List Expr} {ta:TE} {t:TA}
theorem Xv {pins:List (Addr×Obj)}{σ:St}{H:Hp}{s:Shared}{Q:VK}{us:List Value}{vs:List V}(F:Ax X.prog X.w X.K X.mg X.base CX k f fd ps sp)(hr:Dd k X.A)(hb:Gp X.K fd ps ds)(hd:A6 dvs ds)(hx:L8 CX X E)
  (I:Inv X pins σ H s)(r:A6 vs us)(h:sp (vs++dvs) H Q E):wpAny (model X.prog X.w) X.A (call (.ref f) us) (EP X pins σ Q) X.xe s:=by
 have r2:A6 (vs++dvs) (us++ds):=r.append hd
 have hl:(us++ds).length=ps.length:=by rw [<- r2.length];exact F.len _ _ _ _ h
 refine wpAny_call (codeAny_mono (F.run X.A X.stack s H ⟨us,[]⟩ (us++ds) (vs++dvs) Q E hr I.env0 (hb s us I.kIn hl) r2 h) fun r s' hq=>?_)
 cases r with
 | error e=>exact hx pins σ H s e s' I hq
 | ok fl =>
  cases fl with
  | ret u=>exact I.after hq
  | next=>exact False.elim hq
  | brk=>exact False.elim hq
  | cont=>exact False.elim hq
theorem oW (F:Ax X.prog X.w X.K X.mg X.base CX k f fd ps sp)(hr:Dd k X.A)(hg:Gl X x)(hm:X.mg x=some (.ref f))(hk:PySem.W.keepIn X.K (.ref f)=true)(hb:Gp X.K fd ps ds)(hd:A6 dvs ds)(hx:L8 CX X E)
  (ha:PA X (e::es) t)(hdb:(x==("__debug__":Str))=false:=by decide)(he:starEach (e::es) X.env=(false,eval e X.env)::starEach es X.env:=by rfl)(hpl:(backTo pos (starEach es X.env)).any (·.1)=false:=by rfl) :
  PE X (.Call (.Name x p) (e::es) [] pos) (fQ sp dvs E t):=by
 intro pins s σ H Q I h
 refine wpAny_Call_Name_kw (M8 I hg hm ?_ hdb)
 refine PySem.W.callWith_K (h₀:=X.base) I.ok.mod.kin hk (thn (ha pos pins s σ H _ I h) fun us s1 ⟨vs,H1,I1,r,q⟩=>⟨I1.kIn,?_⟩) he hpl
 exact Xv F hr hb hd hx I1 r q
theorem qB {pl:Sem Bool}(he:PE X o ta)(c:Cls X.K C)(hm:kM X.K C m f)(F:Ax X.prog X.w X.K X.mg X.base CX k f fd ps sp)(hr:Dd k X.A)(hb:Gp X.K fd ps ds)(hd:A6 dvs ds)(hx:L8 CX X E)(ha:PA X (e::es) t)
  (hst:starEach (e::es) X.env=(false,eval e X.env)::starEach es X.env:=by rfl)(hpl:(backTo pos (starEach es X.env)).any (·.1)=false:=by rfl)
  (ht:eval (.Call (.Attribute o m apos) (e::es) [] pos) X.env=(do
   let ov <- eval o X.env
   standAt apos.atName
   let (f,first) <- holding [ov] (getMethod ov m pl)
   callWith pos f first (backTo pos (starEach (e::es) X.env)) (backToKw pos (keywordEach [] X.env))):=by rfl) :
  PE X (.Call (.Attribute o m apos) (e::es) [] pos) (Z8 C m sp dvs E ta t):=by
 intro pins s σ H Q I h
 refine PySem.W.methodCall_KW (pl:=pl) (thn (he pins s σ H _ I h) fun u s1 ⟨x,H1,I1,rx,a,dx,fs,ex,ea,l,q⟩=>?_) ht
 subst ex
 obtain rfl:u=Value.ref a:=rx
 refine Md I1 ea c hm l ?_
 refine PySem.W.callWith_K (first:=[.ref a]) (h₀:=X.base) I.ok.mod.kin hm.kp (thn (ha pos pins s1 σ H1 _ I1 q) fun us s2 ⟨vs,H2,I2,r,q2⟩=>⟨I2.kIn,?_⟩) hst hpl
 exact Xv (us:=.ref a::us) (vs:=.ref a::vs) F hr hb hd hx I2 (.cons rfl r) q2
theorem jQ {pl:Sem Bool}(he:PE X o ta)(c:Cls X.K C)(hm:kM X.K C m f)(F:Ax X.prog X.w X.K X.mg X.base CX k f fd ps sp)(hr:Dd k X.A)(hb:Gp X.K fd ps ds)(hd:A6 dvs ds)(hx:L8 CX X E)
  (ht:eval (.Call (.Attribute o m apos) [] [] pos) X.env=(do
   let ov <- eval o X.env
   standAt apos.atName
   let (f,first) <- holding [ov] (getMethod ov m pl)
   callWith pos f first (backTo pos (starEach [] X.env)) (backToKw pos (keywordEach [] X.env))):=by rfl) :
  PE X (.Call (.Attribute o m apos) [] [] pos) (Z8 C m sp dvs E ta cU):=by
 intro pins s σ H Q I h
 refine PySem.W.methodCall_KW (pl:=pl) (thn (he pins s σ H _ I h) fun u s1 ⟨x,H1,I1,rx,a,dx,fs,ex,ea,l,q⟩=>?_) ht
 subst ex
 obtain rfl:u=Value.ref a:=rx
 refine Md I1 ea c hm l ?_
 exact PySem.W.callWith_K0 (first:=[.ref a]) I1.kIn hm.kp (Xv (us:=[.ref a]) (vs:=[.ref a]) F hr hb hd hx I1 (.cons rfl .nil) q)
structure Mk (K:PySem.W.Frag) (C f:Addr):Prop where
 makes:PySem.W.makesIn K C=true
 init:PySem.W.findIn K (.ref C) "__init__"=some (some (.ref f))
 fn:PySem.W.isFn K (.ref f)=true
 kp:PySem.W.keepIn K (.ref C)=true
theorem mZ {pins:List (Addr×Obj)}{σ:St}{H:Hp}{s:Shared}{Q:VK}{us:List Value}{vs:List V}(M:Mk X.K C f)(F:Ax X.prog X.w X.K X.mg X.base CX k f fd ps sp)(hr:Dd (k+1) X.A)(hb:Gp X.K fd ps ds)(hd:A6 dvs ds)
  (hx:L8 CX X E)(I:Inv X pins σ H s)(r:A6 vs us)
  (h:∀ x dx,H x=none->H dx=none->dx≠x->sp (.ref x::(vs++dvs)) (upd (upd H dx (.own x)) x (.ins C dx [])) (fun v H2=>v=.non/\Q (.ref x) H2) E) :
  wpAny (model X.prog X.w) X.A (call (.ref C) us) (EP X pins σ Q) X.xe s:=by
 have hq:=h (s.heap.objs.size+1) s.heap.objs.size (I.hok.fresh (Nat.le_succ _)) (I.hok.fresh (Nat.le_refl _)) (Nat.ne_of_lt (Nat.lt_succ_self _))
 have I2:=Inv.made (C:=C) I
 have r2:A6 (V.ref (s.heap.objs.size+1)::(vs++dvs)) (Value.ref (s.heap.objs.size+1)::(us++ds)):=.cons rfl (r.append hd)
 have hl:(Value.ref (s.heap.objs.size+1)::us++ds).length=ps.length:=by
  have e:=r2.length
  rw [F.len _ _ _ _ hq] at e
  exact e.symm
 refine wpAny_call (jM (f:=f) I.kIn M.makes M.init (beq_iff_eq.mp M.fn) (codeAny_mono (F.run _ X.stack _ _ ⟨Value.ref (s.heap.objs.size+1)::us,[]⟩ (Value.ref (s.heap.objs.size+1)::(us++ds)) _ _ E (hr.make C us [])
  (I2.env0.make C us []) (hb _ (Value.ref (s.heap.objs.size+1)::us) I2.kIn hl) r2 hq) fun r s' hq'=>?_))
 cases r with
 | error e=>exact hx pins σ _ _ e s' I2 hq'
 | ok fl =>
  cases fl with
  | ret u =>
   obtain ⟨v,H',I3,rv,ev,q3⟩:=I2.after hq'
   subst ev
   exact ⟨rv,⟨V.ref (s.heap.objs.size+1),H',I3,rfl,q3⟩⟩
  | next=>exact False.elim hq'
  | brk=>exact False.elim hq'
  | cont=>exact False.elim hq'
theorem pV (M:Mk X.K C f)(F:Ax X.prog X.w X.K X.mg X.base CX k f fd ps sp)(hr:Dd (k+1) X.A)(hg:Gl X x)(hm:X.mg x=some (.ref C))(hb:Gp X.K fd ps ds)(hd:A6 dvs ds)(hx:L8 CX X E)
  (ha:PA X (e::es) t)(hdb:(x==("__debug__":Str))=false:=by decide)(he:starEach (e::es) X.env=(false,eval e X.env)::starEach es X.env:=by rfl)(hpl:(backTo pos (starEach es X.env)).any (·.1)=false:=by rfl) :
  PE X (.Call (.Name x p) (e::es) [] pos) (kJ C sp dvs E t):=by
 intro pins s σ H Q I h
 refine wpAny_Call_Name_kw (M8 I hg hm ?_ hdb)
 refine PySem.W.callWith_K (h₀:=X.base) I.ok.mod.kin M.kp (thn (ha pos pins s σ H _ I h) fun us s1 ⟨vs,H1,I1,r,q⟩=>⟨I1.kIn,?_⟩) he hpl
 exact mZ M F hr hb hd hx I1 r q
end
structure Ai (N P:List Str) (sc:Scope):Prop where
 kind:sc.kind=.function
 co:sc.isCoroutine=false
 gen:sc.isGenerator=false
 nd:N.Nodup
 pre:N.take P.length=P
 par:∀ x∈P,sc.names.lookup x=some .local\/sc.names.lookup x=some .cell
 nofree:∀ y∈sc.names,y.2≠.free
theorem Uf {kindOf : Str->Option NameKind}{x : Str} : ∀ {binds : List (Str × Value)} {m : Str->Option Value}, (∀ v, (x, v) ∉ binds)->bindL kindOf binds m x = m x
  | [], _, _ => rfl
  | (n, v) :: r, m, h => by
    unfold bindL
    rw [Uf fun w hw => h w (List.mem_cons_of_mem _ hw)]
    split
    · have : x ≠ n := by rintro rfl; exact h v List.mem_cons_self
      simp [this]
    · rfl
theorem Tz {kindOf : Str->Option NameKind}{x : Str} : ∀ {binds : List (Str × Value)} {m : Str->Option Value}, (∀ v, (x, v) ∉ binds)->bindC kindOf binds m x = m x
  | [], _, _ => rfl
  | (n, v) :: r, m, h => by
    unfold bindC
    rw [Tz fun w hw => h w (List.mem_cons_of_mem _ hw)]
    split
    · rfl
    · have : x ≠ n := by rintro rfl; exact h v List.mem_cons_self
      simp [this]
theorem Uv {kindOf:Str->Option NameKind}{x:Str}{v:Value}:∀ {P:List Str} {vs:List Value} {i:Nat} {m:Str->Option Value},P.Nodup->P[i]?=some x->vs[i]?=some v->kindOf x=some .local ->
  bindL kindOf (P.zip vs) m x=some v
 | [],_,_,_,_,h,_,_=>by simp at h
 | _::_,[],_,_,_,_,h,_=>by simp at h
 | p::P,w::vs,0,m,nd,h1,h2,hk=>by
  simp at h1 h2;subst h1;subst h2
  show bindL kindOf ((p,w)::P.zip vs) m p=_
  unfold bindL
  rw [Uf fun v hv=>(List.nodup_cons.mp nd).1 (List.of_mem_zip hv).1,if_pos hk]
  simp
 | p::P,w::vs,i+1,m,nd,h1,h2,hk=>by
  show bindL kindOf ((p,w)::P.zip vs) m x=_
  unfold bindL
  exact Uv (i:=i) (List.nodup_cons.mp nd).2 (by simpa using h1) (by simpa using h2) hk
theorem Ub {kindOf:Str->Option NameKind}{x:Str}{v:Value}:∀ {P:List Str} {vs:List Value} {i:Nat} {m:Str->Option Value},P.Nodup->P[i]?=some x->vs[i]?=some v->kindOf x≠some .local ->
  bindC kindOf (P.zip vs) m x=some v
 | [],_,_,_,_,h,_,_=>by simp at h
 | _::_,[],_,_,_,_,h,_=>by simp at h
 | p::P,w::vs,0,m,nd,h1,h2,hk=>by
  simp at h1 h2;subst h1;subst h2
  show bindC kindOf ((p,w)::P.zip vs) m p=_
  unfold bindC
  rw [Tz fun v hv=>(List.nodup_cons.mp nd).1 (List.of_mem_zip hv).1,if_neg hk]
  simp
 | p::P,w::vs,i+1,m,nd,h1,h2,hk=>by
  show bindC kindOf ((p,w)::P.zip vs) m x=_
  unfold bindC
  exact Ub (i:=i) (List.nodup_cons.mp nd).2 (by simpa using h1) (by simpa using h2) hk
def Mp (N:List Str)(vs:List V):St:=vs.map some++List.replicate (N.length-vs.length) none
def cY (CX:CXT)(P:Program)(w:World)(K:PySem.W.Frag)(mg:Str->Option Value)(base:Heap)(N:List Str)(qual:Str)(scope:Scope)(f:Addr)(cd:Value)(A:Around)(outer:List Env)(s:Shared)(H:Hp)(E:XK):Cx where
 prog:=P
 w:=w
 K:=K
 mg:=mg
 base:=base
 A:=A.deeper (envOfC qual scope s.heap.objs.size f cd)
 N:=N
 s₀:=s
 H₀:=H
 env:=envOfC qual scope s.heap.objs.size f cd
 outer:=outer
 stack:=envOfC qual scope s.heap.objs.size f cd::outer
 ex:=[]
 calm:=true
 fn:=fun _=>true
 pn:=[]
 xe:=fun e s'=>wpAny (model P w) (A.deeper (envOfC qual scope s.heap.objs.size f cd)) (leaving (envOfC qual scope s.heap.objs.size f cd) e) (fun _ s''=>CX outer H s E e s'') (fun e' s''=>CX outer H s E e' s'') s'
theorem aI {sc:Scope}{n:Nat}{x:Str}(h:sc.names.lookup x=some .cell):∃ c,(cellsFrom n sc.names []).lookup x=some c:=by
 have q:=PySem.W.cellsFrom_some sc.names n [] (.inl h)
 exact Option.isSome_iff_exists.mp q
theorem gU {CX:CXT}{P:Program}{w:World}{K:PySem.W.Frag}{mg:Str->Option Value}{base:Heap}{N ps:List Str}{qual:Str}{scope:Scope}{f:Addr}{cd:Value}{A:Around}{outer:List Env}{s s1:Shared}{H:Hp}{E:XK}{us:List Value}{vs:List V}
  (S:Ai N ps scope)(hd:A.handled=none)(e0:Th P w K mg base A outer s H)(hl:vs.length=ps.length)(r:A6 vs us)
  (x:InCallC s s.heap.objs.size (bindL (envOfC qual scope s.heap.objs.size f cd).kindOf (ps.zip us) fun _=>none) (cellsFrom (s.heap.objs.size+1) scope.names []) (bindC (envOfC qual scope s.heap.objs.size f cd).kindOf (ps.zip us) fun _=>none) s1) :
  Inv (cY CX P w K mg base N qual scope f cd A outer s H E) [] (Mp N vs) H s1:=by
 have hpl:ps.length<=N.length:=by have:=congrArg List.length S.pre;rw [List.length_take] at this;omega
 obtain ⟨h1,tk,rfl,hk⟩:=x.done
 have noA:∀ b:Addr,b∉(cY CX P w K mg base N qual scope f cd A outer s H E).ex:=fun b z=>absurd (show b∈([]:List Addr) from z) (by simp)
 refine ⟨⟨e0.mod,S.kind,rfl,rfl,Nat.le_refl _,fun y z c h1 h2=>?_,fun y hy=>?_,fun y c _ h=>?_,fun _=>hd,Around.frames_deeper e0.frames,.inr ⟨rfl,rfl⟩,fun b z=>absurd z (noA b),e0.bs,e0.bsz,fun b _ _=>noA b,fun b z=>absurd z (noA b),e0.funs,e0.frf⟩,
  rfl,e0.bare,Un.kept hk,⟨_,x.toInCall.ns,fun i y v h1 h2 h3=>?_⟩,fun y c h=>⟨_,x.cell y c h⟩,e0.hok.fresh (Nat.le_refl _),fun y c h=>?_,fun p hp=>absurd (show p∈([]:List (Addr×Obj)) from hp) (by simp),e0.hok.kept hk,?_⟩
 ·exact name_of_addr x.apart (PySem.mem_of_lookup h1) (PySem.mem_of_lookup h2)
 ·have hy:scope.names.lookup y=some .cell\/scope.names.lookup y=some .free:=hy
  rcases hy with hy | hy
  ·exact aI hy
  ·exact absurd rfl (S.nofree _ (PySem.mem_of_lookup hy))
 ·exact Nat.le_of_lt (x.above y c (PySem.mem_of_lookup h))
 ·have hi:i<vs.length:=by
   unfold Mp at h2
   by_cases hi:i<vs.length
   ·exact hi
   ·rw [List.getElem?_append_right (by simpa using hi)] at h2
    rw [List.getElem?_replicate] at h2
    split at h2<;>cases h2
  have ha:vs[i]?=some v:=by
   unfold Mp at h2
   rw [List.getElem?_append_left (by simpa using hi),List.getElem?_map] at h2
   cases e:vs[i]? with
   | none=>rw [e] at h2;cases h2
   | some a=>rw [e] at h2;cases h2;rfl
  obtain ⟨u,hu,rv⟩:=r.get ha
  have hp:ps[i]?=some y:=by
   rw [<- S.pre,List.getElem?_take_of_lt (by omega)];exact h1
  have ndP:ps.Nodup:=by rw [<- S.pre];exact S.nd.sublist (List.take_sublist _ _)
  refine ⟨u,rv,?_⟩
  rcases S.par y (List.mem_of_getElem? hp) with k | k
  ·exact .inl ⟨k,Uv ndP hp hu k⟩
  ·obtain ⟨c,e⟩:=aI (n:=s.heap.objs.size+1) k
   refine .inr ⟨.inl k,c,e,?_⟩
   have q:=x.cell y c e
   rw [Ub ndP hp hu (by show scope.names.lookup y≠_;rw [k];decide)] at q
   exact q
 ·exact e0.hok.fresh (Nat.le_of_lt (x.above y c (PySem.mem_of_lookup h)))
 ·unfold Mp
  show _=N.length
  rw [List.length_append,List.length_map,List.length_replicate]
  omega
theorem rF {CX:CXT}{P:Program}{w:World}{K:PySem.W.Frag}{mg:Str->Option Value}{base:Heap}{k:Nat}{f:Addr}{name qual:Str}{params:Arguments}{body:List Stmt}{scope:Scope}{dV kV doc pm cdv ct oc:Value}{an od:Option Addr}
  {osl:Array (Option Value)}{N ps:List Str}{sp:Sp}(lk:K.lookup f=some ⟨oc,od,.func (PySem.W.fnOf name qual params body scope dV kV doc pm an cdv ct),osl⟩)(hcd:PySem.W.codeIn K cdv qual=true)(S:Ai N ps scope)
  (len:∀ vs H Q E,sp vs H Q E->vs.length=ps.length)
  (hbody:∀ (A:Around) (outer:List Env) (s:Shared) (H:Hp) (vs:List V) (Q:VK) (E:XK),Dd k (A.deeper (envOfC qual scope s.heap.objs.size f cdv))->sp vs H Q E ->
   ∃ t,PSs (cY CX P w K mg base N qual scope f cdv A outer s H E) body t/\t { nx:=fun _ H'=>Q .non H',rt:=Q } (Mp N vs) H) :
  Ax P w K mg base CX (k+1) f (PySem.W.fnOf name qual params body scope dV kV doc pm an cdv ct) ps sp:=by
 refine ⟨len,fun A outer s H args us vs Q E hr e0 hb r hsp=>?_⟩
 have hl:=len _ _ _ _ hsp
 have KX:K.In s.heap:=e0.mod.kin.keeps fun b o e=>(e0.bs b o e).1
 have lim:s.heap.NoLimit:=e0.mod.nolimit.keeps fun b o e=>(e0.bs b o e).1
 have hkind:∀ y∈ps.zip us,scope.names.lookup y.1=some .local\/(scope.names.lookup y.1=some .cell/\((cellsFrom (s.heap.objs.size+1) scope.names []).lookup y.1).isSome=true):=fun ⟨n,v⟩ hy=>by
  rcases S.par n (List.of_mem_zip hy).1 with q | q
  ·exact .inl q
  ·exact .inr ⟨q,PySem.W.cellsFrom_some _ _ _ (.inl q)⟩
 refine codeAny_call_function hr.depth (KX _ _ lk) rfl S.co S.gen rfl (PySem.W.codeRec_of KX hcd) (hb _ _ _ _ ?_)
 refine wpAny_newFunctionEnv_cells S.kind hkind fun env he s1 x=>?_
 subst he
 refine ⟨lim.keeps x.toInCall.keep,codeAny_func ?_⟩
 obtain ⟨t,ht,hq⟩:=hbody A outer s H vs Q E (hr.deeper _) hsp
 have I:Inv (cY CX P w K mg base N qual scope f cdv A outer s H E) [] (Mp N vs) H s1:=gU S hr.hd e0 hl r x
 refine wpAny_mono (ht [] s1 (Mp N vs) H _ I hq) (fun fl s' hs=>?_) fun e s' hs=>hs
 have fin:∀ {σ':St} {H':Hp} {v:V} {u:Value},Inv (cY CX P w K mg base N qual scope f cdv A outer s H E) [] σ' H' s'->Bk v u->Q v H'->CE outer P w H s Q u s' :=
  fun {σ' H' v u} J rv q=>⟨v,H',J.os,J.bare,J.base,J.hok,rv,q⟩
 cases fl with
 | ret u =>
  obtain ⟨v,σ',H',J,rv,q⟩:=hs
  exact fin J rv q
 | next =>
  obtain ⟨σ',H',J,q⟩:=hs
  exact fin (v:=V.non) (u:=Value.none) J rfl q
 | brk =>
  obtain ⟨_,_,_,q⟩:=hs
  exact False.elim q
 | cont =>
  obtain ⟨_,_,_,q⟩:=hs
  exact False.elim q
section
variable {X:Cx} {x:Str} {p pos:Pos} {e:Expr} {es:List Expr} {t:TA} {id T:String} {r:List V->Hp->VK->Prop}
def tCB (r:List V->Hp->VK->Prop)(t:TA):TE:=fun σ H Q=>t σ H fun vs H1=>r vs H1 Q
theorem Av (hc:Fo X (.builtin id) r)(hg:Gl X x)(hm:X.mg x=none)(hv:bootBuiltins x=some (.builtin id))(ha:PA X (e::es) t)(hn:x≠"__name__":=by decide)(hdb:(x==("__debug__":Str))=false:=by decide)
  (he:starEach (e::es) X.env=(false,eval e X.env)::starEach es X.env:=by rfl)(hpl:(backTo pos (starEach es X.env)).any (·.1)=false:=by rfl):PE X (.Call (.Name x p) (e::es) [] pos) (tCB r t):=by
 intro pins s σ H Q I h
 refine wpAny_Call_Name_kw (Ei I hg hm hv ?_ hn hdb)
 exact PyProof.Rows.callWith_builtin1 (thn (ha pos pins s σ H _ I h) fun us s1 ⟨vs,H1,I1,r1,q1⟩=>hc pins s1 σ H1 vs us Q I1 r1 q1) he hpl
theorem Dk (hc:Fo X (.type T) r)(hg:Gl X x)(hm:X.mg x=none)(hv:bootBuiltins x=some (.type T))(ha:PA X (e::es) t)(hn:x≠"__name__":=by decide)(hdb:(x==("__debug__":Str))=false:=by decide)
  (he:starEach (e::es) X.env=(false,eval e X.env)::starEach es X.env:=by rfl)(hpl:(backTo pos (starEach es X.env)).any (·.1)=false:=by rfl):PE X (.Call (.Name x p) (e::es) [] pos) (tCB r t):=by
 intro pins s σ H Q I h
 refine wpAny_Call_Name_kw (Ei I hg hm hv ?_ hn hdb)
 exact PyProof.Rows.callWith_type1 (thn (ha pos pins s σ H _ I h) fun us s1 ⟨vs,H1,I1,r1,q1⟩=>hc pins s1 σ H1 vs us Q I1 r1 q1) he hpl
end
end L2
namespace HT
open PySem PyProof.Rows
section
open PySem.SeqAt
open PySem.AutoSeq1 (wpAny_loadPart')
open PySem.MeetsSeq PySem.MeetsSeq2 PySem.MeetsSeq3
end
section
variable {prog:Program} {w:World} {A:Around} {E:Value->Shared->Prop} {s:Shared}
def sIx (n d:Nat):Option Int->Nat
 | none=>d
 | some v=>if v<0 then (v+(n:Int)).toNat else min v.toNat n
theorem sIx_nat (n d k:Nat):sIx n d (some (k:Int))=min k n:=by
 show (if (k:Int)<0 then ((k:Int)+(n:Int)).toNat else min (k:Int).toNat n)=min k n
 rw [if_neg (by omega),Int.toNat_natCast]
theorem sIx_le (n d:Nat)(hd:d<=n)(o:Option Int):sIx n d o<=n:=by
 cases o with
 | none=>exact hd
 | some v =>
  show (if v<0 then (v+(n:Int)).toNat else min v.toNat n)<=n
  by_cases hv:v<0
  ·rw [if_pos hv];omega
  ·rw [if_neg hv];exact Nat.min_le_right _ _
theorem eX (v:Int)(n d:Nat):(if v<0 then max (v+(n:Int)) 0 else min v (n:Int))=((sIx n d (some v):Nat):Int):=by
 show (if v<0 then max (v+(n:Int)) 0 else min v (n:Int))=(((if v<0 then (v+(n:Int)).toNat else min v.toNat n):Nat):Int)
 by_cases hv:v<0
 ·simp only [if_pos hv];omega
 ·simp only [if_neg hv];omega
theorem cZ (lo hi:Option Int)(n:Nat):Builtin.Slice.sliceAdjust lo hi 1 (n:Int)=(((sIx n 0 lo:Nat):Int),((sIx n n hi:Nat):Int)):=by
 have h1:¬ ((1:Int)<0):=by omega
 unfold Builtin.Slice.sliceAdjust
 simp only [h1,if_false]
 refine Prod.ext ?_ ?_
 ·cases lo with
  | none=>rfl
  | some v=>exact eX v n 0
 ·cases hi with
  | none=>rfl
  | some v=>exact eX v n n
theorem dU (i j:Nat):Builtin.Slice.slicePlaces (i:Int) (j:Int) 1=j-i:=by
 unfold Builtin.Slice.slicePlaces
 have h1:(1:Int)>0:=by omega
 simp only [h1,if_true,Int.ediv_one]
 split<;>omega
theorem S7 {v:Value}{o:Option Int}{Q:Option Int->Shared->Prop}(p:IsPart v o)(h:Q o s):wpAny (model prog w) A (Builtin.Slice.slicePartIndex v) Q E s:=by
 cases p with
 | none=>exact slicePart_none h
 | int i t=>exact slicePart_int h
theorem sliceApplied_gen {sl:Addr}{vl vu:Value}{lo hi:Option Int}{n:Nat}{Q:Int×Int×Nat->Shared->Prop}(hs:s.heap.IsSliceOf sl vl vu .none)(pl:IsPart vl lo)(pu:IsPart vu hi)
  (h:Q (((sIx n 0 lo:Nat):Int),1,sIx n n hi-sIx n 0 lo) s):wpAny (model prog w) A (Builtin.Slice.sliceApplied (.ref sl) (pure (n:Int))) Q E s:=by
 obtain ⟨os,hos,hcs,hds⟩:=id hs
 unfold Builtin.Slice.sliceApplied Builtin.Slice.sliceFields
 refine wpAny_bind (wpAny_bind (wpAny_field hos hds (x:=vl) rfl (wpAny_bind (wpAny_field hos hds (x:=vu) rfl (wpAny_bind (wpAny_field hos hds (x:=.none) rfl (wpAny_pure ?_)))))))
 refine wpAny_bind (slicePart_none ?_)
 show wpAny _ _ (if ((1:Int)==0)=true then _ else _) _ _ s
 rw [if_neg (by decide)]
 refine wpAny_bind (S7 pl (wpAny_bind (S7 pu (wpAny_bind (wpAny_pure ?_)))))
 show wpAny _ _ (match Builtin.Slice.sliceAdjust lo hi 1 (n:Int) with | (lo,hi)=>pure (lo,(1:Int),Builtin.Slice.slicePlaces lo hi 1)) _ _ s
 rw [cZ lo hi n]
 show wpAny _ _ (pure (((sIx n 0 lo:Nat):Int),(1:Int),Builtin.Slice.slicePlaces ((sIx n 0 lo:Nat):Int) ((sIx n n hi:Nat):Int) 1)) _ _ s
 rw [dU]
 exact wpAny_pure h
theorem lO (xs:Array Value)(i k:Nat):((List.range k).filterMap fun (m:Nat)=>xs[((i:Int)+(m:Int)*1).toNat]?).toArray=((xs.toList.drop i).take k).toArray:=by
 have e:(fun (m:Nat)=>xs[((i:Int)+(m:Int)*1).toNat]?)=fun m=>xs[i+m]?:=by
  funext m
  have:((i:Int)+(m:Int)*1).toNat=i+m:=by omega
  rw [this]
 rw [e]
 have:=pick_run xs i k
 rw [List.filterMap_map] at this
 have e2:((fun x=>xs[x]?) ∘ fun x=>i+x)=fun m=>xs[i+m]?:=rfl
 rw [e2] at this
 rw [this]
theorem getItem_tuple_cut {t sl:Addr}{items:Array Value}{vl vu:Value}{lo hi:Option Int}{Q:Value->Shared->Prop}(ht:IsTup s.heap t items)(hs:s.heap.IsSliceOf sl vl vu .none)(pl:IsPart vl lo)(pu:IsPart vu hi)
  (hw:¬ (sIx items.size 0 lo=0/\sIx items.size items.size hi=items.size))
  (h:Q (.ref s.heap.objs.size) { s with heap:=s.heap.push { cls:=.type "tuple",data:=.seq ((items.toList.drop (sIx items.size 0 lo)).take (sIx items.size items.size hi-sIx items.size 0 lo)).toArray } })
  (hsz:items.size<=sizeLine):wpAny (model prog w) A (getItem (.ref t) (.ref sl)) Q E s:=by
 have htake:sizeOk (.seq ((items.toList.drop (sIx items.size 0 lo)).take (sIx items.size items.size hi-sIx items.size 0 lo)).toArray):=by
  show ((items.toList.drop (sIx items.size 0 lo)).take (sIx items.size items.size hi-sIx items.size 0 lo)).toArray.size<=sizeLine
  rw [List.size_toArray,List.length_take,List.length_drop,Array.length_toList]
  omega
 have hj:sIx items.size items.size hi<=items.size:=sIx_le _ _ (Nat.le_refl _) hi
 obtain ⟨os,hos,hcs,hds⟩:=id hs
 have hTs:s.TypeIs (.ref sl) "slice":=⟨os,hos,hcs⟩
 unfold getItem
 try with_reducible refine wpAny_holding ?_
 first | refine wpAny_bind (wpAny_pure ?_) | skip
 refine wpAny_bind (wpAny_sequenceKey ht.typeIs (by decide) ?_)
 refine wpAny_bind (wpAny_callSpecial?_slot (name:=Str.ofString "__getitem__") ht.typeIs PyProof.Rows.slot_tuple_getitem
  (wpAny_call_entry PyProof.Rows.slot_tuple_getitem ht.typeIs entry_tuple_getitem ?_ (args_tuple_getitem _ _)))
 show wpAny _ _ (Builtin.Tuple.tupleItemsOf (.ref t) >>= _) _ _ s
 refine wpAny_bind (tupleItemsOf_ ht ?_)
 refine wpAny_bind (wpAny_typeOf hTs ?_)
 rw [if_pos (by decide)]
 refine wpAny_bind (sliceApplied_gen hs pl pu ?_)
 have hno:¬ ((((sIx items.size 0 lo:Nat):Int)==0&&(1:Int)==1&&(sIx items.size items.size hi-sIx items.size 0 lo)==items.size)=true):=by
  intro q
  rw [Bool.and_eq_true,Bool.and_eq_true] at q
  have q1:((sIx items.size 0 lo:Nat):Int)=0:=eq_of_beq q.1.1
  have q2:sIx items.size items.size hi-sIx items.size 0 lo=items.size:=eq_of_beq q.2
  exact hw ⟨by omega,by omega⟩
 show wpAny _ _ (if (((sIx items.size 0 lo:Nat):Int)==0&&(1:Int)==1&&(sIx items.size items.size hi-sIx items.size 0 lo)==items.size)=true then _ else _) _ _ s
 rw [if_neg hno,lO]
 first
  | exact wpAny_bind (m:=Builtin.Tuple.tupleExact _) (wpAny_newObj_type (wpAny_pure ⟨_,rfl,wpAny_pure h⟩) htake)
  | exact wpAny_bind (m:=Builtin.Tuple.tupleExact _) (wpAny_newObj_type (wpAny_bind (wpAny_pure (wpAny_pure ⟨_,rfl,wpAny_pure h⟩))) htake)
  | exact wpAny_bind (wpAny_bind (m:=Builtin.Tuple.tupleExact _) (wpAny_newObj_type (wpAny_pure (wpAny_pure ⟨_,rfl,wpAny_pure h⟩)) htake))
  | exact wpAny_bind (wpAny_bind (m:=Builtin.Tuple.tupleExact _) (wpAny_newObj_type (wpAny_pure ⟨_,rfl,wpAny_pure h⟩) htake))
end
end HT
namespace L2
open PySem PySem.Spec PyProof.Rows
abbrev TO:=St->Hp->(Option Int->Hp->Prop)->Prop
def PO (X:Cx)(e:Option Expr)(t:TO):Prop :=
 ∀ (pins:List (Addr×Obj)) (s:Shared) (σ:St) (H:Hp) (Q:Option Int->Hp->Prop),Inv X pins σ H s->t σ H Q ->
  wpAny (model X.prog X.w) X.A (evalPart e X.env) (fun u s'=>∃ o H',Inv X pins σ H' s'/\IsPart u o/\Q o H') X.xe s
def fT:TO:=fun _ H Q=>Q none H
def rO (t:TE):TO:=fun σ H Q=>t σ H fun x H1=>∃ i,x=.int i/\Q (some i) H1
theorem Sk {ns:List Int}:∀ {us:List Value},A6 (ns.map V.int) us->IntsAre us ns:=by
 induction ns with
 | nil=>intro us r;rw [List.map_nil] at r;cases r;exact .nil
 | cons n ns ih =>
  intro us r
  rw [List.map_cons] at r
  cases r with
  | cons r1 r2 =>
   obtain ⟨t,e⟩:=r1
   subst e
   exact .cons n t (ih r2)
section
variable {X:Cx} {e:Expr} {te:TE} {lo hi:Option Expr} {tl th:TO} {pos p2:Pos}
theorem M7:PO X none fT:=by
 intro pins s σ H Q I h
 rw [evalPart_none]
 exact wpAny_pure ⟨none,H,I,.none,h⟩
theorem Bw (h:PE X e te):PO X (some e) (rO te):=by
 intro pins s σ H Q I hw
 rw [evalPart_some]
 refine thn (h pins s σ H _ I hw) fun u s1 ⟨x,H1,I1,r1,q1⟩=>?_
 obtain ⟨i,rfl,q⟩:=q1
 obtain ⟨t,rfl⟩:=r1
 exact ⟨some i,H1,I1,.int i t,q⟩
def SlR (X:Cx)(r:V->Option Int->Option Int->Hp->VK->Prop):Prop :=
 ∀ (pins:List (Addr×Obj)) (s:Shared) (σ:St) (H:Hp) (x:V) (v vl vu:Value) (lo hi:Option Int) (sl:Addr) (Q:VK),Inv X pins σ H s->Bk x v->s.heap.IsSliceOf sl vl vu .none->IsPart vl lo->IsPart vu hi->r x lo hi H Q ->
  ∃ T id,typeLookup (.type T) "__getitem__"=pure (some (.builtin id))/\s.TypeIs v T/\wpAny (model X.prog X.w) X.A (getItem v (.ref sl)) (EP X pins σ Q) X.xe s
def tSl (r:V->Option Int->Option Int->Hp->VK->Prop)(te:TE)(tl th:TO):TE:=fun σ H Q=>te σ H fun x H1=>tl σ H1 fun l H2=>th σ H2 fun u H3=>r x l u H3 Q
theorem Cs {r:V->Option Int->Option Int->Hp->VK->Prop}(hr:SlR X r)(he:PE X e te)(hl:PO X lo tl)(hu:PO X hi th):PE X (.Subscript e (.Slice lo hi none p2) pos) (tSl r te tl th):=by
 intro pins s σ H Q I h
 refine Subscript_ (thn (he pins s σ H _ I h) fun v s1 ⟨x,H1,I1,r1,q1⟩=>?_)
 refine wpAny_Slice (thn (hl pins s1 σ H1 _ I1 q1) fun vl s2 ⟨l,H2,I2,pl,q2⟩=>thn (hu pins s2 σ H2 _ I2 q2) fun vu s3 ⟨u,H3,I3,pu,q3⟩=>?_)
 rw [evalPart_none]
 refine wpAny_pure ?_
 have I4:Inv X pins σ H3 { s3 with heap:=s3.heap.push { cls:=.type "slice",data:=.fields #[vl,vu,.none] } }:=I3.kept (t':=s3.toks) fun b ob q=>Heap.get?_push_of_some _ q
 obtain ⟨T,id,hT,ht,hg⟩:=hr pins { s3 with heap:=s3.heap.push { cls:=.type "slice",data:=.fields #[vl,vu,.none] } } σ H3 x v vl vu l u s3.heap.objs.size Q I4 r1 (Heap.IsSliceOf.new ..) pl pu q3
 show wpAny (model X.prog X.w) X.A (subscriptTail e (.Slice lo hi none p2) v (.ref s3.heap.objs.size)) (EP X pins σ Q) X.xe { s3 with heap:=s3.heap.push { cls:=.type "slice",data:=.fields #[vl,vu,.none] } }
 exact tail_any (ops:=[.ref s3.heap.objs.size,v]) ht hT hg (by with_unfolding_all rfl)
def Iu (xs:List V)(lo hi:Option Int):List V:=(xs.drop (HT.sIx xs.length 0 lo)).take (HT.sIx xs.length xs.length hi-HT.sIx xs.length 0 lo)
theorem O0 (xs:List V)(lo hi:Option Int):(Iu xs lo hi).length<=xs.length:=by
 unfold Iu
 rw [List.length_take,List.length_drop]
 omega
def yU (K:PySem.W.Frag):V->Option Int->Option Int->Hp->VK->Prop:=fun x lo hi H Q=>∃ a xs,x=.ref a/\SqT K H a xs /\
 ¬ (HT.sIx xs.length 0 lo=0/\HT.sIx xs.length xs.length hi=xs.length)/\∀ p,H p=none->Q (.ref p) (upd H p (.tup (Iu xs lo hi)))
theorem sQ:SlR X (yU X.K):=by
 intro pins s σ H x v vl vu lo hi sl Q I rx hs pl pu h
 obtain ⟨a,xs,rfl,hx,hw,q⟩:=h
 cases rx
 obtain ⟨its,r,ht,hz⟩:=I.tuple hx
 have hlen:its.toArray.size=xs.length:=by rw [List.size_toArray];exact r.length.symm
 refine ⟨"tuple",_,PyProof.Rows.slot_tuple_getitem.lookup,ht.typeIs,?_⟩
 refine HT.getItem_tuple_cut ht hs pl pu (by rw [hlen];exact hw) ?_ (by rw [hlen];exact hz)
 rw [hlen]
 refine ⟨.ref s.heap.objs.size,_,I.laid (t':=s.toks) (o:=.tup (Iu xs lo hi)) (fun b ob q=>Heap.get?_push_of_some _ q) (Nat.le_refl _) ?_,rfl,q _ (I.hok.fresh (Nat.le_refl _))⟩
 exact ⟨Nat.le_trans (O0 xs lo hi) hz,_,(r.drop (HT.sIx xs.length 0 lo)).take (HT.sIx xs.length xs.length hi-HT.sIx xs.length 0 lo),IsTup.new _ _⟩
end
def ixN (n:Nat)(i:Int):Option Nat:=if 0<=i then (if i<n then some i.toNat else none) else if -(n:Int)<=i then some (i+n).toNat else none
def atI {α:Type}(xs:List α)(i:Int):Option α:=(ixN xs.length i).bind fun j=>xs[j]?
theorem fP {n:Nat}{i:Int}{j:Nat}(h:ixN n i=some j):seqIndex? i n=some j/\j<n/\-(n:Int)<=i/\i<n:=by
 unfold ixN at h
 by_cases h0:0<=i
 ·rw [if_pos h0] at h
  by_cases h1:i<n
  ·rw [if_pos h1] at h
   have e:i.toNat=j:=Option.some.inj h
   exact ⟨by rw [seqIndex_of h0 h1,e],by omega,by omega,h1⟩
  ·rw [if_neg h1] at h;cases h
 ·rw [if_neg h0] at h
  by_cases h1:-(n:Int)<=i
  ·rw [if_pos h1] at h
   have e:(i+n).toNat=j:=Option.some.inj h
   exact ⟨by rw [seqIndex_neg (by omega) h1,e],by omega,h1,by omega⟩
  ·rw [if_neg h1] at h;cases h
theorem Vo {α:Type}{xs:List α}{i:Int}{v:α}(h:atI xs i=some v):∃ j,seqIndex? i xs.length=some j/\xs[j]?=some v/\j<xs.length/\-(xs.length:Int)<=i/\i<xs.length:=by
 unfold atI at h
 cases e:ixN xs.length i with
 | none=>rw [e] at h;cases h
 | some j =>
  rw [e] at h
  obtain ⟨h1,h2,h3,h4⟩:=fP e
  exact ⟨j,h1,h,h2,h3,h4⟩
theorem B7 {α:Type}{xs:List α}{j:Nat}{v:α}(h:xs[j]?=some v):atI xs (j:Int)=some v:=by
 have hj:j<xs.length:=(List.getElem?_eq_some_iff.mp h).1
 have e:ixN xs.length (j:Int)=some j:=by
  unfold ixN
  rw [if_pos (by omega),if_pos (by omega)];simp
 unfold atI;rw [e];exact h
theorem Z5 {α:Type}(xs:List α)(v:α):atI (xs++[v]) (-1)=some v:=by
 have hl:(xs++[v]).length=xs.length+1:=by simp
 have e:ixN (xs++[v]).length (-1)=some xs.length:=by
  unfold ixN
  rw [hl,if_neg (by decide),if_pos (by omega)]
  congr 1
  omega
 unfold atI
 rw [e]
 show (xs++[v])[xs.length]?=some v
 simp
def oZ (b:Expr):Prop:=∀ o i,subscripted b false o i=operate [o,i] (getItem o i)
def IxR (X:Cx)(r:R2):Prop :=
 ∀ (value slice:Expr) (pins:List (Addr×Obj)) (s:Shared) (σ:St) (H:Hp) (x y:V) (v u:Value) (Q:VK),Inv X pins σ H s->Bk x v->Bk y u->r x y H Q ->
  subscripted slice false v u=operate [v,u] (getItem v u)->wpAny (model X.prog X.w) X.A (subscriptTail value slice v u) (EP X pins σ Q) X.xe s
def MtR (X:Cx)(id:String)(r:V->List V->Hp->VK->Prop):Prop :=
 ∀ (pins:List (Addr×Obj)) (s:Shared) (σ:St) (H:Hp) (x:V) (xs:List V) (v:Value) (us:List Value) (Q:VK),Inv X pins σ H s->Bk x v->A6 xs us->r x xs H Q ->
  wpAny (model X.prog X.w) X.A (call (.builtin id) (v::us)) (EP X pins σ Q) X.xe s
section
variable {X:Cx} {a b:Expr} {ta tb:TE} {pos:Pos}
theorem Ck {r:R2}(hr:IxR X r)(ha:PE X a ta)(hb:PE X b tb)(hs:oZ b):PE X (.Subscript a b pos) (tOp r ta tb):=by
 intro pins s σ H Q I h
 exact Subscript_ (uP ha hb I h fun v u s2 x y H2 I2 rx ry q=>hr a b pins s2 σ H2 x y v u Q I2 rx ry q (hs _ _))
def vJ (K:PySem.W.Frag):R2:=fun x y H Q=>∃ p xs i v,x=.ref p/\y=.int i/\SqL K H p xs/\atI xs i=some v/\Q v H
def uK (K:PySem.W.Frag):R2:=fun x y H Q=>∃ p xs i v,x=.ref p/\y=.int i/\SqT K H p xs/\atI xs i=some v/\Q v H
theorem Ec:IxR X (vJ X.K):=by
 intro value slice pins s σ H x y v u Q I rx ry h hs
 obtain ⟨p,xs,i,z,rfl,rfl,hq,he,q⟩:=h
 cases rx
 obtain ⟨t,rfl⟩:=ry
 obtain ⟨its,r,pl,hz⟩:=I.list hq
 obtain ⟨j,h1,h2,h3,h4,h5⟩:=Vo he
 obtain ⟨w,ew,rw'⟩:=r.get h2
 have hl:=r.length
 have hn:=Kr
 have fin:EP X pins σ Q w s:=⟨z,H,I,rw',q⟩
 by_cases h0:0<=i
 ·have hj:i.toNat=j:=by
   rw [seqIndex_of h0 h5] at h1
   exact Option.some.inj h1
  exact item_listR pl.isList h0 (by omega) (by rw [hj];simpa using ew) fin hs
 ·have hj:(i+(its.toArray.size:Int)).toNat=j:=by
   rw [seqIndex_neg (by omega) h4] at h1
   rw [List.size_toArray,<- hl]
   exact Option.some.inj h1
  exact subscriptTail_builtinR (x:=w) pl.isList.typeIs slot_list_getitem.lookup
   (wpAny_getItem_list_neg (Q:=fun r s'=>r=w/\EP X pins σ Q r s') pl.isList (by omega) (by rw [List.size_toArray]<;>omega) (by omega) (by rw [hj];simpa using ew) ⟨rfl,fin⟩) hs
theorem Ey:IxR X (uK X.K):=by
 intro value slice pins s σ H x y v u Q I rx ry h hs
 obtain ⟨p,xs,i,z,rfl,rfl,hq,he,q⟩:=h
 cases rx
 obtain ⟨t,rfl⟩:=ry
 obtain ⟨its,r,pl,hz⟩:=I.tuple hq
 obtain ⟨j,h1,h2,h3,h4,h5⟩:=Vo he
 obtain ⟨w,ew,rw'⟩:=r.get h2
 have hl:=r.length
 have hn:=Kr
 have fin:EP X pins σ Q w s:=⟨z,H,I,rw',q⟩
 exact subscriptTail_builtinR (x:=w) pl.typeIs slot_tuple_getitem.lookup
  (getItem_tuple (j:=j) (Q:=fun r s'=>r=w/\EP X pins σ Q r s') pl (by omega) (by omega) (by rw [List.size_toArray,<- hl];exact h1) (by simpa using ew) ⟨rfl,fin⟩) hs
theorem dR (its:List Value)(n j:Nat)(u:Value):Obj.mapSeq (·.setIfInBounds j u) { cls:=.type "list",data:=.seq its.toArray n }={ cls:=.type "list",data:=.seq (its.set j u).toArray n }:=by
 simp [Obj.mapSeq]
theorem Inv.lst {pins:List (Addr×Obj)}{σ:St}{H:Hp}{s:Shared}{p:Addr}{xs:List V}(I:Inv X pins σ H s)(h:H p=some (.lst xs)) :
  ∃ (its:List Value) (n:Nat),A6 xs its/\s.heap.get? p=some { cls:=.type "list",data:=.seq its.toArray n }/\xs.length<=sizeLine:=by
 obtain ⟨z,its,n,r,e⟩:=I.hok p _ h
 exact ⟨its,n,r,e,z⟩
theorem Inv.lstUpd {pins:List (Addr×Obj)}{σ:St}{H:Hp}{s:Shared}{p:Addr}{xs ys:List V}{its its':List Value}{n n':Nat}{f:Obj->Obj}(I:Inv X pins σ H s)(h:H p=some (.lst xs))
  (ho:s.heap.get? p=some { cls:=.type "list",data:=.seq its.toArray n })(hf:f { cls:=.type "list",data:=.seq its.toArray n }={ cls:=.type "list",data:=.seq its'.toArray n' })(r:A6 ys its')(hz:ys.length<=sizeLine)(t:Nat) :
  Inv X pins σ (upd H p (.lst ys)) { s with heap:=s.heap.update p f,toks:=t }:=by
 have e:(s.heap.update p f).get? p=some { cls:=.type "list",data:=.seq its'.toArray n' }:=by
  rw [Heap.get?_update_self f ho (by rw [hf]<;>rfl),hf]
 refine I.write (x:=p) (e:=p) (by rw [h];trivial) (.inl rfl) (fun b u hb q=>(Heap.get?_update_other _ _ (Ne.symm hb)).trans q) ⟨_,e⟩ ?_
 exact ⟨hz,its',n',r,e⟩
def rG:V->V->V->Hp->(Hp->Prop)->Prop:=fun o i v H Q=>∃ p xs k j,o=.ref p/\i=.int k/\H p=some (.lst xs)/\ixN xs.length k=some j/\Q (upd H p (.lst (xs.set j v)))
theorem aC:xD X rG:=by
 intro pins s σ H o i v ov iv u Q I ro ri rv h
 obtain ⟨p,xs,k,j,rfl,rfl,hp,hj,q⟩:=h
 cases ro
 obtain ⟨t,rfl⟩:=ri
 obtain ⟨its,n,r,ho,hz⟩:=I.lst hp
 obtain ⟨h1,h2,h3,h4⟩:=fP hj
 have hl:=r.length
 have hn:=Kr
 have I':Inv X pins σ (upd H p (.lst (xs.set j v))) { s with heap:=s.heap.update p (Obj.mapSeq (·.setIfInBounds j u)) } :=
  I.lstUpd hp ho (dR its n j u) (r.set rv j) (by rw [List.length_set];exact hz) s.toks
 by_cases h0:0<=k
 ·have hk:k.toNat=j:=by
   rw [seqIndex_of h0 h4] at h1
   exact Option.some.inj h1
  exact PySem.W.ki_setAt ho h0 (by omega) (by rw [List.size_toArray,<- hl];exact h4) (by rw [hk];exact ⟨_,I',q⟩)
 ·have hk:(k+(its.toArray.size:Int)).toNat=j:=by
   rw [seqIndex_neg (by omega) h3] at h1
   rw [List.size_toArray,<- hl]
   exact Option.some.inj h1
  exact PySem.W.ki_setBack ho (by omega) (by rw [List.size_toArray,<- hl];exact h3) (by omega) (by rw [hk];exact ⟨_,I',q⟩)
theorem Xy (lo hi:Option Int)(n:Nat):(sliceBounds lo hi none n).1=((HT.sIx n 0 lo:Nat):Int)/\(sliceBounds lo hi none n).2.1=((HT.sIx n n hi:Nat):Int)/\(sliceBounds lo hi none n).2.2=1:=by
 refine ⟨?_,?_,rfl⟩
 ·cases lo with
  | none=>simp [sliceBounds,HT.sIx]
  | some i =>
   simp only [sliceBounds,HT.sIx,Option.getD_none,show (1:Int)>0 by decide,if_true]
   by_cases h:i<0
   ·simp only [h,if_true]<;>omega
   ·simp only [h,if_false]<;>omega
 ·cases hi with
  | none=>simp [sliceBounds,HT.sIx]
  | some i =>
   simp only [sliceBounds,HT.sIx,Option.getD_none,show (1:Int)>0 by decide,if_true]
   by_cases h:i<0
   ·simp only [h,if_true]<;>omega
   ·simp only [h,if_false]<;>omega
theorem Tq (its:List Value)(lo hi:Option Int):slicePick its.toArray lo hi none=((its.drop (HT.sIx its.length 0 lo)).take (HT.sIx its.length its.length hi-HT.sIx its.length 0 lo)).toArray:=by
 obtain ⟨h1,h2,h3⟩:=Xy lo hi its.toArray.size
 unfold slicePick
 rw [h1,h2,h3]
 simp only [sliceRange_one,pick_run,List.size_toArray]<;>rfl
def zG (K:PySem.W.Frag):V->Option Int->Option Int->Hp->VK->Prop:=fun x lo hi H Q=>∃ a xs,x=.ref a/\SqL K H a xs/\∀ p,H p=none->Q (.ref p) (upd H p (.lst (Iu xs lo hi)))
theorem No:SlR X (zG X.K):=by
 intro pins s σ H x v vl vu lo hi sl Q I rx hs pl pu h
 obtain ⟨a,xs,rfl,hx,q⟩:=h
 cases rx
 obtain ⟨its,r,ht,hz⟩:=I.list hx
 have hlen:=r.length
 refine ⟨"list",_,slot_list_getitem.lookup,ht.isList.typeIs,?_⟩
 refine wpAny_getItem_list_slice ht.isList hs pl pu .none (by simp) ?_ (by rw [List.size_toArray]<;>omega)
 rw [Tq,<- hlen]
 refine ⟨.ref s.heap.objs.size,_,I.laid (t':=s.toks) (o:=.lst (Iu xs lo hi)) (fun b ob q=>Heap.get?_push_of_some _ q) (Nat.le_refl _) ?_,rfl,q _ (I.hok.fresh (Nat.le_refl _))⟩
 exact ⟨Nat.le_trans (O0 xs lo hi) hz,_,0,(r.drop (HT.sIx xs.length 0 lo)).take (HT.sIx xs.length xs.length hi-HT.sIx xs.length 0 lo),Heap.get?_push_size _ rfl⟩
def F8:V->Bool
 | .non=>true
 | .bl _=>true
 | .int _=>true
 | .str _=>true
 | _=>false
def eqV:V->V->Bool
 | .non,.non=>true
 | .bl a,.bl b=>a==b
 | .bl a,.int b=>(if a then 1 else 0)==b
 | .int a,.bl b=>a==(if b then 1 else 0)
 | .int a,.int b=>a==b
 | .str a,.str b=>a==b
 | _,_=>false
theorem kK {A:Around}{s:Shared}{y x:V}{u v:Value}(ry:Bk y u)(rx:Bk x v)(fy:F8 y=true)(fx:F8 x=true):SeqAt.EqAt A s u v (eqV y x):=by
 cases y with
 | non =>
  cases ry
  cases x with
  | non=>cases rx;exact SeqAt.EqAt.same _
  | bl b=>cases rx;exact SeqAt.EqAt.none_bool b
  | int b=>obtain ⟨t,rfl⟩:=rx;exact SeqAt.EqAt.none_int b t
  | str b=>obtain ⟨t,rfl⟩:=rx;exact SeqAt.EqAt.none_str b t
  | _=>exact absurd (show false=true from fx) Bool.false_ne_true
 | bl a =>
  cases ry
  cases x with
  | non=>cases rx;exact SeqAt.EqAt.bool_none a
  | bl b=>cases rx;exact SeqAt.EqAt.bool_bool a b
  | int b=>obtain ⟨t,rfl⟩:=rx;exact SeqAt.EqAt.bool_int a b t
  | str b=>obtain ⟨t,rfl⟩:=rx;exact SeqAt.EqAt.bool_str a b t
  | _=>exact absurd (show false=true from fx) Bool.false_ne_true
 | int a =>
  obtain ⟨t',rfl⟩:=ry
  cases x with
  | non=>cases rx;exact SeqAt.EqAt.int_none a t'
  | bl b=>cases rx;exact SeqAt.EqAt.int_bool a t' b
  | int b=>obtain ⟨t,rfl⟩:=rx;exact SeqAt.EqAt.int_int a t' b t
  | str b=>obtain ⟨t,rfl⟩:=rx;exact SeqAt.EqAt.int_str a t' b t
  | _=>exact absurd (show false=true from fx) Bool.false_ne_true
 | str a =>
  obtain ⟨t',rfl⟩:=ry
  cases x with
  | non=>cases rx;exact SeqAt.EqAt.str_none a t'
  | bl b=>cases rx;exact SeqAt.EqAt.str_bool a t' b
  | int b=>obtain ⟨t,rfl⟩:=rx;exact SeqAt.EqAt.str_int a t' b t
  | str b=>obtain ⟨t,rfl⟩:=rx;exact SeqAt.EqAt.str_str a t' b t
  | _=>exact absurd (show false=true from fx) Bool.false_ne_true
 | _=>exact absurd (show false=true from fy) Bool.false_ne_true
def eqU (x:V)(u:Value):Bool:=match u with
 | .none=>eqV .non x
 | .bool b=>eqV (.bl b) x
 | .int i _=>eqV (.int i) x
 | .str z _=>eqV (.str z) x
 | _=>false
theorem Vu {x y:V}{u:Value}(r:Bk y u)(f:F8 y=true):eqU x u=eqV y x:=by
 cases y with
 | non=>cases r;rfl
 | bl b=>cases r;rfl
 | int i=>obtain ⟨t,rfl⟩:=r;rfl
 | str z=>obtain ⟨t,rfl⟩:=r;rfl
 | _=>exact absurd (show false=true from f) Bool.false_ne_true
theorem Xl {x:V}:∀ {xs:List V} {us:List Value},A6 xs us->xs.all F8=true->us.any (eqU x)=xs.any fun y=>eqV y x
 | _,_,.nil,_=>rfl
 | y::xs,u::us,.cons r t,f=>by
  rw [List.all_cons,Bool.and_eq_true] at f
  rw [List.any_cons,List.any_cons,Vu r f.1,Xl t f.2]
theorem Kw {A:Around}{s:Shared}{x:V}{v:Value}(rx:Bk x v)(fx:F8 x=true):∀ {xs:List V} {us:List Value},A6 xs us->xs.all F8=true->∀ u∈us,SeqAt.EqAt A s u v (eqU x u)
 | _,_,.nil,_=>fun u hu=>by cases hu
 | y::xs,u::us,.cons r t,f=>fun u' hu=>by
  rw [List.all_cons,Bool.and_eq_true] at f
  rcases List.mem_cons.mp hu with rfl | hu
  ·rw [Vu r f.1];exact kK r rx f.1 fx
  ·exact Kw rx fx t f.2 u' hu
def inV (x:V)(xs:List V):Bool:=xs.any fun y=>eqV y x
def rIn (K:PySem.W.Frag)(neg:Bool):R2:=fun x y H Q=>∃ p xs,y=.ref p/\(SqL K H p xs\/SqT K H p xs)/\F8 x=true/\xs.all F8=true/\Q (.bl (if neg then !inV x xs else inV x xs)) H
theorem Uy:OpR X (compareOp .In) (rIn X.K false):=by
 intro pins s σ H x y v u Q I rx ry h
 obtain ⟨p,xs,rfl,hq,fx,fs,q⟩:=h
 cases ry
 rcases hq with hq | hq
 ·obtain ⟨its,r,pl,hz⟩:=I.list hq
  refine SeqAt.in_listAt (eqU x) pl.isList (fun w hw=>Kw rx fx r fs w (by simpa using hw)) ⟨.bl _,H,I,rfl,?_⟩
  rw [show its.toArray.any (eqU x)=its.any (eqU x) by simp,Xl r fs]
  exact q
 ·obtain ⟨its,r,pl,hz⟩:=I.tuple hq
  refine SeqAt.in_tupleAt (eqU x) pl (fun w hw=>Kw rx fx r fs w (by simpa using hw)) ⟨.bl _,H,I,rfl,?_⟩
  rw [show its.toArray.any (eqU x)=its.any (eqU x) by simp,Xl r fs]
  exact q
theorem Xx:OpR X (compareOp .NotIn) (fun x y H Q=>∃ i j,x=.str i/\y=.str j/\Q (.bl (!(!(Builtin.Str.occurrences j i 0 j.length 1).isEmpty))) H):=by
 intro pins s σ H x y v u Q I rx ry h
 obtain ⟨i,j,rfl,rfl,q⟩:=h
 obtain ⟨t,rfl⟩:=rx
 obtain ⟨t',rfl⟩:=ry
 exact notIn_str ⟨.bl _,H,I,rfl,q⟩
theorem Bg:Fo X (.builtin "len") (fun xs H Q=>∃ p ys,xs=[.ref p]/\(SqL X.K H p ys\/SqT X.K H p ys)/\Q (.int ys.length) H):=by
 intro pins s σ H xs us Q I r h
 obtain ⟨p,ys,rfl,hq,q⟩:=h
 obtain ⟨u,rfl,rx⟩:=Gc r
 cases rx
 have hn:=Kr
 rcases hq with hq | hq
 ·obtain ⟨its,r',pl,hz⟩:=I.list hq
  have hlen:=r'.length
  exact Calls.call_len_list pl.isList (by simp only [List.size_toArray]<;>omega) ⟨.int ys.length,H,I.tok _,⟨s.toks+1,by rw [List.size_toArray,hlen]⟩,q⟩
 ·obtain ⟨its,r',pl,hz⟩:=I.tuple hq
  have hlen:=r'.length
  exact len_tuple pl (by simp only [List.size_toArray]<;>omega) ⟨.int ys.length,H,I.tok _,⟨s.toks+1,by rw [List.size_toArray,hlen]⟩,q⟩
theorem Cz:Fo X (.builtin "len") (fun xs H Q=>∃ z,xs=[.str z]/\z.length<=sizeLine/\Q (.int z.length) H):=by
 intro pins s σ H xs us Q I r h
 obtain ⟨z,rfl,hz,q⟩:=h
 obtain ⟨u,rfl,t,rfl⟩:=Gc r
 have hn:=Kr
 exact len_str (by omega) ⟨.int z.length,H,I.tok _,⟨_,rfl⟩,q⟩
theorem Gx:Fo X (.type "list") (fun xs H Q=>∃ p ys,xs=[.ref p]/\(SqL X.K H p ys\/SqT X.K H p ys)/\∀ l,H l=none->Q (.ref l) (upd H l (.lst ys))):=by
 intro pins s σ H xs us Q I r h
 obtain ⟨p,ys,rfl,hq,q⟩:=h
 obtain ⟨u,rfl,rx⟩:=Gc r
 cases rx
 have fin:∀ (its:List Value),A6 ys its->ys.length<=sizeLine->∀ (h':Heap) (c':Nat),(∀ b o',s.heap.get? b=some o'->h'.get? b=some o') ->
   h'.get? s.heap.objs.size=some { cls:=.type "list",dict:=none,data:=.seq its.toArray c',slots:=#[] }->EP X pins σ Q (.ref s.heap.objs.size) { s with heap:=h' }:=fun its r' hz h' c' kp e =>
  ⟨.ref s.heap.objs.size,_,I.laid (t':=s.toks) kp (Nat.le_refl _) (show Eh X.prog X.w _ h' _ (.lst ys) from ⟨hz,its,c',r',e⟩),rfl,q _ (I.hok.fresh (Nat.le_refl _))⟩
 rcases hq with hq | hq
 ·obtain ⟨its,r',pl,hz⟩:=I.list hq
  have hlen:=r'.length
  obtain ⟨o,ho,hc,n,hd⟩:=pl.isList
  exact call_list_seq p (.inl rfl) ho hc hd (fun h' c' kp e=>fin its r' hz h' c' kp e) (by simp only [List.size_toArray]<;>omega)
 ·obtain ⟨its,r',pl,hz⟩:=I.tuple hq
  have hlen:=r'.length
  obtain ⟨o,ho,hc,n,hd⟩:=pl
  exact call_list_seq p (.inr rfl) ho hc hd (fun h' c' kp e=>fin its r' hz h' c' kp e) (by simp only [List.size_toArray]<;>omega)
theorem Ig:Fo X (.type "tuple") (fun xs H Q=>∃ p ys,xs=[.ref p]/\((SqL X.K H p ys/\∀ l,H l=none->Q (.ref l) (upd H l (.tup ys)))\/(SqT X.K H p ys/\Q (.ref p) H))):=by
 intro pins s σ H xs us Q I r h
 obtain ⟨p,ys,rfl,h⟩:=h
 obtain ⟨u,rfl,rx⟩:=Gc r
 cases rx
 rcases h with ⟨hq,q⟩ | ⟨hq,q⟩
 ·obtain ⟨its,r',pl,hz⟩:=I.list hq
  have hlen:=r'.length
  refine call_tuple_list pl.isList (fun h' kp=>?_) (by simp only [List.size_toArray]<;>omega)
  have I1:Inv X pins σ H { s with heap:=h' }:=I.kept (t':=s.toks) kp
  have I2:Inv X pins σ (upd H h'.objs.size (.tup ys)) { s with heap:=h'.push { cls:=.type "tuple",data:=.seq its.toArray } } :=
   I1.laid (t':=s.toks) (fun b o e=>Heap.get?_push_of_some _ e) (Nat.le_refl _) (show Eh X.prog X.w _ _ _ (.tup ys) from ⟨hz,its,r',IsTup.new _ _⟩)
  exact ⟨.ref h'.objs.size,_,I2,rfl,q _ (I1.hok.fresh (Nat.le_refl _))⟩
 ·obtain ⟨its,r',pl,hz⟩:=I.tuple hq
  exact call_tuple_same pl ⟨.ref p,H,I,rfl,q⟩
def tyV (K:PySem.W.Frag)(T:String)(x:V)(H:Hp):Prop:=match x with
 | .str _=>T="str"
 | .int _=>T="int"
 | .ref p=>(T="list"/\∃ xs,SqL K H p xs)\/(T="tuple"/\∃ o,K.lookup p=some o/\o.cls=.type "tuple"/\o.dict=none) \/
   (T="dict"/\((∃ kvs,H p=some (.dK kvs))\/∃ kvs,H p=some (.dT kvs)))\/(T="set"/\∃ S n,H p=some (.set S n))
 | _=>False
theorem kG {pins:List (Addr×Obj)}{σ:St}{H:Hp}{s:Shared}{T:String}{x:V}{v:Value}(I:Inv X pins σ H s)(r:Bk x v)(ty:tyV X.K T x H) :
  s.TypeIs v T/\∀ a,v=.ref a->∃ ob,s.heap.get? a=some ob/\ob.dict=none:=by
 cases x with
 | str z =>
  obtain ⟨t,rfl⟩:=r
  cases (show T="str" from ty)
  exact ⟨typeIs_str s z t,fun _ e=>nomatch e⟩
 | int i =>
  obtain ⟨t,rfl⟩:=r
  cases (show T="int" from ty)
  exact ⟨typeIs_int s i t,fun _ e=>nomatch e⟩
 | ref p =>
  cases r
  rcases ty with ⟨rfl,xs,hq⟩ | ⟨rfl,o,hk,hc,hd⟩ | ⟨rfl,hk⟩ | ⟨rfl,S,n,hk⟩
  ·obtain ⟨its,_,pl,_⟩:=I.list hq
   refine ⟨pl.isList.typeIs,fun a e=>?_⟩
   cases e
   obtain ⟨o,n,e,c,hd,_⟩:=pl
   exact ⟨o,e,hd⟩
  ·refine ⟨⟨o,I.kIn p o hk,hc⟩,fun a e=>?_⟩
   cases e
   exact ⟨o,I.kIn _ o hk,hd⟩
  ·have z:∃ o,s.heap.get? p=some o/\o.ExactDict:=by
    rcases hk with ⟨kvs,hk⟩ | ⟨kvs,hk⟩
    ·obtain ⟨_,_,_,_,o,_,_,e,ex,_⟩:=I.hok p _ hk
     exact ⟨o,e,ex⟩
    ·obtain ⟨_,_,_,_,o,_,_,e,ex,_⟩:=I.hok p _ hk
     exact ⟨o,e,ex⟩
   obtain ⟨o,e,ex⟩:=z
   refine ⟨⟨o,e,ex.1⟩,fun a e2=>?_⟩
   cases e2
   exact ⟨o,e,ex.2.1⟩
  ·obtain ⟨o,_,_,_,e,ex,_⟩:=I.hok p _ hk
   refine ⟨⟨o,e,ex.1⟩,fun a e2=>?_⟩
   cases e2
   exact ⟨o,e,ex.2.1⟩
 | _=>exact False.elim ty
def yB (K:PySem.W.Frag)(T:String)(r:V->List V->Hp->VK->Prop)(to:TE):TE:=fun σ H Q=>to σ H fun x H1=>tyV K T x H1/\r x [] H1 Q
def tBM (K:PySem.W.Frag)(T:String)(r:V->List V->Hp->VK->Prop)(to:TE)(t:TA):TE:=fun σ H Q=>to σ H fun x H1=>tyV K T x H1/\t σ H1 fun xs H2=>r x xs H2 Q
variable {o e:Expr} {es:List Expr} {to:TE} {t:TA} {name:Str} {apos cpos:Pos} {T id:String} {r:V->List V->Hp->VK->Prop}
theorem cF (pa:PlainAttrs T)(slot:Slot T name id)(hty:typeOf (.builtin id)=pure (.type "method_descriptor"))(hm:MtR X id r)(ho:PE X o to)
  (hbase:attributeBase o name X.env (eval o X.env)=eval o X.env:=by rfl)(hline:(apos.endLine==cpos.line)=true:=by rfl):PE X (.Call (.Attribute o name apos) [] [] cpos) (yB X.K T r to):=by
 intro pins s σ H Q I h
 refine wpAny_Call_method0_late hbase hline (thn (ho pins s σ H _ I h) fun v s1 ⟨x,H1,I1,r1,ty,q1⟩=>?_)
 obtain ⟨h1,h2⟩:=kG I1 r1 ty
 exact ⟨T,id,pa,slot,hty,h1,h2,Calls.callWith_builtin rfl (PySem.evalArgs_none (hm pins s1 σ H1 x [] v [] Q I1 r1 .nil q1))⟩
theorem Eg (pa:PlainAttrs T)(slot:Slot T name id)(hty:typeOf (.builtin id)=pure (.type "method_descriptor"))(hm:MtR X id r)(ho:PE X o to)(ha:PA X (e::es) t)
  (hbase:attributeBase o name X.env (eval o X.env)=eval o X.env:=by rfl)
  (hfew:((backTo cpos (starEach (e::es) X.env)).all (fun x=>!x.1)&&(backToKw cpos (keywordEach [] X.env)).all (fun x=>x.1.isSome)
   && decide ((e::es).length+([]:List Keyword).length+(if ([]:List Keyword).isEmpty then 0 else 1)<30))=true:=by rfl)
  (hline:(apos.endLine==cpos.line)=true:=by rfl)(hs:starEach (e::es) X.env=(false,eval e X.env)::starEach es X.env:=by rfl)(hplain:(backTo cpos (starEach es X.env)).any (·.1)=false:=by rfl) :
  PE X (.Call (.Attribute o name apos) (e::es) [] cpos) (tBM X.K T r to t):=by
 intro pins s σ H Q I h
 refine wpAny_Call_method_late hbase hfew hline rfl (thn (ho pins s σ H _ I h) fun v s1 ⟨x,H1,I1,r1,ty,q1⟩=>?_)
 obtain ⟨h1,h2⟩:=kG I1 r1 ty
 refine ⟨T,id,pa,slot,hty,h1,h2,?_⟩
 have hA:=ha cpos pins s1 σ H1 _ I1 q1
 rw [hs] at hA ⊢
 refine Calls.callWith_builtin (by show (false||(backTo cpos (starEach es X.env)).any (·.1))=false;rw [hplain]<;>rfl) (Calls.evalArgs_plain ?_)
 exact thn hA fun us s2 ⟨vs,H2,I2,r2,q2⟩=>hm pins s2 σ H2 x vs v us Q I2 r1 r2 q2
/- xs.append(e),list.index on a module's tuple .. are MtR facts of 06m -/
end
def MtM (X:Cx)(id:String)(r:V->List V->Hp->VK->Prop):Prop :=
 ∀ (pins:List (Addr×Obj)) (s:Shared) (σ:St) (H:Hp) (x:V) (xs:List V) (v:Value) (us:List Value) (Q:VK),Inv X pins σ H s->Bk x v->A6 xs us->r x xs H Q ->
  wpAny (model X.prog X.w) X.A (call (.builtin id) (v::us)) (EP X pins σ Q) X.xe s
theorem A6.one:∀ {x:V}{us:List Value},A6 [x] us->∃ u,us=[u]/\Bk x u
 | _,_,.cons r .nil=>⟨_,rfl,r⟩
theorem A6.zero:∀ {us:List Value},A6 [] us->us=[]
 | _,.nil=>rfl
theorem A6.dropLast {xs:List V}{us:List Value}(h:A6 xs us):A6 xs.dropLast us.dropLast:=by
 induction h with
 | nil=>exact .nil
 | cons r t ih =>
  cases t with
  | nil=>exact .nil
  | cons q t'=>exact .cons r ih
theorem A6.rep {xs:List V}{us:List Value}(h:A6 xs us):∀ k:Nat,A6 (List.replicate k xs).flatten (List.replicate k us).flatten
 | 0=>.nil
 | k+1=>by
  rw [List.replicate_succ,List.replicate_succ,List.flatten_cons,List.flatten_cons]
  exact A6.append h (A6.rep h k)
theorem dH {α:Type}(l:List α):l.eraseIdx (l.length-1)=l.dropLast:=by
 induction l with
 | nil=>rfl
 | cons a r ih =>
  cases r with
  | nil=>rfl
  | cons b r =>
   have e:(a::b::r).length-1=((b::r).length-1)+1:=by
    have h1:(a::b::r).length=r.length+2:=rfl
    have h2:(b::r).length=r.length+1:=rfl
    omega
   rw [e,List.eraseIdx_cons_succ,ih]
   all_goals rfl
theorem T2 (its:List Value):∀ (k:Nat) (acc:List Value),
  List.foldl (fun x1 x2=>x1++x2) acc.toArray (List.replicate k its.toArray)=(acc++(List.replicate k its).flatten).toArray
 | 0,acc=>by simp
 | k+1,acc=>by
  have e:acc.toArray++its.toArray=(acc++its).toArray:=by simp
  have e2:(acc++its)++(List.replicate k its).flatten=acc++(List.replicate (k+1) its).flatten:=by
   rw [List.replicate_succ,List.flatten_cons,List.append_assoc]
  rw [<- e2,<- T2 its k (acc++its),<- e,List.replicate_succ,List.foldl_cons]
section
variable {X:Cx} {pins:List (Addr×Obj)} {σ:St} {H:Hp} {s:Shared} {l b:Addr} {xs ys zs:List V}
theorem Inv.lset {its its':List Value}{n:Nat}{f:Array Value->Array Value}{t':Nat}(I:Inv X pins σ H s)(hH:H l=some (.lst xs))
  (e:s.heap.get? l=some { cls:=.type "list",data:=.seq its.toArray n })(hf:f its.toArray=its'.toArray)(hv:A6 ys its')(hz:ys.length<=sizeLine) :
  Inv X pins σ (upd H l (.lst ys)) { s with heap:=s.heap.update l (Obj.mapSeq f),toks:=t' }:=by
 have q:=PySem.IsL.update e f
 rw [hf] at q
 refine I.write (x:=l) (e:=l) (by rw [hH];exact trivial) (.inl rfl) (fun b' u hb hu=>(Heap.get?_update_other s.heap (Obj.mapSeq f) (Ne.symm hb)).trans hu) ⟨_,q⟩ ?_
 exact ⟨hz,its',_,hv,q⟩
theorem Inv.lnew {its:List Value}{t':Nat}(I:Inv X pins σ H s)(hv:A6 ys its)(hz:ys.length<=sizeLine) :
  Inv X pins σ (upd H s.heap.objs.size (.lst ys)) { s with heap:=s.heap.push { cls:=.type "list",data:=.seq its.toArray },toks:=t' } :=
 I.laid (fun _ _ q=>Heap.get?_push_of_some _ q) (Nat.le_refl _) ⟨hz,its,0,hv,Heap.get?_push_size _ rfl⟩
theorem Inv.fresh (I:Inv X pins σ H s):H s.heap.objs.size=none:=I.hok.fresh (Nat.le_refl _)
theorem Inv.lstM (I:Inv X pins σ H s)(hH:H l=some (.lst xs)):xs.length<=sizeLine/\∃ (its:List Value) (n:Nat),A6 xs its/\xs.length=its.length/\s.heap.get? l=some { cls:=.type "list",data:=.seq its.toArray n }:=by
 obtain ⟨z,its,n,r,e⟩:=I.hok l _ hH
 exact ⟨z,its,n,r,r.length,e⟩
theorem bH {n:Nat}(h:n<=sizeLine):Builtin.List.listTooLong n=false:=by
 unfold Builtin.List.listTooLong
 exact decide_eq_false (by omega)
end
section
variable {X:Cx}
def eU:V->List V->Hp->VK->Prop:=fun x vs H Q=>∃ l xs y,x=.ref l/\vs=[y]/\H l=some (.lst xs)/\xs.length<sizeLine/\Q .non (upd H l (.lst (xs++[y])))
theorem Cb:MtM X "list.append" eU:=by
 intro pins s σ H x vs v us Q I rx rv h
 obtain ⟨l,xs,y,rfl,rfl,hH,hz,q⟩:=h
 cases rx
 obtain ⟨u,rfl,ru⟩:=rv.one
 obtain ⟨z,its,n,r,hl,e⟩:=I.lstM hH
 refine call_meets F.slot_list_append ⟨_,e,rfl⟩ F.entry_list_append (F.args_list_append_2 _ _) (PySem.list_append l its.toArray n u (by rw [List.size_toArray];omega)) ⟨e,?_⟩
 refine ⟨.non,_,I.lset (its':=its++[u]) hH e (by simp) (r.append (.cons ru .nil)) ?_,rfl,q⟩
 rw [List.length_append,List.length_singleton]
 omega
def qP:V->List V->Hp->VK->Prop:=fun x vs H Q=>∃ l b xs zs,x=.ref l/\vs=[.ref b]/\H l=some (.lst xs)/\H b=some (.lst zs)/\xs.length+zs.length<=sizeLine/\Q .non (upd H l (.lst (xs++zs)))
theorem iC:MtM X "list.extend" qP:=by
 intro pins s σ H x vs v us Q I rx rv h
 obtain ⟨l,b,xs,zs,rfl,rfl,hH,hB,hz,q⟩:=h
 cases rx
 obtain ⟨u,rfl,ru⟩:=rv.one
 cases ru
 obtain ⟨z,its,n,r,hl,e⟩:=I.lstM hH
 obtain ⟨z2,its2,n2,r2,hl2,e2⟩:=I.lstM hB
 have hsz:its.toArray.size+its2.toArray.size<=sizeLine:=by rw [List.size_toArray,List.size_toArray];omega
 have hlong:¬ (!its.toArray.isEmpty&&Builtin.List.listTooLong (its.toArray.size+its2.toArray.size))=true:=by
  rw [bH hsz,Bool.and_false]
  exact Bool.false_ne_true
 refine call_meets F.slot_list_extend ⟨_,e,rfl⟩ F.entry_list_extend (F.args_list_extend_2 _ _)
  (AutoSeq1.list_extend_list_list_0 l its.toArray n b its2.toArray n2 hlong (by rw [List.size_toArray];omega) (by omega)) ⟨e,e2,?_⟩
 refine ⟨.non,_,I.lset (its':=its++its2) hH e (by simp) (r.append r2) ?_,rfl,q⟩
 rw [List.length_append]
 omega
def zB:V->List V->Hp->VK->Prop:=fun x vs H Q=>∃ l xs y,x=.ref l/\vs=[]/\H l=some (.lst xs)/\xs[xs.length-1]?=some y/\Q y (upd H l (.lst xs.dropLast))
theorem dF:MtM X "list.pop" zB:=by
 intro pins s σ H x vs v us Q I rx rv h
 obtain ⟨l,xs,y,rfl,rfl,hH,hy,q⟩:=h
 cases rx
 have hus:=rv.zero
 subst hus
 obtain ⟨z,its,n,r,hl,e⟩:=I.lstM hH
 obtain ⟨u,hu,ru⟩:=r.get hy
 have hy':its.toArray[its.toArray.size-1]?=some u:=by
  show its.toArray[its.length-1]?=some u
  rw [<- Array.getElem?_toList,<- hl]
  exact hu
 refine call_meets F.slot_list_pop ⟨_,e,rfl⟩ F.entry_list_pop (F.args_list_pop_1 _) (MeetsSeq.list_pop_last l its.toArray n u hy' (by rw [List.size_toArray];omega)) ⟨e,?_⟩
 refine ⟨y,_,I.lset (its':=its.dropLast) hH e ?_ r.dropLast ?_,ru,q⟩
 ·show its.toArray.eraseIdxIfInBounds (its.toArray.size-1)=its.dropLast.toArray
  rw [List.size_toArray,List.eraseIdxIfInBounds_toArray,dH]
 ·rw [List.length_dropLast]
  omega
def yM:R2:=fun x y H Q=>∃ l b xs zs,x=.ref l/\y=.ref b/\H l=some (.lst xs)/\H b=some (.lst zs)/\xs.length+zs.length<=sizeLine/\∀ p,H p=none->Q (.ref p) (upd H p (.lst (xs++zs)))
theorem Jz:OpR X (binaryOp .Add) yM:=by
 intro pins s σ H x y v u Q I rx ry h
 obtain ⟨l,b,xs,zs,rfl,rfl,hH,hB,hz,q⟩:=h
 cases rx
 cases ry
 obtain ⟨z,its,n,r,hl,e⟩:=I.lstM hH
 obtain ⟨z2,its2,n2,r2,hl2,e2⟩:=I.lstM hB
 refine PySem.P.add_list e e2 ?_ (by rw [List.size_toArray,List.size_toArray];omega)
 have ea:its.toArray++its2.toArray=(its++its2).toArray:=by simp
 rw [ea]
 exact ⟨.ref _,_,I.lnew (t':=s.toks) (r.append r2) (by rw [List.length_append];omega),rfl,q _ I.fresh⟩
def yP:R2:=fun x y H Q=>∃ l k xs,x=.ref l/\y=.int k/\H l=some (.lst xs)/\-(2 ^ 63)<=k/\k<2 ^ 63/\xs.length*k.toNat<=sizeLine /\
 ∀ p,H p=none->Q (.ref p) (upd H p (.lst (List.replicate k.toNat xs).flatten))
theorem fJ {α:Type}(xs:List α)(k:Nat):(List.replicate k xs).flatten.length=k*xs.length:=by
 induction k with
 | zero=>simp
 | succ k ih=>rw [List.replicate_succ,List.flatten_cons,List.length_append,ih,Nat.succ_mul,Nat.add_comm]
theorem Xa:OpR X (binaryOp .Mult) yP:=by
 intro pins s σ H x y v u Q I rx ry h
 obtain ⟨l,k,xs,rfl,rfl,hH,h1,h2,hz,q⟩:=h
 cases rx
 obtain ⟨t,rfl⟩:=ry
 obtain ⟨z,its,n,r,hl,e⟩:=I.lstM hH
 have hlen:its.toArray.size*k.toNat<=sizeLine:=by rw [List.size_toArray,<- hl];exact hz
 have hcap:¬ its.toArray.size*k.toNat>(2 ^ 63-1)/8:=by
  have:(sizeLine:Nat)<=(2 ^ 63-1)/8:=by decide
  omega
 have hfit:¬ (!Builtin.List.listFitsIndex k)=true:=by
  rw [fitsIndex_both h1 h2]
  exact Bool.false_ne_true
 have hlong:¬ Builtin.List.listTooLong (its.toArray.size*k.toNat)=true:=by
  rw [bH hlen]
  exact Bool.false_ne_true
 have hnew:List.foldl (fun x1 x2=>x1++x2) #[] (List.replicate (if its.toArray.isEmpty=true then 0 else k.toNat) its.toArray)=(List.replicate k.toNat its).flatten.toArray:=by
  have f0:∀ m:Nat,List.foldl (fun x1 x2=>x1++x2) #[] (List.replicate m its.toArray)=(List.replicate m its).flatten.toArray:=fun m=>by
   have:=T2 its m []
   rw [List.nil_append] at this
   exact this
  rw [f0]
  cases its with
  | nil=>simp
  | cons a r'=>rw [if_neg (by simp)]
 refine wpAny_binaryOp_repeat_ref (T:="list") (U:="int") (by decide) ⟨_,e,rfl⟩ (fun s'=>typeIs_int s' k t) noFill_list_mul F.fills_int_mul F.slot_int_rmul repeat_list F.slot_int_index.lookup
  (call_meets F.slot_int_rmul (typeIs_int s k t) F.entry_int_rmul (F.args_int_rmul_2 _ _) (int___rmul___int_list k t l its.toArray n)
   ⟨e,rfl,⟨_,e,rfl⟩,call_meets F.slot_list_mul ⟨_,e,rfl⟩ F.entry_list_mul (F.args_list_mul_2 _ _) (AutoListH.list___mul___list_int_3 l its.toArray n k t hfit hcap hlong) ⟨e,?_⟩⟩)
 rw [hnew]
 exact ⟨.ref _,_,I.lnew (t':=s.toks) (r.rep k.toNat) (by rw [fJ,Nat.mul_comm];exact hz),rfl,q _ I.fresh⟩
end
end L2
namespace Att
open PySem PySem.W PySem.Calls PyProof.Rows
theorem Pa {P:Params}{h:Heap}:∀ (ns:List Int) (vs:List Value),WellAll P h vs (ns.map WData.int)->IntsAre vs ns:=by
 intro ns
 induction ns with
 | nil =>
  intro vs w
  rw [List.map_nil] at w
  cases w
  exact .nil
 | cons n ns ih =>
  intro vs w
  rw [List.map_cons] at w
  cases w with
  | cons a b =>
   cases a
   exact .cons _ _ (ih _ b)
theorem gP {l : OpenLaw}{n : Nat}(hn : l.most = some n){P : Params}{h : Heap}{args : List WData}{vals : List Value}
    (hpre : l.row.toRowW.claim.pre args = true)(hwl : WellAll P h vals args) :
    ∃ a vs ns, vals = [Value.ref a]/\args = [WData.list (ns.map WData.int)]/\h.get? a = some { cls := .type "list", data := .seq vs.toArray }/\IntsAre vs ns/\ns.length <= n := by
  have hsh : WShape.hasAll [] args [.list .int] = true := (pre_splitW hpre).1
  have hc : l.pre.holds [] { args := args } = true := (pre_splitW hpre).2
  obtain ⟨d, r, rfl, h1, h2⟩ := hasAllW_cons hsh
  obtain rfl := hasAllW_nil h2
  obtain ⟨xs, rfl, h3⟩ := hasW_list h1
  obtain ⟨ns, rfl⟩ := items_int h3
  have hlen : ns.length <= n := by
    unfold OpenLaw.pre at hc
    have h4 : (WTm.not (.lt (.lit (.int (n : Int))) (.len (.arg 0)))).holds [] { args := [.list (ns.map .int)] } = true := by
      have h4 := (holds_andW hc).1
      rw [hn] at h4
      exact h4
    have h5 := condW_of h4 (w_not (w_lt w_lit (w_len_list (w_arg rfl))))
    rw [List.length_map] at h5
    refine Nat.le_of_not_lt fun q => ?_
    have q' : (n : Int) < ((ns.length : Nat) : Int) := by omega
    first
      | (rw [decide_eq_true q'] at h5; exact absurd h5 (by decide))
      | (simp at h5; omega)
  cases hwl with
  | cons w1 w2 =>
    cases w2
    cases w1 with
    | list ho hall => exact ⟨_, _, ns, rfl, rfl, ho, Pa ns _ hall, hlen⟩
theorem iF (l:OpenLaw)(args:List WData):l.row.toRowW.claim.post args (.bool true) args=true :=
 postW_of (r:=l.row.toRowW) (X:=(true==true))
  (show WShape.has [] (.bool true) .bool=true by first | rfl | decide | simp [WShape.has,WShape.arms,WShape.armsAll])
  (show (WTm.eq .res (.lit (.bool true))).value [] { args:=args,res:=some (.bool true),after:=args }=some (.bool (true==true)) from w_eq_bool (w_res rfl) w_lit) rfl
theorem attach_call {l:OpenLaw}{n:Nat}{q:Program}{loose:List Str}{XP:(Str->Option Value)->Heap->Prop}{YP:World->Heap->Prop}{d:DefRec}
  (hn:l.most=some n)(hdf:d.params.defaults=[])
  (call:∀ (w:World) (s₀ s₁:Shared) (mg mb:Str->Option Value) (fa:Addr) (o:Obj) (pm cd doc:Value) (a:Addr) (vs:List Value) (ns:List Int),
   Ground q loose [] XP w s₀ mg mb s₁.heap->YP w s₁.heap ->
   s₁.heap.get? fa=some o->o.data=.func (docDef d.name d.params d.body d.scope pm cd doc)->s₁.heap.CodeRec cd d.name->mg d.name=some (.ref fa) ->
   s₁.heap.get? a=some { cls:=.type "list",data:=.seq vs.toArray }->IntsAre vs ns->ns.length<=n->s₁.gens=#[] ->
   codeAny (model l.prog w) callerA (.call (.ref fa) ⟨[.ref a],[]⟩) (fun r s'=>r=.ok (.ret (.bool true))/\OldK s₁.heap s'.heap/\s'.os=s₁.os/\AllBare s'.gens) s₁) :
  WalkO q loose XP YP l.row.toRowW d [] (fun f vs=>PySem.call f vs):=by
 intro w s₀ s₁ mg mb G Y fa o pm cd doc dV kV ho hd hcd hD hmg hg args vals as hpre hlay hrd hwl hlo
 obtain rfl:dV=.none:=Dflts.none hD hdf
 obtain rfl:kV=.none:=Dflts.noKw hD
 obtain ⟨a,vs,ns,rfl,rfl,hobj,hints,hlen⟩:=gP hn hpre hwl
 refine enter_call (codeAny_mono (call w s₀ s₁ mg mb fa o pm cd doc a vs ns G Y ho (fd_plain hd) hcd hmg hobj hints hlen hg) fun r s' hq=>?_)
 obtain ⟨rfl,h2,h3,h4⟩:=hq
 exact ⟨.inl ⟨.bool true,.bool true,[],rfl,fun _=>rfl,.bool true,iF l _,fun _=>⟨List.Pairwise.nil,fun _ hm=>(nomatch hm)⟩⟩,h2,h3,h4⟩
section
variable {prog:Program} {w:World} {A:Around} {E:Value->Shared->Prop} {s:Shared} {K:Frag}
end
end Att
namespace L2
open PySem PySem.Spec PyProof.Rows
theorem T1:∀ {vs:List Value}{ns:List Int},IntsAre vs ns->A6 (ns.map V.int) vs
 | _,_,.nil=>.nil
 | _,_,.cons n t h=>.cons ⟨t,rfl⟩ (T1 h)
def At (s:Stmt)(j:Nat):Stmt:=match s with
 | .ClassDef _ _ _ body _ _ _ _ _ _ _=>body.getD j (.Pass ⟨0,0,0,0⟩)
 | _=>.Pass ⟨0,0,0,0⟩
def C4 (s:Stmt):Arguments:=match s with
 | .FunctionDef _ a _ _ _ _ _ _ _ _=>a
 | _=>{ posonlyargs:=[],args:=[],vararg:=none,kwonlyargs:=[],kw_defaults:=[],kwarg:=none,defaults:=[] }
def Ch (s:Stmt):List Stmt:=match s with
 | .FunctionDef _ _ b _ _ _ _ _ _ _=>b
 | _=>[]
def Ad (s:Stmt):Scope:=match s with
 | .FunctionDef _ _ _ _ _ _ sc _ _ _=>sc
 | _=>{ kind:=.function,names:=[],isGenerator:=false,isCoroutine:=false }
abbrev CX0:CXT:=fun _ _ _ _ _ _=>False
abbrev E0:XK:=fun _ _ _=>False
theorem aJ {X:Cx}:L8 CX0 X E0:=fun _ _ _ _ _ _ _ h=>h.elim
structure Fun (K:PySem.W.Frag) (x qual:Str) (st:Stmt) (f:Addr) (fd:FuncData):Prop where
 ex:∃ (oc:Value) (od:Option Addr) (kV doc pm:Value) (an:Option Addr) (cdv ct:Value) (osl:Array (Option Value)),
  fd=PySem.W.fnOf x qual (C4 st) (Ch st) (Ad st) .none kV doc pm an cdv ct/\K.lookup f=some ⟨oc,od,.func fd,osl⟩/\PySem.W.codeIn K cdv qual=true
 kp:PySem.W.keepIn K (.ref f)=true
section
variable {P:Program} {w:World} {K:PySem.W.Frag} {mg:Str->Option Value} {base:Heap}
theorem Fun.ok {x qual:Str}{st:Stmt}{f:Addr}{fd:FuncData}{N ps:List Str}{k:Nat}{sp:Sp}(F:Fun K x qual st f fd)(S:Ai N ps (Ad st))(len:∀ vs H Q E,sp vs H Q E->vs.length=ps.length)
  (hbody:∀ (cdv:Value) (A:Around) (outer:List Env) (s:Shared) (H:Hp) (vs:List V) (Q:VK) (E:XK),Dd k (A.deeper (envOfC qual (Ad st) s.heap.objs.size f cdv))->sp vs H Q E ->
   ∃ t,PSs (cY CX0 P w K mg base N qual (Ad st) f cdv A outer s H E).nox (Ch st) t/\t { nx:=fun _ H'=>Q .non H',rt:=Q } (Mp N vs) H):Ax P w K mg base CX0 (k+1) f fd ps sp:=by
 obtain ⟨oc,od,kV,doc,pm,an,cdv,ct,osl,rfl,lk,hcd⟩:=F.ex
 refine rF lk hcd S len fun A outer s H vs Q E hr hsp=>?_
 obtain ⟨t,h,q⟩:=hbody cdv A outer s H vs Q E hr hsp
 exact ⟨t,h.nox,q⟩
theorem Fun.binds {x qual:Str}{st:Stmt}{f:Addr}{fd:FuncData}{ps:List Str}(F:Fun K x qual st f fd)
  (h:∀ (kV doc pm:Value) (an:Option Addr) (cdv ct:Value) (us:List Value),us.length=ps.length->bindArgs (PySem.W.fnOf x qual (C4 st) (Ch st) (Ad st) .none kV doc pm an cdv ct) ⟨us,[]⟩=pure (ps.zip us)):Gp K fd ps []:=by
 obtain ⟨oc,od,kV,doc,pm,an,cdv,ct,osl,rfl,lk,hcd⟩:=F.ex
 exact .all (h kV doc pm an cdv ct)
theorem bY {x qual:Str}{st:Stmt}{f:Addr}{oc:Value}{od an:Option Addr}{osl:Array (Option Value)}{kV doc pm cdv ct:Value}(l:K.lookup f=some ⟨oc,od,.func (PySem.W.fnOf x qual (C4 st) (Ch st) (Ad st) .none kV doc pm an cdv ct),osl⟩)
  (c:PySem.W.codeIn K cdv qual=true)(k:PySem.W.keepIn K (.ref f)=true):Fun K x qual st f (PySem.W.fnOf x qual (C4 st) (Ch st) (Ad st) .none kV doc pm an cdv ct):=⟨⟨oc,od,kV,doc,pm,an,cdv,ct,osl,rfl,l,c⟩,k⟩
end
theorem D5 {n:Nat}(h:n<=1000):n<sizeLine:=Nat.lt_of_le_of_lt h (by decide)
section
variable {X:Cx}
theorem pv (i:Nat){x:Str}{pos:Pos}(hN:X.N[i]?=some x:=by rfl)(hv:Vis X.env.scope x:=by first | exact Or.inl rfl | exact Or.inr (Or.inl rfl) | exact Or.inr (Or.inr rfl))(hd:(x==("__debug__":Str))=false:=by decide)
  (hcd:(x==("__classdict__":Str))=false:=by decide):PE X (.Name x pos) (qA i):=lL hN hv hd hcd
end
theorem zA {A B:Prop}(h:B):if false=true then A else B:=by
 rw [if_neg Bool.false_ne_true]
 exact h
theorem yS {A B:Prop}(h:A):if true=true then A else B:=by
 rw [if_pos rfl]
 exact h
def Al (H H':Hp):Prop:=∀ b o,H b=some o->H' b=some o
theorem Al.refl (H:Hp):Al H H:=fun _ _ h=>h
theorem Al.trans {H H1 H2:Hp}(a:Al H H1)(b:Al H1 H2):Al H H2:=fun c o h=>b c o (a c o h)
theorem Al.free {H H':Hp}(e:Al H H'){l:Addr}(h:H' l=Option.none):H l=Option.none:=by
 cases q:H l with
 | none=>rfl
 | some o =>
  rw [e l o q] at h
  cases h
theorem Al.seq {K:PySem.W.Frag}{H H':Hp}{a:Addr}{xs:List V}(e:Al H H')(h:SqL K H a xs):SqL K H' a xs:=by
 rcases h with (h | ⟨o,h⟩) | h
 ·exact .inl (.inl (e _ _ h))
 ·exact .inl (.inr ⟨o,e _ _ h⟩)
 ·exact .inr h
end L2
section
namespace L2
open PySem PySem.Spec PyProof.Rows
section
variable {prog:Program} {w:World} {A:Around} {R:Result->Shared->Prop} {s:Shared}
def gG (ifs:List Expr)(env:Env):Sem Bool :=
 forIn ifs true fun c r=>if r=true then do let ok <- isTrue c env (eval c env);pure (ForInStep.yield ok) else pure (ForInStep.yield r)
theorem eW {elt tg iter:Expr}{ifs:List Expr}{scope:Scope}{pos:Pos}{it acc:Value}{env:Env}(J:Nat->Shared->Prop)
  (turn:∀ n s,J n s->wpAny (model prog w) A (pyNext it) (fun r s1=>match r with
   | none=>R (.ok .next) s1
   | some v=>wpAny (model prog w) A (letOwnedTupleGo tg it v) (fun _ s2=>wpAny (model prog w) A (assign tg env v) (fun _ s3=>wpAny (model prog w) A (gG ifs env) (fun ok s4 =>
     if ok=true then wpAny (model prog w) A (eval elt env) (fun x s5=>wpAny (model prog w) A (call (.builtin "list.append") [acc,x]) (fun _ s6=>∃ m,m<n/\J m s6) (fun _ _=>False) s5) (fun _ _=>False) s4
     else ∃ m,m<n/\J m s4) (fun _ _=>False) s3) (fun _ _=>False) s2) (fun _ _=>False) s1) (fun _ _=>False) s)
  (n:Nat)(h:J n s):codeAny (model prog w) A (.compLoop (.ListComp elt [⟨tg,iter,ifs,0⟩] scope pos) 0 it acc env) R s:=by
 refine codeAny_loop rfl J (fun n s hJ=>?_) n h
 show wpAny _ A (Sem.onRaise (compTurn (.ListComp elt [⟨tg,iter,ifs,0⟩] scope pos) 0 it acc env) _) _ _ s
 refine wpAny_noted ?_
 rw [compTurn_list]
 refine wpAny_bind (wpAny_standAt (wpAny_bind (wpAny_mono (turn n s hJ) (fun r s1 h1=>?_) (fun _ _ z=>z.elim))))
 cases r with
 | none=>exact wpAny_pure h1
 | some v =>
  refine wpAny_bind (wpAny_mono h1 (fun _ s2 h2=>wpAny_bind (wpAny_mono h2 (fun _ s3 h3=>wpAny_bind (wpAny_mono h3 (fun ok s4 h4=>?_) (fun _ _ z=>z.elim))) (fun _ _ z=>z.elim))) (fun _ _ z=>z.elim))
  cases ok with
  | false=>exact wpAny_pure ⟨rfl,h4⟩
  | true=>exact wpAny_bind (wpAny_bind (wpAny_mono h4 (fun x s5 h5=>wpAny_bind (wpAny_mono h5 (fun _ s6 h6=>wpAny_pure (wpAny_pure ⟨rfl,h6⟩)) (fun _ _ z=>z.elim))) (fun _ _ z=>z.elim)))
end
def Dv (env:Env):List (Str×NameKind)->List (Str×Addr)->List (Str×Addr)
 | [],cs=>cs
 | y::r,cs=>if y.2=.free then Dv env r ((y.1,(env.cells.lookup y.1).getD 0)::cs) else Dv env r cs
theorem Xz {env:Env}(f:Str×NameKind->List (Str×Addr)->Sem (ForInStep (List (Str×Addr))))
  (h1:∀ y cs c,y.2=.free->env.cells.lookup y.1=some c->f y cs=pure (.yield ((y.1,c)::cs)))(h2:∀ y cs,y.2≠.free->f y cs=pure (.yield cs)) :
  ∀ (ns:List (Str×NameKind)) (cs:List (Str×Addr)),(∀ y∈ns,y.2=.free->∃ c,env.cells.lookup y.1=some c)->forIn ns cs f=(pure (Dv env ns cs):Sem (List (Str×Addr)))
 | [],cs,_=>by simp [Dv]
 | y::r,cs,h=>by
  have hr:∀ z∈r,z.2=.free->∃ c,env.cells.lookup z.1=some c:=fun z hz=>h z (List.mem_cons_of_mem _ hz)
  rw [List.forIn_cons]
  by_cases hy:y.2=.free
  ·obtain ⟨c,hc⟩:=h y List.mem_cons_self hy
   rw [h1 y cs c hy hc]
   simp only [Dv,if_pos hy,hc,Option.getD_some]
   exact Xz f h1 h2 r _ hr
  ·rw [h2 y cs hy]
   simp only [Dv,if_neg hy]
   exact Xz f h1 h2 r _ hr
theorem Hf {scope:Scope}{env:Env}(h:∀ y∈scope.names,y.2=.free->∃ c,env.cells.lookup y.1=some c):closureFor scope env=pure (Dv env scope.names []):=by
 unfold closureFor
 dsimp only
 rw [Xz (env:=env) _ (fun y cs c hy hc=>?_) (fun y cs hy=>?_) scope.names [] h]
 ·rfl
 ·obtain ⟨n,k⟩:=y
  dsimp only at hy hc ⊢
  subst hy
  simp only [cellOf,hc,beq_self_eq_true,if_true]
  rfl
 ·obtain ⟨n,k⟩:=y
  have e:(k==NameKind.free)=false:=by simpa using hy
  simp only [e,Bool.false_eq_true,if_false]
theorem Io {env:Env}:∀ (ns:List (Str×NameKind)) (cs:List (Str×Addr)) (x:Str) (c:Addr),(∀ y∈ns,y.2=.free->∃ c,env.cells.lookup y.1=some c) ->
  (∀ z d,cs.lookup z=some d->env.cells.lookup z=some d)->(Dv env ns cs).lookup x=some c->env.cells.lookup x=some c
 | [],cs,x,c,_,hc,h=>hc x c h
 | y::r,cs,x,c,hy,hc,h=>by
  have hr:∀ z∈r,z.2=.free->∃ c,env.cells.lookup z.1=some c:=fun z hz=>hy z (List.mem_cons_of_mem _ hz)
  unfold Dv at h
  split at h
  ·rename_i hk
   obtain ⟨d,hd⟩:=hy y List.mem_cons_self hk
   rw [hd] at h
   refine Io r _ x c hr (fun z e hz=>?_) h
   rw [List.lookup_cons] at hz
   split at hz
   ·rename_i hzy
    cases hz
    rw [eq_of_beq hzy];exact hd
   ·exact hc z e hz
  ·exact Io r _ x c hr hc h
theorem Me {env:Env}:∀ (ns:List (Str×NameKind)) (cs:List (Str×Addr)) (x:Str),(cs.lookup x).isSome=true->((Dv env ns cs).lookup x).isSome=true
 | [],_,_,h=>h
 | y::r,cs,x,h=>by
  unfold Dv
  split
  ·refine Me r _ x ?_
   rw [List.lookup_cons]
   split
   ·rfl
   ·exact h
  ·exact Me r _ x h
theorem Fb {env:Env}:∀ (ns:List (Str×NameKind)) (cs:List (Str×Addr)) (x:Str),(x,NameKind.free)∈ns->((Dv env ns cs).lookup x).isSome=true
 | [],_,_,h=>by simp at h
 | y::r,cs,x,h=>by
  rcases List.mem_cons.mp h with e | e
  ·subst e
   unfold Dv
   rw [if_pos rfl]
   exact Me r _ x (by simp)
  ·unfold Dv
   split
   ·exact Fb r _ x e
   ·exact Fb r _ x e
theorem Kc {scope:Scope}{env:Env}{x:Str}{k:NameKind}(h:(relabel scope env).names.lookup x=some k):(x,k)∈scope.names\/((x,NameKind.free)∈scope.names/\k=NameKind.cell):=by
 have m:=PySem.mem_of_lookup h
 obtain ⟨⟨n,k'⟩,hm,e⟩:=List.mem_map.mp m
 dsimp only at e
 split at e
 ·rename_i hk
  cases e
  simp only [Bool.and_eq_true,beq_iff_eq] at hk
  rw [hk.1.1] at hm
  exact .inr ⟨hm,rfl⟩
 ·cases e
  exact .inl hm
theorem My {scope:Scope}{env:Env}(hk:env.scope.kind=.function){x:Str}(hx:env.kindOf x=some .cell)(h:scope.names.lookup x=some .free):(relabel scope env).names.lookup x=some .cell:=by
 unfold relabel
 show (scope.names.map _).lookup x=some NameKind.cell
 generalize scope.names=ns at h
 induction ns with
 | nil=>simp at h
 | cons y r ih =>
  obtain ⟨n,k⟩:=y
  rw [List.lookup_cons] at h
  rw [List.map_cons]
  split at h
  ·rename_i hn
   cases h
   rw [<- eq_of_beq hn]
   simp [hk,hx]
  ·rename_i hn
   dsimp only
   split
   ·rw [List.lookup_cons,hn];exact ih h
   ·rw [List.lookup_cons,hn];exact ih h
def Dj (X:Cx)(scope:Scope)(N:List Str)(C:Addr)(s:Shared)(H:Hp)(fp:List Addr):Cx :=
 { X with N:=N,s₀:=s,H₀:=H,env:=compEnvC scope (Dv X.env scope.names []) C X.env,outer:=X.stack,ex:=fp,fn:=fun _=>false,pn:=[],xe:=fun _ _=>False }
structure Bq (N₀:List Str) (sc₀ sc:Scope) (x:Str) (N:List Str) (ix:List Nat):Prop where
 kind:sc.kind=.function
 nocell:∀ y∈sc.names,y.2≠.cell
 names:∀ y∈sc.names,y.2=.local->sc.names.lookup y.1=some .local
 free:∀ y∈sc.names,y.2=.free->sc₀.names.lookup y.1=some .cell
 nd:N.Nodup
 hd:N.head?=some x
 loc:sc.names.lookup x=some .local
 len:N.length=ix.length+1
 at_:∀ p∈N.tail.zip ix,N₀[p.2]?=some p.1/\sc.names.lookup p.1=some .free
def frV (σ:St)(ix:List Nat):St:=ix.map fun j=>(σ[j]?).getD none
def PIf (X:Cx)(ifs:List Expr)(t:TT):Prop :=
 ∀ (pins:List (Addr×Obj)) (s:Shared) (σ:St) (H:Hp) (Q:Bool->Hp->Prop),Inv X pins σ H s->t σ H Q->wpAny (model X.prog X.w) X.A (gG ifs X.env) (TP X pins σ Q) X.xe s
def wF:TT:=fun _ H Q=>Q true H
theorem Db {X:Cx}:PIf X [] wF:=fun pins s σ H Q I h=>wpAny_tests_nil ⟨H,I,h⟩
theorem fV {X:Cx}{c:Expr}{t:TT}(h:PT X c t):PIf X [c] t:=fun pins s σ H Q I hw=>wpAny_tests_one (h pins s σ H Q I hw)
def S3 (J:It)(H1:Hp)(fr:St)(tc:TT)(te:TE)(Q:VK):Prop:=∀ D,H1 D=none->∃ W:Nat->Nat->Hp->Prop,(∃ m,W 0 m (upd H1 D (.lst [])))/\∀ i m H,W i m H ->
 (J.stop i H/\Q (.ref D) H)\/(J.go i H/\∀ x H',J.yld i H x H'->tc (some x::fr) H' fun b H3 =>
  if b=true then te (some x::fr) H3 fun y H4=>∃ ys,H4 D=some (.lst ys)/\ys.length<sizeLine/\∃ m',m'<m/\W (i+1) m' (upd H4 D (.lst (ys++[y]))) else ∃ m',m'<m/\W (i+1) m' H3)
def tLc (wi:TI)(ix:List Nat)(tc:TT)(te:TE):TE:=fun σ H Q=>wi σ H fun J H1=>S3 J H1 (frV σ ix) tc te Q
section
variable {X:Cx} {scope:Scope} {N:List Str} {ix:List Nat} {x:Str} {px:Pos} {elt iter:Expr} {ifs:List Expr} {tc:TT} {te:TE} {pos:Pos}
theorem xV {pins:List (Addr×Obj)}{σ:St}{H2:Hp}{s2:Shared}{J:It}{fp:List Addr}{it:Addr}{tn:Nat->Heap->Prop}{tg:Expr}(L:Bq X.N X.env.scope scope x N ix)(I2:Inv X pins σ H2 s2)
  (T:Mq X.prog X.w X.K tg J fp it tn)(st2:tn 0 s2.heap)(f2:∀ b∈fp,Nf X pins H2 b){C:Addr}{s3 s4:Shared}{H3:Hp}(I3:Inv X pins σ H3 s3)(I4:Inv X pins σ H3 s4)(hle:s2.heap.objs.size<=s3.heap.objs.size)
  (hC:C=s3.heap.objs.size)(ho:s4.os=s3.os)(kp:∀ b u,s3.heap.get? b=some u->s4.heap.get? b=some u){m:Str->Option Value}(hns:s4.heap.Ns C m):Inv (Dj X scope N C s3 H3 fp) [] (none::frV σ ix) H3 s4:=by
 have hfree:∀ y∈scope.names,y.2=.free->∃ c,X.env.cells.lookup y.1=some c:=fun y hy hf=>I2.ok.has y.1 (.inl (L.free y hy hf))
 have sub:∀ y c,(Dv X.env scope.names []).lookup y=some c->X.env.cells.lookup y=some c:=fun y c h=>Io _ _ y c hfree (fun _ _ z=>by simp at z) h
 have lt2:∀ b∈fp,b<s2.heap.objs.size:=fun b hb=>by obtain ⟨o,e,_⟩:=T.obj _ _ st2 b hb;exact Heap.lt_size e
 have okY:(Dj X scope N C s3 H3 fp).Ok:=by
  refine ⟨I2.ok.mod,L.kind,I2.ok.glob,I2.ok.blt,Nat.le_of_eq hC.symm,fun y z c h1 h2=>I2.ok.inj y z c (sub y c h1) (sub z c h2),fun y hy=>?_,fun y c z _=>?_,I2.ok.hd,I2.ok.frames,.inl rfl,fun b hb=>⟨?_,fun y c h=>(f2 b hb).2.2.2.2.1 y c (sub y c h)⟩,
   I3.bs,Nat.le_trans I3.ok.bsz I3.sz,fun b o e hb=>?_,fun b hb z=>?_,I3.stack,I3.stkFree⟩
  ·have hk:(y,NameKind.free)∈scope.names:=by
    rcases hy with hy | hy
    ·rcases Kc hy with q | q
     ·exact absurd rfl (L.nocell _ q)
     ·exact q.1
    ·rcases Kc hy with q | q
     ·exact q
     ·exact absurd q.2 (by decide)
   exact Option.isSome_iff_exists.mp (Fb _ _ y hk)
  ·cases (show false=true from z)
  ·have l:=lt2 b hb
   show b≠C
   rw [hC]
   exact Nat.ne_of_lt (Nat.lt_of_lt_of_le l hle)
  ·rcases (f2 b hb).2.2.2.1 with q | q
   ·exact I2.ok.noex b o e q
   ·exact absurd (Nat.lt_of_lt_of_le (Heap.lt_size e) (Nat.le_trans I2.ok.bsz q)) (Nat.lt_irrefl _)
  ·rcases List.mem_cons.mp (I2.stkSub b z) with q | q
   ·exact (f2 b hb).2.1 q
   ·exact (f2 b hb).2.2.1 q
 refine ⟨okY,ho,I4.bare,Un.kept kp,⟨m,hns,fun i y v h1 h2 h3=>?_⟩,fun y c e=>I4.cell y c (sub y c e),?_,fun y c e=>I4.freeC y c (sub y c e),fun p hp=>absurd (show p∈([]:List (Addr×Obj)) from hp) (by simp),I4.hok,?_⟩
 ·cases i with
  | zero=>cases (show some none=some (some v) from h2)
  | succ k =>
   have h2:(frV σ ix)[k]?=some (some v):=h2
   have h1:N[k+1]?=some y:=h1
   unfold frV at h2
   rw [List.getElem?_map] at h2
   cases hj:ix[k]? with
   | none=>rw [hj] at h2;cases h2
   | some j =>
    rw [hj] at h2
    have h2:(σ[j]?).getD none=some v:=Option.some.inj h2
    have h2':σ[j]?=some (some v):=by
     cases e:σ[j]? with
     | none=>rw [e] at h2;cases h2
     | some z=>rw [e] at h2;exact congrArg some h2
    have ht:N.tail[k]?=some y:=by rw [List.getElem?_tail];exact h1
    have hz:(y,j)∈N.tail.zip ix:=List.mem_of_getElem? (i:=k) (by rw [List.getElem?_zip_eq_some];exact ⟨ht,hj⟩)
    obtain ⟨q1,q2⟩:=L.at_ _ hz
    have hm:=PySem.mem_of_lookup q2
    have hcell:=L.free _ hm rfl
    obtain ⟨m',hn',hl'⟩:=I4.loc
    obtain ⟨u,r,lk⟩:=hl' j y v q1 h2' (.inr (.inl hcell))
    refine ⟨u,r,.inr ⟨.inl (My I2.ok.kind hcell q2),?_⟩⟩
    rcases lk with lk | ⟨_,c,e,z⟩
    ·rw [show X.env.kindOf y=some .cell from hcell] at lk
     cases lk.1
    ·obtain ⟨c',e'⟩:=Option.isSome_iff_exists.mp (Fb (env:=X.env) scope.names [] y hm)
     have e2:=sub y c' e'
     rw [e] at e2
     cases e2
     exact ⟨c,e',z⟩
 ·show H3 C=none
  exact I3.hok.fresh (Nat.le_of_eq hC.symm)
 ·show (none::frV σ ix).length=N.length
  rw [L.len]
  simp [frV]
theorem kB {tgt:Expr}(htg:tgt=.Name x px){pins:List (Addr×Obj)}{σ:St}{H2:Hp}{s2:Shared}{J:It}{fp:List Addr}{it:Addr}{tn:Nat->Heap->Prop}(hc:X.calm=true)(L:Bq X.N X.env.scope scope x N ix)(I2:Inv X pins σ H2 s2)
  (T:Mq X.prog X.w X.K tgt J fp it tn)(st2:tn 0 s2.heap)(f2:∀ b∈fp,Nf X pins H2 b)
  (hif:∀ C s H,PIf (Dj X scope N C s H fp) ifs tc)(he:∀ C s H,PE (Dj X scope N C s H fp) elt te){Q:VK}(rd:S3 J H2 (frV σ ix) tc te Q){RR:Value->Addr->Result->Shared->Prop}{E:Value->Shared->Prop}
  (fin:∀ D C H' s' m,Inv X pins σ H' s'->s2.heap.objs.size<=C->H' C=none->s'.heap.Ns C m->Q (.ref D) H'->RR (.ref D) C (.ok .next) s') :
  wpAny (model X.prog X.w) X.A (newList []) (fun acc s3=>wpAny (model X.prog X.w) X.A (newFunctionEnv scope X.env.globals (Dv X.env scope.names []) [] X.env.qual none .none (some X.env)) (fun cenv s4 =>
   codeAny (model X.prog X.w) X.A (.compStart (.ListComp elt [⟨tgt,iter,ifs,0⟩] scope pos) 0 (.ref it) acc { cenv with scope:=relabel scope X.env }) (RR acc cenv.locals) s4) E s3) E s2:=by
 refine wpAny_newObj_type (wpAny_newFunctionEnv L.nocell (by intro y hy;simp at hy) (fun h1 hns hsb=>?_) L.kind)
 dsimp only at hns hsb ⊢
 have I3:Inv X pins σ (upd H2 s2.heap.objs.size (.lst [])) { s2 with heap:=s2.heap.push { cls:=.type "list",dict:=none,data:=.seq ([]:List Value).toArray } }:=I2.lnew (its:=[]) (t':=s2.toks) .nil (Nat.zero_le _)
 generalize hH3:s2.heap.push { cls:=.type "list",dict:=none,data:=.seq ([]:List Value).toArray }=h3 at hns hsb I3 ⊢
 have hsz:h3.objs.size=s2.heap.objs.size+1:=by rw [<- hH3,Heap.size_push]
 have kp34:∀ b u,h3.get? b=some u->h1.get? b=some u:=fun b u e=>hsb.extBut b u (Nat.ne_of_lt (Heap.lt_size e)) (Heap.get?_push_of_some _ e)
 have I4:Inv X pins σ (upd H2 s2.heap.objs.size (.lst [])) { s2 with heap:=h1,toks:=s2.toks+([]:List (Str×Value)).length }:=I3.kept (t':=s2.toks+([]:List (Str×Value)).length) kp34
 have kp24:∀ b u,s2.heap.get? b=some u->h1.get? b=some u:=fun b u e=>kp34 b u (by rw [<- hH3];exact Heap.get?_push_of_some _ e)
 have IY:=xV (C:=h3.objs.size) (s3:={ s2 with heap:=h3 }) L I2 T st2 f2 I3 I4 (by show s2.heap.objs.size<=h3.objs.size;omega) rfl rfl kp34 hns
 have fD:H2 s2.heap.objs.size=none:=I2.hok.fresh (Nat.le_refl _)
 have lt2:∀ b∈fp,b<s2.heap.objs.size:=fun b hb=>by obtain ⟨o,e,_⟩:=T.obj _ _ st2 b hb;exact Heap.lt_size e
 have st4:tn 0 h1:=T.keep _ _ _ st2 fun b _ o e=>kp24 b o e
 have stat:∀ {pn:List (Addr×Obj)} {H':Hp},pn=[]->(∀ b∈fp,H' b=none)->∀ b∈fp,Nf (Dj X scope N h3.objs.size { s2 with heap:=h3 } (upd H2 s2.heap.objs.size (.lst [])) fp) pn H' b:=fun hp hn b hb=>by
  subst hp
  exact ⟨hn b hb,(IY.ok.exf b hb).1,IY.ok.exfs b hb,.inl hb,(IY.ok.exf b hb).2,fun p hp=>absurd (show p∈([]:List (Addr×Obj)) from hp) (by simp)⟩
 obtain ⟨W,⟨m0,w0⟩,turn⟩:=rd _ fD
 have loop:codeAny (model X.prog X.w) X.A (.compLoop (.ListComp elt [⟨tgt,iter,ifs,0⟩] scope pos) 0 (.ref it) (.ref s2.heap.objs.size) (compEnvC scope (Dv X.env scope.names []) h3.objs.size X.env)) (RR (.ref s2.heap.objs.size) h3.objs.size)
   { s2 with heap:=h1,toks:=s2.toks+([]:List (Str×Value)).length }:=by
  refine eW (fun n s'=>∃ i H',Inv (Dj X scope N h3.objs.size { s2 with heap:=h3 } (upd H2 s2.heap.objs.size (.lst [])) fp) [] (none::frV σ ix) H' s'/\tn i s'.heap/\(∀ b∈fp,H' b=none)/\W i n H') ?_ m0
   ⟨0,_,IY,st4,fun b hb=>by rw [Ap (Nat.ne_of_lt (lt2 b hb))];exact (f2 b hb).1,w0⟩
  rintro n s5 ⟨i,H5,I5,st5,fr5,w5⟩
  rcases turn i n H5 w5 with ⟨stop,q⟩ | ⟨go,step⟩
  ·refine thn (T.done (Dj X scope N h3.objs.size { s2 with heap:=h3 } (upd H2 s2.heap.objs.size (.lst [])) fp) rfl rfl rfl hc i [] s5 _ H5 (fun _ _=>False) I5 (stat rfl fr5) st5 stop) fun r s6 ⟨hr,I6⟩=>?_
   subst hr
   obtain ⟨m6,hn6,_⟩:=I6.loc
   have u1:Un (frs X.stack) fp H2 (upd H2 s2.heap.objs.size (.lst [])) s2.heap h3:=Un.laid (fun b u e=>by rw [<- hH3];exact Heap.get?_push_of_some _ e) (Nat.le_refl _) fD
   have back:Inv X pins σ H5 s6:=I2.call' (ch:=fp) (I6.os.trans rfl) (u1.trans I6.base) I6.hok I6.bare fun b hb=>⟨(f2 b hb).2.2.2.1,(f2 b hb).2.1,(f2 b hb).2.2.2.2.1,(f2 b hb).2.2.2.2.2⟩
   exact fin _ _ H5 s6 m6 back (by omega) I6.free hn6 q
  ·refine thn (T.item (Dj X scope N h3.objs.size { s2 with heap:=h3 } (upd H2 s2.heap.objs.size (.lst [])) fp) rfl rfl rfl hc i [] s5 _ H5 (fun _ _=>False) I5 (stat rfl fr5) st5 go) fun r s6 ⟨u,hr,h6⟩=>?_
   subst hr
   refine thn h6 fun _ s7 ⟨y,H7,I7,r7,y7,st7,fr7⟩=>?_
   have I7':=I7.pinned (stat rfl fr7) (T.obj _ _ st7)
   have hg:PG (Dj X scope N h3.objs.size { s2 with heap:=h3 } (upd H2 s2.heap.objs.size (.lst [])) fp) tgt (Fa 0):=by
    rw [htg]
    have hi:N[0]?=some x:=by have:=L.hd;rwa [List.head?_eq_getElem?] at this
    exact Bl L.nd hi (.inl (lookup_relabel_local L.loc)) (.inr (lookup_relabel_local L.loc))
   refine thn (hg _ s7 _ H7 y u (fun σ' H'=>σ'=some y::frV σ ix/\H'=H7) I7' r7 ⟨rfl,rfl⟩) fun _ s8 ⟨σ8,H8,I8,e8,e8'⟩=>?_
   subst e8 e8'
   refine thn (hif _ _ _ _ s8 _ _ _ I8 (step y _ y7)) fun ok s9 ⟨H9,I9,q9⟩=>?_
   have again:∀ {sz:Shared} {Hz:Hp} {m':Nat},Inv (Dj X scope N h3.objs.size { s2 with heap:=h3 } (upd H2 s2.heap.objs.size (.lst [])) fp) ([]++Og fp s7.heap) (some y::frV σ ix) Hz sz->m'<n->W (i+1) m' Hz ->
     ∃ m,m<n/\∃ i H',Inv (Dj X scope N h3.objs.size { s2 with heap:=h3 } (upd H2 s2.heap.objs.size (.lst [])) fp) [] (none::frV σ ix) H' sz/\tn i sz.heap/\(∀ b∈fp,H' b=none)/\W i m H':=fun {sz Hz m'} Iz hm wz=>by
    refine ⟨m',hm,i+1,Hz,Iz.unpinned.weak (by simp) (fun j v e=>?_),T.keep _ _ _ st7 fun b hb o e=>(Iz.pin (b,o) (List.mem_append_right _ (List.mem_append_right _ (Fy hb e)))).1,fun b hb=>?_,wz⟩
    ·cases j with
     | zero=>cases e
     | succ j=>exact e
    ·obtain ⟨o,e,d⟩:=T.obj _ _ st7 b hb
     exact (Iz.pin (b,o) (List.mem_append_right _ (List.mem_append_right _ (Fy hb e)))).2.1
   cases ok with
   | false =>
    obtain ⟨m',hm,wz⟩:=q9
    exact again I9 hm wz
   | true =>
    refine thn (he _ _ _ _ s9 _ _ _ I9 q9) fun xv s10 ⟨z,H10,I10,r10,ys,hD,hl,m',hm,wz⟩=>?_
    refine thn (Cb _ s10 _ H10 (.ref s2.heap.objs.size) [z] (.ref s2.heap.objs.size) [xv] (fun _ Hz=>Hz=upd H10 s2.heap.objs.size (.lst (ys++[z]))) I10 rfl (.cons r10 .nil) ⟨_,ys,z,rfl,rfl,hD,hl,rfl⟩) fun _ s11 ⟨_,H11,I11,_,q11⟩=>?_
    subst q11
    exact again I11 hm wz
 exact codeAny_compStart_list loop (T.self X.A 0 _ _ _ st4 loop)
theorem Nq {wi:TI}(hc:X.calm=true)(L:Bq X.N X.env.scope scope x N ix)(hi:PI X (.Name x px) iter wi)(hif:∀ C s H fp,PIf (Dj X scope N C s H fp) ifs tc)(he:∀ C s H fp,PE (Dj X scope N C s H fp) elt te)
  (hs:∀ z,foldedSetIterable iter X.env z=pure z:=by intro _;rfl):PE X (.ListComp elt [⟨.Name x px,iter,ifs,0⟩] scope pos) (tLc wi ix tc te):=by
 intro pins s σ H Q I h
 have hfree:∀ y∈scope.names,y.2=.free->∃ c,X.env.cells.lookup y.1=some c:=fun y hy hf=>I.ok.has y.1 (.inl (L.free y hy hf))
 rw [eval_ListComp]
 refine wpAny_comprehension_free (use:=none) rfl hs (Hf hfree) L.kind L.names (thn (hi pins s σ H _ I h) fun v s1 h1=>thn h1 fun itv s2 h2=>?_)
 obtain ⟨it,fp,tn,J,H2,e,I2,T,st2,f2,rd⟩:=h2
 subst e
 refine kB (RR:=fun acc C=>compPost (model X.prog X.w) X.A X.xe none _ acc C) rfl hc L I2 T st2 f2 (fun C s H=>hif C s H fp) (fun C s H=>he C s H fp) rd fun D C H' s' m I' hC hf hn q=>?_
 refine ⟨m,hn,fun h' hsb=>⟨.ref D,H',?_,rfl,q⟩⟩
 have l2:=I2.lt
 refine I'.turned (t':=s'.toks) (it:=C) (fun b o hb e=>hsb.extBut b o hb e) hf (Nat.ne_of_gt (Nat.lt_of_lt_of_le l2 hC)) (.inr (Nat.le_trans I2.sz hC)) (fun y c e=>?_) fun p hp=>?_
 ·obtain ⟨v,hv⟩:=I2.cell y c e
  exact Nat.ne_of_lt (Nat.lt_of_lt_of_le hv.lt hC)
 ·exact Nat.ne_of_lt (Nat.lt_of_lt_of_le (Heap.lt_size (I2.pin p hp).1) hC)
theorem Ld {wi:TI}{i:Nat}{y:Str}{py spos:Pos}(hc:X.calm=true)(L:Bq X.N X.env.scope scope x N ix)(hN:X.N.Nodup)(hy:X.N[i]?=some y)(hl:X.env.scope.names.lookup y=some .local)
  (hi:PI X (.Name x px) iter wi)(hif:∀ C s H fp,PIf (Dj X scope N C s H fp) ifs tc)(he:∀ C s H fp,PE (Dj X scope N C s H fp) elt te)
  (hsw:swapsWith (.ListComp elt [⟨.Name x px,iter,ifs,0⟩] scope pos) (some (.Name y py)) spos.line X.env=pure true:=by rfl)
  (hs:∀ z,foldedSetIterable iter X.env z=pure z:=by intro _;rfl):PS X (.Assign [.Name y py] (.ListComp elt [⟨.Name x px,iter,ifs,0⟩] scope pos) spos) (oH (tLc wi ix tc te) (Fa i)):=by
 intro pins s σ H D I h
 have hfree:∀ y∈scope.names,y.2=.free->∃ c,X.env.cells.lookup y.1=some c:=fun y hy hf=>I.ok.has y.1 (.inl (L.free y hy hf))
 rw [exec_Assign_Name_used _ _ _ _ hsw]
 refine wpAny_bind (wpAny_standAt (wpAny_bind ?_))
 show wpAny _ X.A (do let _ <- comprehension (.ListComp elt [⟨.Name x px,iter,ifs,0⟩] scope pos) scope X.env _ (newList []) false (eval iter X.env) (some (assign (.Name y py) X.env))) _ _ s
 refine wpAny_bind (thn (Q:=fun _ s'=>SP X pins D .next s') (wpAny_comprehension_free (use:=some (assign (.Name y py) X.env)) rfl hs (Hf hfree) L.kind L.names (thn (hi pins s σ H _ I h) fun v s1 h1=>thn h1 fun itv s2 h2=>?_)) fun _ s' hq=>wpAny_pure (wpAny_pure hq))
 obtain ⟨it,fp,tn,J,H2,e,I2,T,st2,f2,rd⟩:=h2
 subst e
 refine kB (RR:=fun acc C=>compPost (model X.prog X.w) X.A X.xe (some (assign (.Name y py) X.env)) _ acc C) rfl hc L I2 T st2 f2 (fun C s H=>hif C s H fp) (fun C s H=>he C s H fp) rd fun Da C H' s' m I' hC hf hn q=>?_
 have l2:=I2.lt
 have nC:C≠X.env.locals:=Nat.ne_of_gt (Nat.lt_of_lt_of_le l2 hC)
 have nF:C∉X.fs:=I2.nofs hC
 obtain ⟨oC,es,ep,hget,hdat,hrest⟩:=id hn
 have Ip:Inv X (pins++[(C,oC)]) σ H' s':=I'.pins_of fun p hp=>(List.mem_append.mp hp).elim (fun z=>I'.pin p (List.mem_append_right _ z)) fun z=>by
  have e:p=(C,oC):=by simpa using z
  subst e
  exact ⟨hget,hf,nC,nF,fun v z=>by rw [hdat] at z;cases z⟩
 have hg:PG X (.Name y py) (Fa i):=Bl hN hy (.inl hl) (.inr hl)
 show wpAny _ X.A (assign (.Name y py) X.env (.ref Da)) _ _ s'
 refine thn (hg _ s' σ H' (.ref Da) (.ref Da) D.nx Ip rfl q) fun _ s'' ⟨σ'',H'',I'',q''⟩=>?_
 obtain ⟨g1,g2,_⟩:=I''.pin (C,oC) (List.mem_append_right _ (List.mem_append_right _ (by simp)))
 refine ⟨m,⟨oC,es,ep,g1,hdat,hrest⟩,fun h' hsb=>⟨σ'',H'',?_,q''⟩⟩
 refine I''.unpinned.turned (t':=s''.toks) (it:=C) (fun b o hb e=>hsb.extBut b o hb e) g2 nC (.inr (Nat.le_trans I2.sz hC)) (fun y c e=>?_) fun p hp=>?_
 ·obtain ⟨v,hv⟩:=I2.cell y c e
  exact Nat.ne_of_lt (Nat.lt_of_lt_of_le hv.lt hC)
 ·exact Nat.ne_of_lt (Nat.lt_of_lt_of_le (Heap.lt_size (I2.pin p hp).1) hC)
end
theorem Ah {H:Hp}{D:Addr}{o:HO}(h:H D=none):Al H (upd H D o):=fun b u e=>by rw [Ap (Ar e h)];exact e
theorem Pr {J:It}{H1:Hp}{fr:St}{tc:TT}{te:TE}{Q:VK}(n:Nat)(item:Nat->V)(acc:Nat->List V)(h0:acc 0=[])(hz:∀ i,i<n->(acc i).length<sizeLine)
  (hgo:∀ i H,i<n->Al H1 H->J.go i H)(hy:∀ i H x H',i<n->Al H1 H->J.yld i H x H'->x=item i/\H'=H)(hst:∀ H,Al H1 H->J.stop n H)
  (turn:∀ i H (R:Hp->Prop) (A:VK),i<n->Al H1 H->(acc (i+1)=acc i->∀ H',Al H H'->R H')->(∀ y H',acc (i+1)=acc i++[y]->Al H H'->A y H') ->
   tc (some (item i)::fr) H fun b H3=>if b=true then te (some (item i)::fr) H3 A else R H3)
  (fin:∀ D H,H1 D=none->Al H1 H->H D=some (.lst (acc n))->Q (.ref D) H):S3 J H1 fr tc te Q:=by
 intro D hD
 refine ⟨fun i m H=>i<=n/\m=n-i/\Al H1 H/\H D=some (.lst (acc i)),⟨n,Nat.zero_le _,rfl,Ah hD,by rw [Ac,h0]⟩,?_⟩
 rintro i m H ⟨hi,rfl,sm,hl⟩
 by_cases h:i=n
 ·subst h
  exact .inl ⟨hst H sm,fin D H hD sm hl⟩
 ·have hlt:i<n:=Nat.lt_of_le_of_ne hi h
  refine .inr ⟨hgo i H hlt sm,fun x H' hyl=>?_⟩
  obtain ⟨rfl,rfl⟩:=hy i H x H' hlt sm hyl
  refine turn i H' _ _ hlt sm (fun ea H3 s3=>?_) (fun y H4 ea s4=>?_)
  ·exact ⟨n-(i+1),by omega,by omega,rfl,sm.trans s3,by rw [ea];exact s3 _ _ hl⟩
  ·refine ⟨acc i,s4 _ _ hl,hz i hlt,n-(i+1),by omega,by omega,rfl,fun b u e=>?_,by rw [Ac,ea]⟩
   rw [Ap (Ar e hD)]
   exact s4 _ _ (sm _ _ e)
theorem aK {lo:Int}{n:Nat}{H1:Hp}{fr:St}{tc:TT}{te:TE}{Q:VK}(acc:Nat->List V)(h0:acc 0=[])(hz:∀ i,i<n->(acc i).length<sizeLine)
  (turn:∀ (i:Nat) H (R:Hp->Prop) (A:VK),i<n->Al H1 H->(acc (i+1)=acc i->∀ H',Al H H'->R H')->(∀ y H',acc (i+1)=acc i++[y]->Al H H'->A y H') ->
   tc (some (.int (lo+i))::fr) H fun b H3=>if b=true then te (some (.int (lo+i))::fr) H3 A else R H3)
  (fin:∀ D H,H1 D=none->Al H1 H->H D=some (.lst (acc n))->Q (.ref D) H):S3 (Itr lo n) H1 fr tc te Q :=
 Pr n (fun i=>.int (lo+i)) acc h0 hz (fun i H hi _=>hi) (fun i H x H' _ _ h=>⟨h.2,h.1⟩) (fun H _=>Nat.le_refl n) turn fin
theorem Lg {K:PySem.W.Frag}{a:Addr}{xs:List V}{H1:Hp}{fr:St}{tc:TT}{te:TE}{Q:VK}(hl:SqL K H1 a xs)(acc:Nat->List V)(h0:acc 0=[])(hz:∀ i,i<xs.length->(acc i).length<sizeLine)
  (turn:∀ (i:Nat) x H (R:Hp->Prop) (A:VK),xs[i]?=some x->Al H1 H->(acc (i+1)=acc i->∀ H',Al H H'->R H')->(∀ y H',acc (i+1)=acc i++[y]->Al H H'->A y H') ->
   tc (some x::fr) H fun b H3=>if b=true then te (some x::fr) H3 A else R H3)
  (fin:∀ D H,H1 D=none->Al H1 H->H D=some (.lst (acc xs.length))->Q (.ref D) H):S3 (Itl K a) H1 fr tc te Q:=by
 refine Pr xs.length (fun i=>xs.getD i .non) acc h0 hz (fun i H hi sm=>⟨xs,xs[i],sm.seq hl,by simp [hi]⟩) (fun i H x H' hi sm h=>⟨?_,h.1⟩) (fun H sm=>⟨xs,sm.seq hl,Nat.le_refl _⟩) (fun i H R A hi sm=>turn i _ H R A (by simp [hi]) sm) fin
 have:=h.2 xs (sm.seq hl)
 simp [List.getD,this]
theorem Al.seqT {K:PySem.W.Frag}{H H':Hp}{a:Addr}{xs:List V}(e:Al H H')(h:SqT K H a xs):SqT K H' a xs:=by
 rcases h with (h | ⟨o,h⟩) | h
 ·exact .inl (.inl (e _ _ h))
 ·exact .inl (.inr ⟨o,e _ _ h⟩)
 ·exact .inr h
theorem kI {K:PySem.W.Frag}{a:Addr}{xs:List V}{H1:Hp}{fr:St}{tc:TT}{te:TE}{Q:VK}(hl:SqT K H1 a xs)(acc:Nat->List V)(h0:acc 0=[])(hz:∀ i,i<xs.length->(acc i).length<sizeLine)
  (turn:∀ (i:Nat) x H (R:Hp->Prop) (A:VK),xs[i]?=some x->Al H1 H->(acc (i+1)=acc i->∀ H',Al H H'->R H')->(∀ y H',acc (i+1)=acc i++[y]->Al H H'->A y H') ->
   tc (some x::fr) H fun b H3=>if b=true then te (some x::fr) H3 A else R H3)
  (fin:∀ D H,H1 D=none->Al H1 H->H D=some (.lst (acc xs.length))->Q (.ref D) H):S3 (Itt K a) H1 fr tc te Q:=by
 refine Pr xs.length (fun i=>xs.getD i .non) acc h0 hz (fun i H hi sm=>⟨xs,xs[i],sm.seqT hl,by simp [hi]⟩) (fun i H x H' hi sm h=>⟨?_,h.1⟩) (fun H sm=>⟨xs,sm.seqT hl,Nat.le_refl _⟩) (fun i H R A hi sm=>turn i _ H R A (by simp [hi]) sm) fin
 have:=h.2 xs (sm.seqT hl)
 simp [List.getD,this]
theorem jI:bootBuiltins "int"=some (.type "int"):=by decide +kernel
theorem sJ:bootBuiltins "str"=some (.type "str"):=by decide +kernel
theorem uO:bootBuiltins "bool"=some (.type "bool"):=by decide +kernel
theorem Kl:bootBuiltins "list"=some (.type "list"):=by decide +kernel
theorem Vl:bootBuiltins "tuple"=some (.type "tuple"):=by decide +kernel
theorem sY:bootBuiltins "dict"=some (.type "dict"):=by decide +kernel
theorem Ef:bootBuiltins "len"=some (.builtin "len"):=by decide +kernel
theorem Fg:bootBuiltins "isinstance"=some (.builtin "isinstance"):=by decide +kernel
theorem wR:bootBuiltins "sum"=some (.builtin "sum"):=by decide +kernel
theorem Ul:bootBuiltins "min"=some (.builtin "min"):=by decide +kernel
theorem rV:bootBuiltins "max"=some (.builtin "max"):=by decide +kernel
structure Cal (P:Program) (w:World) (K:PySem.W.Frag) (mg:Str->Option Value) (base:Heap) (name:Str) (k:Nat) (ps:List Str) (sp:Sp):Prop where
 ex:∃ (f:Addr) (fd:FuncData),Ax P w K mg base CX0 k f fd ps sp/\Gp K fd ps []/\mg name=some (.ref f)/\PySem.W.keepIn K (.ref f)=true
section
variable {X:Cx} {k:Nat} {ps:List Str} {sp:Sp} {name m:Str} {p pos apos:Pos} {e o:Expr} {es:List Expr} {ta:TE} {t:TA}
theorem Bb (C:Cal X.prog X.w X.K X.mg X.base name k ps sp)(hr:Dd k X.A)(ha:PA X (e::es) t)(hg:Gl X name:=by rfl)(hdb:(name==("__debug__":Str))=false:=by decide)
  (he:starEach (e::es) X.env=(false,eval e X.env)::starEach es X.env:=by rfl)(hpl:(backTo pos (starEach es X.env)).any (·.1)=false:=by rfl):PE X (.Call (.Name name p) (e::es) [] pos) (fQ sp [] E0 t):=by
 obtain ⟨f,fd,F,b,hm,hk⟩:=C.ex
 exact oW F hr hg hm hk b .nil aJ ha hdb he hpl
end
section
variable {X:Cx}
def yX (K:PySem.W.Frag):List V->Hp->VK->Prop:=fun xs H Q=>∃ x n t b,xs=[x,.ty n]/\N0 K H x t/\PySem.W.kitOne K t (.type n)=some b/\Q (.bl b) H
theorem Gg:Fo X (.builtin "isinstance") (yX X.K):=by
 intro pins s σ H xs us Q I r h
 obtain ⟨x,n,t,b,rfl,ty,e,q⟩:=h
 obtain ⟨u,w',rfl,ru,rw'⟩:=Sm r
 cases (show w'=Value.type n from rw')
 exact iH I ru ty e fun tk=>⟨.bl b,H,I.tok tk,rfl,q⟩
theorem Vn {K:PySem.W.Frag}:PySem.W.kitOne K (.type "int") (.type "bool")=some false:=by rfl
theorem Zy {K:PySem.W.Frag}:PySem.W.kitOne K (.type "int") (.type "int")=some true:=by rfl
theorem O2 {K:PySem.W.Frag}:PySem.W.kitOne K (.type "str") (.type "str")=some true:=by rfl
end
theorem Hv {x y:Str}(h:x.cps.toList=y.cps.toList):x=y:=by
 obtain ⟨a⟩:=x
 obtain ⟨b⟩:=y
 have:a=b:=Array.toList_inj.mp h
 rw [this]
def sgn (c:Nat):Str:=⟨#[c]⟩
def U5 (x:Str)(k:Nat):Str:=⟨(List.replicate k x.cps.toList).flatten.toArray⟩
theorem aX (x:Str)(k:Nat):(U5 x k).length=k*x.length:=by
 show (List.replicate k x.cps.toList).flatten.toArray.size=k*x.cps.size
 rw [List.size_toArray,fJ]
 simp
theorem U2 (a:Array Nat):∀ (k:Nat) (acc:Array Nat),((List.replicate k a).foldl (·++·) acc).toList=acc.toList++(List.replicate k a.toList).flatten
 | 0,acc=>by simp
 | k+1,acc=>by
  rw [List.replicate_succ,List.foldl_cons,U2 a k,List.replicate_succ]
  simp [List.append_assoc]
section
variable {X:Cx}
def vT:R2:=fun x y H Q=>∃ z k,x=.str z/\y=.int k/\-(2 ^ 40)<k/\k<2 ^ 40/\z.length*k.toNat<=sizeLine/\z.length<=sizeLine/\Q (.str (U5 z k.toNat)) H
theorem qR:OpR X (binaryOp .Mult) vT:=by
 intro pins s σ H x y v u Q I rx ry h
 obtain ⟨z,k,rfl,rfl,k1,k2,hz,hz2,q⟩:=h
 obtain ⟨t,rfl⟩:=rx
 obtain ⟨t',rfl⟩:=ry
 have hs:=Kr
 have hs':=sizeLine_eq
 refine PySem.P.mul_str ?_ ?_ ?_ ?_
 ·rw [decide_eq_false (by omega),decide_eq_false (by omega)];rfl
 ·intro h1 _ hgt
  have hk:k<=2 ^ 40:=by omega
  have:(z.length:Int)<=(2 ^ 63-1)/k:=by
   rw [Int.le_ediv_iff_mul_le (by omega)]
   have e:(z.length:Int)*k=((z.length*k.toNat:Nat):Int):=by
    rw [Int.natCast_mul,Int.toNat_of_nonneg (by omega)]
   rw [e]
   omega
  omega
 ·intro _ _
  unfold Builtin.Str.tooLong
  simpa using hz
 ·split
  ·rename_i h1
   have e:U5 z k.toNat=Str.empty:=by
    rw [show k.toNat=0 by omega];rfl
   rw [e] at q
   exact ⟨by decide,.str Str.empty,H,I.tok _,⟨_,rfl⟩,q⟩
  ·rename_i h1
   split
   ·rename_i h2
    have e:U5 z k.toNat=z:=by
     refine Hv ?_
     show (List.replicate k.toNat z.cps.toList).flatten.toArray.toList=_
     rcases Bool.or_eq_true_iff.mp h2 with h2 | h2
     ·have:k=1:=by simpa using h2
      subst this
      simp
     ·have:z.length=0:=by simpa using h2
      have e0:z.cps.toList=[]:=by
       have:z.cps.size=0:=this
       simpa using this
      rw [e0]
      simp
    rw [e] at q
    exact ⟨.str z,H,I,⟨_,rfl⟩,q⟩
   ·have e:(⟨(List.replicate k.toNat z.cps).foldl (·++·) #[]⟩:Str)=U5 z k.toNat:=by
     refine Hv ?_
     show ((List.replicate k.toNat z.cps).foldl (·++·) #[]).toList=_
     rw [U2]
     simp [U5]
    refine ⟨?_,.str (U5 z k.toNat),H,I.tok _,⟨s.toks,by rw [e]⟩,q⟩
    rw [e,aX,Nat.mul_comm]
    exact hz
theorem cN {ys:List Str}:∀ {us:List Value},A6 (ys.map V.str) us->StrsAre us ys:=by
 induction ys with
 | nil=>intro us r;rw [List.map_nil] at r;cases r;exact .nil
 | cons y ys ih =>
  intro us r
  rw [List.map_cons] at r
  cases r with
  | cons r1 r2 =>
   obtain ⟨t,e⟩:=r1
   subst e
   exact .cons y t (ih r2)
def jS (K:PySem.W.Frag):V->List V->Hp->VK->Prop:=fun x vs H Q=>∃ sep p ys,x=.str sep/\vs=[.ref p]/\SqL K H p (ys.map V.str)/\(ys.map (·.length)).sum+ys.length*sep.length<=16777216/\Q (.str (Txt.join sep ys)) H
theorem Vq:MtM X "str.join" (jS X.K):=by
 intro pins s σ H x vs v us Q I rx rv h
 obtain ⟨sep,p,ys,rfl,rfl,hp,hz,q⟩:=h
 obtain ⟨t,rfl⟩:=rx
 obtain ⟨u,rfl,ru⟩:=rv.one
 cases ru
 obtain ⟨its,r,pl,_⟩:=I.list hp
 exact join_list pl.isList (by simpa using cN r) hz fun t' k=>⟨.str (Txt.join sep ys),H,I.tok k,⟨t',rfl⟩,q⟩
theorem Uk:∀ (ys:List Str)(a:Array Nat),(ys.foldl (fun acc p=>acc++("":Str).cps++p.cps) a).toList=a.toList++(ys.map fun y=>y.cps.toList).flatten
 | [],a=>by simp
 | y::r,a=>by
  rw [List.foldl_cons,Uk r]
  have e:("":Str).cps=#[]:=rfl
  rw [e]
  simp [List.append_assoc]
theorem Rl (ys:List Str):(Txt.join ("":Str) ys).cps.toList=(ys.map fun y=>y.cps.toList).flatten:=by
 show ((ys.drop 1).foldl (fun acc p=>acc++("":Str).cps++p.cps) (ys.headD Str.empty).cps).toList=_
 rw [Uk]
 cases ys with
 | nil=>rfl
 | cons y r=>simp
end
def jX:Expr->Bool
 | .Starred ..=>false
 | _=>true
theorem Ze {e:Expr}{es:List Expr}{env:Env}(h:jX e=true):starEach (e::es) env=(false,eval e env)::starEach es env:=by
 cases e<;>first | rfl | cases h
section
variable {X:Cx} {e:Expr} {es:List Expr} {te:TE} {t:TA}
theorem Af (ha:PE X e te)(hr:PA X es t)(hs:jX e=true):PA X (e::es) (fI te t):=fE ha hr (Ze hs)
end
theorem us3 {P:List Value->Prop}(h:∀ a b c,P [a,b,c]):∀ us:List Value,us.length=3->P us
 | [_,_,_],_=>h _ _ _
section
variable {σ:St} {H:Hp} {D:Ja} {Q:VK} {t u:TS} {te ta tb:TE} {QB:Bool->Hp->Prop}
theorem wE (h:t { D with nx:=u D } σ H):vX t u D σ H:=h
theorem tP (h:D.nx σ H):rS D σ H:=h
theorem wB {g:TG}(h:te σ H fun x H1=>g x σ H1 D.nx):oH te g D σ H:=h
theorem pH {i:Nat}{v:V}{R:St->Hp->Prop}(h:R (σ.set i (some v)) H):Fa i v σ H R:=h
theorem wM (h:te σ H D.rt):vU te D σ H:=h
theorem tF (h:te σ H fun _ H1=>D.nx σ H1):sG te D σ H:=h
theorem xQ {c:TT}(h:c σ H fun b H1=>if b=true then t D σ H1 else u D σ H1):wO c t u D σ H:=h
theorem wV {i:Nat}{ti:TIp}{x:V}(e:σ[i]?=some (some x))(h:te σ H fun y H1=>ti x y H1 fun z H2=>D.nx (σ.set i (some z)) H2):xJ i te ti D σ H:=⟨x,e,h⟩
theorem xY {i:Nat}{v:V}(e:σ[i]?=some (some v))(h:Q v H):qA i σ H Q:=⟨v,e,h⟩
theorem r_c {v:V}(h:Q v H):tC v σ H Q:=h
theorem yT {r:R2}(h:ta σ H fun x H1=>tb σ H1 fun y H2=>r x y H2 Q):tOp r ta tb σ H Q:=h
theorem yK {r:V->Hp->VK->Prop}(h:ta σ H fun x H1=>r x H1 Q):tUn r ta σ H Q:=h
theorem yY {g:Int->V}{i:Int}(h:Q (g i) H):rU g (.int i) H Q:=⟨i,rfl,h⟩
theorem rX {g:Int->Int->V}{i j:Int}(h:Q (g i j) H):rI0 g (.int i) (.int j) H Q:=⟨i,j,rfl,rfl,h⟩
theorem zF {C:Int->Int->Prop}{g:Int->Int->V}{i j:Int}(c:C i j)(h:Q (g i j) H):rI C g (.int i) (.int j) H Q:=⟨i,j,rfl,rfl,c,h⟩
theorem yG {f:Int->Int->Int}{i j:Int}(h:Q (.int (f i j)) H):ipI f (.int i) (.int j) H Q:=⟨i,j,rfl,rfl,h⟩
theorem xE {x y:V}(e:qE x y=true)(h:Q (.bl (decide (x=y))) H):rEq x y H Q:=⟨e,h⟩
theorem wG {x y:V}(e:qE x y=true)(h:Q (.bl (!decide (x=y))) H):rNe x y H Q:=⟨e,h⟩
theorem uC (h:te σ H fun x H'=>∃ k,x=.bl k/\QB k H'):rW te σ H QB:=h
theorem yQ (h:te σ H fun x H'=>∃ k,x=.bl k/\QB k H'):tB te σ H QB:=h
theorem yN {k:Bool}{P:Bool->Prop}(h:P k):∃ k',V.bl k=.bl k'/\P k':=⟨k,rfl,h⟩
theorem wH {c:TT}(h:c σ H fun b H1=>QB (!b) H1):xR c σ H QB:=h
theorem wK {c d:TT}(h:c σ H fun b H1=>if b=true then d σ H1 QB else QB false H1):xU c d σ H QB:=h
theorem yZ {c d:TT}(h:c σ H fun b H1=>if b=true then QB true H1 else d σ H1 QB):tOr c d σ H QB:=h
theorem uJ (h:ta σ H fun x H1=>∃ c,x=.bl c/\if c=true then tb σ H1 Q else Q (.bl false) H1):sC ta tb σ H Q:=h
theorem wS (h:ta σ H fun x H1=>∃ c,x=.bl c/\if c=true then Q (.bl true) H1 else tb σ H1 Q):xC ta tb σ H Q:=h
theorem sS (h:ta σ H fun x H1=>∃ c,x=.bl c/\Q (.bl (!c)) H1):rN ta σ H Q:=h
theorem wL {c:TT}(h:c σ H fun b H1=>if b=true then ta σ H1 Q else tb σ H1 Q):tIf c ta tb σ H Q:=h
theorem wI (h:ta σ H fun x H1=>Q (.bl (decide (x=.non))) H1):vP ta σ H Q:=h
theorem vB (h:ta σ H fun x H1=>Q (.bl (!decide (x=.non))) H1):rL ta σ H Q:=h
theorem qU {r r':R2}{tc:TE}(h:ta σ H fun x H1=>tb σ H1 fun y H2=>r x y H2 fun z H3=>∃ k,z=.bl k/\(if k=true then tc σ H3 fun w' H4=>r' y w' H4 Q else Q (.bl false) H3)):mE r r' ta tb tc σ H Q:=h
theorem xW (h:QB true H):wF σ H QB:=h
variable {tA tR:TA} {QA:List V->Hp->Prop}
theorem vM (h:QA [] H):cU σ H QA:=h
theorem uL (h:te σ H fun x H1=>tR σ H1 fun xs H2=>QA (x::xs) H2):fI te tR σ H QA:=h
theorem tS {sp:Sp}{E:XK}(h:tA σ H fun vs H1=>sp (vs++[]) H1 Q E):fQ sp [] E tA σ H Q:=h
theorem yJ {r:List V->Hp->VK->Prop}(h:tA σ H fun vs H1=>r vs H1 Q):tCB r tA σ H Q:=h
theorem xA (h:tA σ H fun xs H1=>xs.length<=sizeLine/\∀ p,H1 p=none->Q (.ref p) (upd H1 p (.lst xs))):wY tA σ H Q:=h
theorem wT (h:tA σ H fun xs H1=>xs.length<=sizeLine/\∀ p,H1 p=none->Q (.ref p) (upd H1 p (.tup xs))):xI tA σ H Q:=h
theorem yW {K:PySem.W.Frag}{T:String}{r:V->List V->Hp->VK->Prop}(h:te σ H fun x H1=>tyV K T x H1/\tA σ H1 fun xs H2=>r x xs H2 Q):tBM K T r te tA σ H Q:=h
theorem zE {r:V->Option Int->Option Int->Hp->VK->Prop}{tl th:TO}(h:te σ H fun x H1=>tl σ H1 fun l H2=>th σ H2 fun u H3=>r x l u H3 Q):tSl r te tl th σ H Q:=h
theorem nA {QO:Option Int->Hp->Prop}(h:QO none H):fT σ H QO:=h
theorem uU {QO:Option Int->Hp->Prop}(h:te σ H fun x H1=>∃ i,x=.int i/\QO (some i) H1):rO te σ H QO:=h
theorem wX {P:Int->Prop}{i:Int}(h:P i):∃ j,V.int i=.int j/\P j:=⟨i,rfl,h⟩
def iK (J:It)(g:TG)(tb:TS)(D:Ja)(σ:St)(H1:Hp):Prop:=∃ W:Nat->Nat->St->Hp->Prop,(∃ m,W 0 m σ H1)/\∀ i m σ H,W i m σ H ->
 (J.stop i H/\D.nx σ H)\/(J.go i H/\∃ N:St->Hp->Prop,(∀ σ' H',N σ' H'->∃ m',m'<m/\W (i+1) m' σ' H')/\∀ x H',J.yld i H x H'->g x σ H' fun σ2 H2=>tb { D with nx:=N,ct:=N,bk:=D.nx } σ2 H2)
theorem vK {wi:TI}{g:TG}(h:wi σ H fun J H1=>iK J g t D σ H1):wJ wi g t D σ H:=h
theorem tU {R:It->Hp->Prop}(h:tA σ H fun vs H1=>∃ j:Int,vs=[.int j]/\-(2 ^ 62)<=j/\j<2 ^ 62/\R (Itr 0 j.toNat) H1):rT tA σ H R:=h
theorem uF {R:It->Hp->Prop}(h:tA σ H fun vs H1=>∃ i j:Int,vs=[.int i,.int j]/\(-(2 ^ 62)<=i/\i<2 ^ 62/\-(2 ^ 62)<=j/\j<2 ^ 62)/\R (Itr i (j-i).toNat) H1):rR tA σ H R:=h
theorem oS {K:PySem.W.Frag}{R:It->Hp->Prop}(h:te σ H fun x H1=>∃ a,x=.ref a/\(∃ xs,SqL K H1 a xs)/\R (Itl K a) H1):rJ K te σ H R:=h
theorem sO {K:PySem.W.Frag}{R:It->Hp->Prop}(h:te σ H fun x H1=>∃ a,x=.ref a/\(∃ xs,SqT K H1 a xs)/\R (Itt K a) H1):tO K te σ H R:=h
theorem yO {wi:TI}{ix:List Nat}{tc:TT}(h:wi σ H fun J H1=>S3 J H1 (frV σ ix) tc te Q):tLc wi ix tc te σ H Q:=h
theorem Gs {K:PySem.W.Frag}{p:Addr}{xs:List V}{i:Int}{v:V}(hs:SqL K H p xs)(e:atI xs i=some v)(h:Q v H):vJ K (.ref p) (.int i) H Q:=⟨p,xs,i,v,rfl,rfl,hs,e,h⟩
theorem Hh {K:PySem.W.Frag}{p:Addr}{xs:List V}{i:Int}{v:V}(hs:SqT K H p xs)(e:atI xs i=some v)(h:Q v H):uK K (.ref p) (.int i) H Q:=⟨p,xs,i,v,rfl,rfl,hs,e,h⟩
theorem De {l:Addr}{xs:List V}{y:V}(hl:H l=some (.lst xs))(hz:xs.length<sizeLine)(h:Q .non (upd H l (.lst (xs++[y])))):eU (.ref l) [y] H Q:=⟨l,xs,y,rfl,rfl,hl,hz,h⟩
end
theorem Ge {c:TT}{tb:TS}{D:Ja}{σ:St}{H:Hp}(Pv:St->Hp->Prop)(μ:St->Hp->Nat)(h0:Pv σ H)
  (hs:∀ m σ H,Pv σ H->μ σ H=m->c σ H fun b H1=>if b=true then ∃ N:St->Hp->Prop,(∀ σ' H',N σ' H'->∃ m',m'<m/\(Pv σ' H'/\μ σ' H'=m'))/\tb { D with nx:=N,ct:=N,bk:=D.nx } σ H1 else D.nx σ H1):oB c tb D σ H :=
 ⟨fun m σ H=>Pv σ H/\μ σ H=m,⟨_,h0,rfl⟩,fun m σ H h=>hs m σ H h.1 h.2⟩
theorem Lb {tb:TS}{rt:VK}{bk:St->Hp->Prop}{σ:St}{H1:Hp}{Pv:St->Hp->Prop}{μ:St->Hp->Nat}{m:Nat}
  (h:tb { nx:=fun σ' H'=>Pv σ' H'/\μ σ' H'<m,rt:=rt,bk:=bk,ct:=fun σ' H'=>Pv σ' H'/\μ σ' H'<m } σ H1) :
  ∃ N:St->Hp->Prop,(∀ σ' H',N σ' H'->∃ m',m'<m/\(Pv σ' H'/\μ σ' H'=m'))/\tb { nx:=N,rt:=rt,bk:=bk,ct:=N } σ H1:=⟨_,fun σ' H' z=>⟨_,z.2,z.1,rfl⟩,h⟩
section
variable {H:Hp} {Q:VK} {g:Int->Int->V} {i j:Int}
theorem lE (c:0<j)(h:Q (g i j) H):rI (fun _ j=>0<j) g (.int i) (.int j) H Q:=⟨i,j,rfl,rfl,c,h⟩
theorem gE (c:0<=j)(h:Q (g i j) H):rI (fun _ j=>0<=j) g (.int i) (.int j) H Q:=⟨i,j,rfl,rfl,c,h⟩
theorem lY (c1:0<j)(c2:j<1073741824)(h:Q (g i j) H):rI xZ g (.int i) (.int j) H Q:=⟨i,j,rfl,rfl,⟨c1,c2⟩,h⟩
theorem lV (c1:-(2 ^ 64)<j)(c2:j<2 ^ 64)(h:Q (g i j) H):rI mI g (.int i) (.int j) H Q:=⟨i,j,rfl,rfl,.inr ⟨c1,c2⟩,h⟩
theorem sX (c1:-(2 ^ 64)<i)(c2:i<2 ^ 64)(h:Q (g i j) H):rI mI g (.int i) (.int j) H Q:=⟨i,j,rfl,rfl,.inl ⟨c1,c2⟩,h⟩
end
theorem B6 {c A B:Prop}[Decidable c](h1:c->A)(h2:¬ c->B):if decide c=true then A else B:=by
 by_cases h:c
 ·rw [decide_eq_true h,if_pos rfl]
  exact h1 h
 ·rw [decide_eq_false h,if_neg Bool.false_ne_true]
  exact h2 h
theorem Vj {c A B:Prop}[Decidable c](h1:¬ c->A)(h2:c->B):if (!decide c)=true then A else B:=by
 by_cases h:c
 ·rw [decide_eq_true h,if_neg (by decide)]
  exact h2 h
 ·rw [decide_eq_false h,if_pos (by decide)]
  exact h1 h
def wP (c:TT)(t u:TS):TS:=fun D σ H=>∃ J:St->Hp->Prop,(∀ σ H,J σ H->D.nx σ H)/\c σ H fun b H1=>if b=true then t { D with nx:=J } σ H1 else u { D with nx:=J } σ H1
theorem S9 {X:Cx}{c:Expr}{a b:List Stmt}{tc:TT}{t u:TS}{pos:Pos}(hc:PT X c tc)(ha:PSs X a t)(hb:PSs X b u):PS X (.If c a b pos) (wP tc t u):=by
 intro pins s σ H D I h
 obtain ⟨J,hJ,h⟩:=h
 refine thn (B4 hc ha hb pins s σ H { D with nx:=J } I h) fun f s' q=>?_
 cases f with
 | next =>
  obtain ⟨σ',H',I',q'⟩:=q
  exact ⟨σ',H',I',hJ _ _ q'⟩
 | brk=>exact q
 | cont=>exact q
 | ret u=>exact q
theorem Zd {c:TT}{t u:TS}{D:Ja}{σ:St}{H:Hp}(J:St->Hp->Prop)(h:c σ H fun b H1=>if b=true then t { D with nx:=J } σ H1 else u { D with nx:=J } σ H1)(hJ:∀ σ H,J σ H->D.nx σ H):wP c t u D σ H:=⟨J,hJ,h⟩
def lU (lo st:Int)(n:Nat):It:=⟨fun i _=>i<n,fun i H x H'=>H'=H/\x=.int (lo+i*st),fun i _=>n<=i⟩
def Ca (lo hi st:Int):Nat:=((hi-lo+st-1)/st).toNat
theorem Zc {P:Program}{w:World}{K:PySem.W.Frag}{tg:Expr}(it:Addr)(lo dt:Int)(n:Nat):Mq P w K tg (lU lo dt n) [it] it (fun i h=>IsRangeIter h it (lo+(i:Nat)*dt) ((n:Int)-(i:Nat)) dt) where
 mem:=by simp
 obj:=fun i h st b hb=>by
  have e:b=it:=by simpa using hb
  subst e
  exact ⟨_,st,fun v z=>by
   have z':Data.fields _=Data.cell v:=z
   cases z'⟩
 keep:=fun i h h' st k=>k it (by simp) _ st
 item:=by
  intro X hP hw hK hc i pins s σ H E I hf st hg
  subst hP hw hK
  obtain ⟨f0,f1,f2,f3,f4,f5⟩:=hf it (by simp)
  have W:=Walks.range (prog:=X.prog) (w:=X.w) (I.ok.hd hc) it lo dt n
  refine W.item i s _ _ hg st fun v h' tk hv st' kk=>?_
  obtain ⟨t,rfl⟩:=hv
  have I1:Inv X pins σ H { s with heap:=h',toks:=tk }:=I.turned (fun b o hb e=>kk b o (by simpa using hb) e) f0 f1 f3 f4 f5
  exact ⟨_,rfl,Uo (s:={ s with heap:=h',toks:=tk }) (n:="range_iterator") st' rfl rfl (by decide) ⟨.int _,H,I1,⟨t,rfl⟩,⟨rfl,rfl⟩,st',fun b hb=>(hf b hb).1⟩⟩
 done:=by
  intro X hP hw hK hc i pins s σ H E I hf st hg
  subst hP hw hK
  obtain ⟨f0,f1,f2,f3,f4,f5⟩:=hf it (by simp)
  exact wpAny_pyNext_range_end (I.ok.hd hc) st (by have:n<=i:=hg;omega) fun h' eb=>⟨rfl,I.turned (t':=s.toks) (fun b o hb e=>eb b o hb e) f0 f1 f3 f4 f5⟩
 self:=fun _ _ _ _ _ st h=>wpAny_pyIter_rangeiter st h
theorem Rp {lo hi st:Int}(h:0<st):Builtin.Range.rangeSize lo hi st=(Ca lo hi st:Int):=by
 unfold Builtin.Range.rangeSize Ca
 rw [if_pos h]
 by_cases hl:lo<hi
 ·rw [if_pos hl]
  have e:(hi-lo+st-1)/st=(hi-lo-1)/st+1:=by
   rw [show hi-lo+st-1=(hi-lo-1)+st*1 by omega,Int.add_mul_ediv_left _ _ (by omega)]
  rw [e]
  have:0<=(hi-lo-1)/st:=Int.ediv_nonneg (by omega) (by omega)
  omega
 ·rw [if_neg hl]
  have:(hi-lo+st-1)/st<=0:=by
   have:=Int.ediv_le_ediv h (show hi-lo+st-1<=st-1 by omega)
   rw [Int.ediv_eq_zero_of_lt (show 0<=st-1 by omega) (by omega)] at this
   exact this
  omega
theorem Zo {lo hi st:Int}(h:0<st)(h1:-(2 ^ 61)<=lo)(h2:lo<2 ^ 61)(h3:-(2 ^ 61)<=hi)(h4:hi<2 ^ 61)(h5:st<2 ^ 61):Builtin.Range.small lo hi st=true:=by
 unfold Builtin.Range.small
 rw [Rp h]
 have hb:(Ca lo hi st:Int)*st<=hi-lo+st-1\/(Ca lo hi st:Int)=0:=by
  unfold Ca
  by_cases hz:0<=(hi-lo+st-1)/st
  ·left
   rw [Int.toNat_of_nonneg hz]
   exact Int.ediv_mul_le _ (by omega)
  ·right
   omega
 have hn:(Ca lo hi st:Int)<=(Ca lo hi st:Int)*st:=by
  have:=Int.mul_le_mul_of_nonneg_left (show (1:Int)<=st by omega) (Int.natCast_nonneg (Ca lo hi st))
  omega
 have hmul:lo+(Ca lo hi st:Int)*st<2 ^ 63/\-(2 ^ 63)<=lo+(Ca lo hi st:Int)*st:=by
  have h0:0<=(Ca lo hi st:Int)*st:=Int.mul_nonneg (Int.natCast_nonneg _) (by omega)
  rcases hb with hb | hb
  ·omega
  ·rw [hb] at h0 ⊢
   omega
 have h0:0<=(Ca lo hi st:Int):=Int.natCast_nonneg _
 have hs:(Ca lo hi st:Int)<2 ^ 63:=by
  rcases hb with hb | hb
  ·omega
  ·omega
 rw [if_pos h]
 simp only [Builtin.Range.rangeFitsLong,Bool.and_eq_true,Bool.or_eq_true,decide_eq_true_eq,beq_iff_eq]
 refine ⟨⟨⟨⟨?_,?_⟩,?_⟩,?_⟩,.inr ?_⟩<;>omega
section
variable {X:Cx} {tg:Expr}
def sL (ta:TA):TI:=fun σ H R=>ta σ H fun vs H1=>∃ i j k:Int,vs=[.int i,.int j,.int k]/\(-(2 ^ 40)<=i/\i<2 ^ 40/\-(2 ^ 40)<=j/\j<2 ^ 40/\0<k/\k<2 ^ 29)/\R (lU i k (Ca i j k)) H1
theorem Ov {a b c:Expr}{ta:TA}{p pos:Pos}(hg:Gl X "range")(hm:X.mg "range"=none)(ha:PA X [a,b,c] ta)(hs:starEach [a,b,c] X.env=[(false,eval a X.env),(false,eval b X.env),(false,eval c X.env)]:=by rfl)
  (hs2:starEach [b,c] X.env=[(false,eval b X.env),(false,eval c X.env)]:=by rfl):PI X tg (.Call (.Name "range" p) [a,b,c] [] pos) (sL ta):=by
 intro pins s σ H R I h
 refine Call_ (Ei I hg hm boot_range (PyProof.Rows.callWith_type1 (thn (ha pos pins s σ H _ I h) fun us s1 ⟨vs,H1,I1,r1,q1⟩=>?_) (by rw [hs,hs2]) (by rw [hs2];rfl)))
 obtain ⟨i,j,k,e,⟨q1,q2,q3,q4,q5,q6⟩,q⟩:=q1
 subst e
 cases r1 with
 | cons r rr =>
  cases rr with
  | cons r' rr =>
   cases rr with
   | cons r'' rr =>
    cases rr
    obtain ⟨t,rfl⟩:=r
    obtain ⟨t',rfl⟩:=r'
    obtain ⟨t'',rfl⟩:=r''
    refine call_range_3 (by omega) ?_ (.inl (PyProof.noPylong_small (by omega)))
    refine wpAny_pyIter_range (IsRange.new ..) (Zo q5 (by omega) (by omega) (by omega) (by omega) (by omega)) ?_
    have I2:Inv X pins σ H1 { s1 with heap:=s1.heap.push { cls:=.type "range",data:=.fields #[.int i t,.int j t',.int k t''] },toks:=s1.toks }:=I1.kept fun b o e=>Heap.get?_push_of_some _ e
    refine ⟨_,[_],_,_,H1,rfl,I2.kept (t':=s1.toks) fun b o e=>Heap.get?_push_of_some _ e,Zc _ i k (Ca i j k),?_,fun b hb=>?_,q⟩
    ·have e1:i+((0:Nat):Int)*k=i:=by simp
     have e2:((Ca i j k:Nat):Int)-((0:Nat):Int)=Builtin.Range.rangeSize i j k:=by rw [Rp q5];simp
     show IsRangeIter _ _ (i+((0:Nat):Int)*k) (((Ca i j k:Nat):Int)-((0:Nat):Int)) k
     rw [e1,e2]
     exact Heap.get?_push_size _ rfl
    ·have e:=List.mem_singleton.mp hb
     subst e
     exact I2.fpOk (Nat.le_refl _) (I2.hok.fresh (Nat.le_refl _))
end
theorem bQ {lo st:Int}{n:Nat}{H1:Hp}{fr:St}{tc:TT}{te:TE}{Q:VK}(acc:Nat->List V)(h0:acc 0=[])(hz:∀ i,i<n->(acc i).length<sizeLine)
  (turn:∀ (i:Nat) H (R:Hp->Prop) (A:VK),i<n->Al H1 H->(acc (i+1)=acc i->∀ H',Al H H'->R H')->(∀ y H',acc (i+1)=acc i++[y]->Al H H'->A y H') ->
   tc (some (.int (lo+i*st))::fr) H fun b H3=>if b=true then te (some (.int (lo+i*st))::fr) H3 A else R H3)
  (fin:∀ D H,H1 D=none->Al H1 H->H D=some (.lst (acc n))->Q (.ref D) H):S3 (lU lo st n) H1 fr tc te Q :=
 Pr n (fun i=>.int (lo+i*st)) acc h0 hz (fun i H hi _=>hi) (fun i H x H' _ _ h=>⟨h.2,h.1⟩) (fun H _=>Nat.le_refl n) turn fin
def Its (z:Str):It:=⟨fun i _=>i<z.cps.size,fun i H x H'=>H'=H/\∃ c,z.cps[i]?=some c/\x=.str (sgn c),fun i _=>z.cps.size<=i⟩
section
variable {X:Cx} {tg:Expr}
def yA (tl:TE):TI:=fun σ H R=>tl σ H fun x H1=>∃ z,x=.str z/\R (Its z) H1
theorem nY {P:Program}{w:World}{K:PySem.W.Frag}{tg:Expr}{it:Addr}{z:Str}{ty:String}{t:Tok}(hty:ty="str_ascii_iterator"\/ty="str_iterator")
  (W:∀ A':Around,A'.handled=none->Walks P w A' it [it] [it] z.cps.size (SignAt z) (fun i h=>h.IsStrIter it ty z t i))
  (hself:∀ (A:Around) (i:Nat) (s:Shared) (Q:Value->Shared->Prop) (E:Value->Shared->Prop),s.heap.IsStrIter it ty z t i->Q (.ref it) s->wpAny (model P w) A (pyIter (.ref it)) Q E s):Mq P w K tg (Its z) [it] it (fun i h=>h.IsStrIter it ty z t i) where
 mem:=by simp
 obj:=fun i h st b hb=>by
  have e:b=it:=by simpa using hb
  subst e
  obtain ⟨o,e,c,d⟩:=st
  exact ⟨o,e,fun v z=>by rw [d] at z;cases z⟩
 keep:=fun i h h' st k=>let ⟨o,ho,r⟩:=st;⟨o,k it (by simp) o ho,r⟩
 item:=by
  intro X hP hw hK hc i pins s σ H E I hf st hg
  subst hP hw hK
  obtain ⟨f0,f1,f2,f3,f4,f5⟩:=hf it (by simp)
  refine (W X.A (I.ok.hd hc)).item i s _ _ hg st fun v h' tk hv st' kk=>?_
  obtain ⟨c,u,hc',rfl⟩:=hv
  have I1:Inv X pins σ H { s with heap:=h',toks:=tk }:=I.turned (fun b o hb e=>kk b o (by simpa using hb) e) f0 f1 f3 f4 f5
  obtain ⟨o,e,cc,d⟩:=id st'
  exact ⟨_,rfl,Uo (s:={ s with heap:=h',toks:=tk }) e cc d (by rcases hty with rfl | rfl<;>decide) ⟨.str (sgn c),H,I1,⟨u,rfl⟩,⟨rfl,c,hc',rfl⟩,st',fun b hb=>(hf b hb).1⟩⟩
 done:=by
  intro X hP hw hK hc i pins s σ H E I hf st hg
  subst hP hw hK
  obtain ⟨f0,f1,f2,f3,f4,f5⟩:=hf it (by simp)
  rcases hty with rfl | rfl
  ·exact wpAny_pyNext_ascii_end (I.ok.hd hc) st (Array.getElem?_eq_none hg) fun h' eb=>⟨rfl,I.turned (t':=s.toks) (fun b o hb e=>eb b o hb e) f0 f1 f3 f4 f5⟩
  ·exact wpAny_pyNext_wide_end (I.ok.hd hc) st (Array.getElem?_eq_none hg) fun h' eb=>⟨rfl,I.turned (t':=s.toks) (fun b o hb e=>eb b o hb e) f0 f1 f3 f4 f5⟩
 self:=fun A i s Q E st h=>hself A i s Q E st h
theorem tH {l:Expr}{tl:TE}(hl:PE X l tl):PI X tg l (yA tl):=by
 intro pins s σ H R I h
 refine thn (hl pins s σ H _ I h) fun v s1 ⟨x,H1,I1,r1,q1⟩=>?_
 obtain ⟨z,e,q⟩:=q1
 subst e
 obtain ⟨t,rfl⟩:=r1
 have fin:∀ (o:Obj) (ty:String),(ty="str_ascii_iterator"\/ty="str_iterator")->(∀ A':Around,A'.handled=none->Walks X.prog X.w A' s1.heap.objs.size [s1.heap.objs.size] [s1.heap.objs.size] z.cps.size (SignAt z) (fun i h=>h.IsStrIter s1.heap.objs.size ty z t i)) ->
   (∀ (A:Around) (i:Nat) (s:Shared) (Q:Value->Shared->Prop) (E:Value->Shared->Prop),s.heap.IsStrIter s1.heap.objs.size ty z t i->Q (.ref s1.heap.objs.size) s->wpAny (model X.prog X.w) A (pyIter (.ref s1.heap.objs.size)) Q E s) ->
   (s1.heap.push o).IsStrIter s1.heap.objs.size ty z t 0->PIE X pins σ tg R (.ref s1.heap.objs.size) { s1 with heap:=s1.heap.push o }:=fun o ty hty W hs h0=>by
  refine ⟨s1.heap.objs.size,[s1.heap.objs.size],_,_,H1,rfl,I1.kept (t':=s1.toks) fun b o e=>Heap.get?_push_of_some _ e,nY hty W hs,h0,fun b hb=>?_,q⟩
  have e:b=s1.heap.objs.size:=by simpa using hb
  subst e
  exact I1.fpOk (Nat.le_refl _) (I1.hok.fresh (Nat.le_refl _))
 cases ha:z.cps.all (· < 128)
 ·exact wpAny_pyIter_wide ha (fin _ _ (.inr rfl) (fun A' hA=>Walks.strWide hA _ z t) (fun A i s Q E st h=>wpAny_pyIter_striter_wide st h) ⟨_,Heap.get?_push_size _ rfl,rfl,rfl⟩)
 ·exact wpAny_pyIter_ascii ha (fin _ _ (.inl rfl) (fun A' hA=>Walks.strAscii hA _ z t) (fun A i s Q E st h=>wpAny_pyIter_striter_ascii st h) ⟨_,Heap.get?_push_size _ rfl,rfl,rfl⟩)
end
theorem uY {tl:TE}{σ:St}{H:Hp}{R:It->Hp->Prop}(h:tl σ H fun x H1=>∃ z,x=.str z/\R (Its z) H1):yA tl σ H R:=h
theorem vD {tA:TA}{σ:St}{H:Hp}{R:It->Hp->Prop}(h:tA σ H fun vs H1=>∃ i j k:Int,vs=[.int i,.int j,.int k]/\(-(2 ^ 40)<=i/\i<2 ^ 40/\-(2 ^ 40)<=j/\j<2 ^ 40/\0<k/\k<2 ^ 29)/\R (lU i k (Ca i j k)) H1):sL tA σ H R:=h
def Xk (z:Str)(lo hi:Option Int):Str:=⟨((z.cps.toList.drop (HT.sIx z.cps.size 0 lo)).take (HT.sIx z.cps.size z.cps.size hi-HT.sIx z.cps.size 0 lo)).toArray⟩
def yD:V->Option Int->Option Int->Hp->VK->Prop:=fun x lo hi H Q=>∃ z,x=.str z/\z.length<=sizeLine/\Q (.str (Xk z lo hi)) H
theorem xM (lo hi:Option Int)(n:Nat):Builtin.Str.strSliceIndices lo hi 1 n=(List.range (HT.sIx n n hi-HT.sIx n 0 lo)).map (HT.sIx n 0 lo + ·):=by
 have e:Builtin.Str.strSliceIndices lo hi 1 n=sliceRange ((HT.sIx n 0 lo:Nat):Int) ((HT.sIx n n hi:Nat):Int) 1:=by
  unfold Builtin.Str.strSliceIndices
  dsimp only
  congr 1
  ·cases lo with
   | none=>simp [HT.sIx]
   | some i =>
    simp only [HT.sIx,show (1:Int)>0 by decide,if_true]
    by_cases h:i<0
    ·simp only [h,if_true]
     omega
    ·simp only [h,if_false]
     omega
  ·cases hi with
   | none=>simp [HT.sIx]
   | some i =>
    simp only [HT.sIx,show (1:Int)>0 by decide,if_true]
    by_cases h:i<0
    ·simp only [h,if_true]
     omega
    ·simp only [h,if_false]
     omega
 rw [e,sliceRange_one]
theorem oF (z:Str)(t:Tok)(l u:Option (Int×Tok)):(sliceMade z t l u none=.val (.str z t)/\Xk z (l.map (·.1)) (u.map (·.1))=z)\/sliceMade z t l u none=.str (Xk z (l.map (·.1)) (u.map (·.1))):=by
 have hp:slicePicked z l u none=(List.range (HT.sIx z.length z.length (u.map (·.1))-HT.sIx z.length 0 (l.map (·.1)))).map (HT.sIx z.length 0 (l.map (·.1)) + ·):=xM _ _ _
 have hc:(slicePicked z l u none).filterMap (z.cps[·]?)=(Xk z (l.map (·.1)) (u.map (·.1))).cps.toList:=by
  rw [hp,pick_run]
  rfl
 unfold sliceMade
 split
 ·rename_i hw
  left
  refine ⟨rfl,Hv ?_⟩
  have hlen:(slicePicked z l u none).length=z.length:=by simpa using hw
  rw [hp,List.length_map,List.length_range] at hlen
  have h1:=HT.sIx_le z.length 0 (Nat.zero_le _) (l.map (·.1))
  have h2:=HT.sIx_le z.length z.length (Nat.le_refl _) (u.map (·.1))
  have e1:HT.sIx z.length 0 (l.map (·.1))=0\/z.length=0:=by omega
  show ((z.cps.toList.drop (HT.sIx z.cps.size 0 (l.map (·.1)))).take _).toArray.toList=_
  rw [show z.cps.size=z.length from rfl] at *
  rcases e1 with e1 | e1
  ·rw [e1,Nat.sub_zero] at hlen
   rw [e1,hlen,Nat.sub_zero,List.drop_zero,List.toList_toArray]
   exact List.take_of_length_le (by simp [Str.length])
  ·have:z.cps.toList=[]:=by
    have:z.cps.size=0:=e1
    simpa using this
   rw [this]
   simp
 ·right
  rw [hc]
section
variable {X:Cx}
theorem Rb:SlR X yD:=by
 intro pins s σ H x v vl vu lo hi sl Q I rx hs pl pu h
 obtain ⟨z,rfl,hz,q⟩:=h
 obtain ⟨t,rfl⟩:=rx
 refine ⟨"str",_,PySem.F.slot_str_getitem.lookup,typeIs_str _ _ _,?_⟩
 obtain ⟨l,el,el'⟩:∃ l:Option (Int×Tok),vl=partValue l/\lo=l.map (·.1):=by
  cases pl with
  | none=>exact ⟨none,rfl,rfl⟩
  | int i t=>exact ⟨some (i,t),rfl,rfl⟩
 obtain ⟨u,eu,eu'⟩:∃ u:Option (Int×Tok),vu=partValue u/\hi=u.map (·.1):=by
  cases pu with
  | none=>exact ⟨none,rfl,rfl⟩
  | int i t=>exact ⟨some (i,t),rfl,rfl⟩
 subst el el' eu eu'
 refine wpAny_getItem_str_slice (l:=l) (u:=u) (st:=none) hs rfl ?_
 rcases oF z t l u with ⟨e,e2⟩ | e
 ·rw [e]
  rw [e2] at q
  exact ⟨.str z,H,I,⟨t,rfl⟩,q⟩
 ·rw [e]
  refine ⟨?_,.str _,H,I.tok _,⟨_,rfl⟩,q⟩
  refine Nat.le_trans ?_ hz
  show (List.take _ (List.drop _ z.cps.toList)).toArray.size<=z.cps.size
  rw [List.size_toArray,List.length_take,List.length_drop]
  simp
  omega
def Tu (z:Str):Str:=⟨z.cps.toList.reverse.toArray⟩
def xO (te:TE):TE:=fun σ H Q=>te σ H fun x H1=>∃ z,x=.str z/\z.length<=sizeLine/\Q (.str (Tu z)) H1
end
theorem rK:bootBuiltins "zip"=some (.type "zip"):=by decide +kernel
theorem O7:bootBuiltins "enumerate"=some (.type "enumerate"):=by decide +kernel
theorem Inv.turnT {X:Cx}{pins:List (Addr×Obj)}{σ:List (Option V)}{H:Hp}{s:Shared}{h':Heap}{t':Nat}{wr:List Addr}{T:Addr}{xs:List V}{us:List Value}(I:Inv X pins σ H s)
  (k:∀ b o,b∉wr->s.heap.get? b=some o->h'.get? b=some o)(hf:∀ b∈wr,Nf X pins H b)(hT:s.heap.objs.size<=T)(hI:h'.IsTuple T us.toArray)(rv:A6 xs us)(hz:xs.length<=sizeLine) :
  Inv X pins σ (upd H T (.tup xs)) { s with heap:=h',toks:=t' }:=by
 have hn:H T=none:=I.hok.fresh hT
 have nT:∀ b u,H b=some u->b≠T:=fun b u e=>Ar e hn
 have nW:∀ b u,H b=some u->b∉wr:=fun b u e z=>by rw [(hf b z).1] at e;cases e
 refine I.step (g':=s.gens) (d':=s.drawn) (ch:=wr) (fun b hb=>?_) (fun b o _ _ hc e _=>k b o hc e) (fun b o _ _ hc e _=>⟨o.slots,k b o hc e⟩) (fun b o hc e n=>?_)
  (fun b o hc e=>⟨o,k b o hc e⟩) (fun b xs e=>by rw [Ap (nT _ _ e)];exact e) (fun b o u e=>by rw [Ap (nT _ _ e)];exact e) (fun b ps e=>⟨#[],by rw [Ap (nT _ _ e),e];simp⟩) (fun m hm=>?_) (fun b u e=>?_) I.bare
 ·obtain ⟨_,f1,_,f3,f4,f5⟩:=hf b hb
  exact ⟨f3,f1,f4,f5⟩
 ·rw [Ap (Nat.ne_of_lt (Nat.lt_of_lt_of_le (Heap.lt_size e) hT))]
  exact n
 ·obtain ⟨o,es,ep,ho,r⟩:=hm
  exact ⟨o,es,ep,k _ o (fun z=>(hf _ z).2.1 rfl) ho,r⟩
 ·by_cases hb:b=T
  ·subst hb
   rw [Ac] at e
   cases e
   exact ⟨hz,us,rv,hI⟩
  ·rw [Ap hb] at e
   refine (I.hok b u e).stay (fun c v hc q=>k c v ?_ q) (fun c q=>by rw [Ap (nT _ _ q)];exact q) fun c ys q=>by rw [Ap (nT _ _ q)];exact q
   rcases hc with z | z
   ·rw [z];exact nW b u e
   ·exact nW c _ z
theorem Inv.turnW {X:Cx}{pins:List (Addr×Obj)}{σ:List (Option V)}{H:Hp}{s:Shared}{h':Heap}{t':Nat}{wr:List Addr}(I:Inv X pins σ H s)
  (k:∀ b o,b∉wr->s.heap.get? b=some o->h'.get? b=some o)(hf:∀ b∈wr,Nf X pins H b):Inv X pins σ H { s with heap:=h',toks:=t' }:=by
 have nW:∀ b u,H b=some u->b∉wr:=fun b u e z=>by rw [(hf b z).1] at e;cases e
 refine I.step (g':=s.gens) (d':=s.drawn) (ch:=wr) (fun b hb=>?_) (fun b o _ _ hc e _=>k b o hc e) (fun b o _ _ hc e _=>⟨o.slots,k b o hc e⟩) (fun b o hc e n=>n)
  (fun b o hc e=>⟨o,k b o hc e⟩) (fun _ _ e=>e) (fun _ _ _ e=>e) (fun b ps e=>⟨#[],by rw [e];simp⟩) (fun m hm=>?_) (fun b u e=>?_) I.bare
 ·obtain ⟨_,f1,_,f3,f4,f5⟩:=hf b hb
  exact ⟨f3,f1,f4,f5⟩
 ·obtain ⟨o,es,ep,ho,r⟩:=hm
  exact ⟨o,es,ep,k _ o (fun z=>(hf _ z).2.1 rfl) ho,r⟩
 ·refine (I.hok b u e).stay (fun c v hc q=>k c v ?_ q) (fun _ q=>q) fun _ _ q=>q
  rcases hc with z | z
  ·rw [z];exact nW b u e
  ·exact nW c _ z
theorem Go {h:Heap}{a b:Addr}{o u:Obj}(h1:h.get? a=some o)(h2:h.get? b=some u)(d:o.cls≠u.cls):a≠b:=fun e=>by
 subst e
 rw [h1] at h2
 cases h2
 exact d rfl
def Itz (K:PySem.W.Frag)(a b:Addr):It :=
 ⟨fun i H=>∃ xs ys x y,SqL K H a xs/\SqL K H b ys/\xs[i]?=some x/\ys[i]?=some y,
  fun i H v H'=>∃ t x y,H t=none/\v=.ref t/\(∀ xs,SqL K H a xs->xs[i]?=some x)/\(∀ ys,SqL K H b ys->ys[i]?=some y)/\H'=upd H t (.tup [x,y]),
  fun i H=>∃ xs ys,SqL K H a xs/\SqL K H b ys/\i=min xs.length ys.length⟩
def StZ (z TI TO i1 i2 l1 l2:Addr)(i:Nat)(h:Heap):Prop:=IsZip h z TI TO .none/\IsPair h TI (.ref i1) (.ref i2)/\(∃ a b,IsPair h TO a b)/\h.IsListIter i1 l1 i/\h.IsListIter i2 l2 i
structure eG (z TI TO i1 i2:Addr):Prop where
 TIz:TI≠z
 TOz:TO≠z
 i1z:i1≠z
 i2z:i2≠z
 TITO:TI≠TO
 TIi1:TI≠i1
 TIi2:TI≠i2
 TOi1:TO≠i1
 TOi2:TO≠i2
 i12:i1≠i2
theorem cK {h:Heap}{z TI TO i1 i2 a b:Addr}{i:Nat}{xs ys:Array Value}(D:eG z TI TO i1 i2)(st:StZ z TI TO i1 i2 a b i h)(ha:h.IsList a xs)(hb:h.IsList b ys):ZipApart z TI TO i1 i2 a b:=by
 obtain ⟨hz,hTI,⟨u,v,hTO⟩,⟨o1,e1,c1,_⟩,⟨o2,e2,c2,_⟩⟩:=st
 obtain ⟨oa,ea,ca,_⟩:=ha
 obtain ⟨ob,eb,cb,_⟩:=hb
 refine ⟨D.TIz,D.TOz,D.i1z,D.i2z,D.TITO,D.TIi1,D.TIi2,D.TOi1,D.TOi2,D.i12,Go ea hz ?_,Go ea hTO ?_,Go ea e1 ?_,Go ea e2 ?_,Go eb hz ?_,Go eb hTO ?_,Go eb e1 ?_,Go eb e2 ?_⟩
 ·rw [ca];exact show Value.type "list"≠Value.type "zip" by decide
 ·rw [ca];exact show Value.type "list"≠Value.type "tuple" by decide
 ·rw [ca,c1];decide
 ·rw [ca,c2];decide
 ·rw [cb];exact show Value.type "list"≠Value.type "zip" by decide
 ·rw [cb];exact show Value.type "list"≠Value.type "tuple" by decide
 ·rw [cb,c1];decide
 ·rw [cb,c2];decide
theorem Rh (n:Nat):eG (n+4) (n+2) (n+3) n (n+1):=by
 constructor<;>(intro h;have h:(_:Nat)=_:=h;omega)
theorem vS {n c:Nat}(h:c=n+4\/c=n+2\/c=n+3\/c=n\/c=n+1):n<=c:=by omega
theorem sI {n c:Nat}(h:c=n+1\/c=n):n<=c:=by omega
theorem rH (n:Nat):n+1≠n:=by omega
theorem jP {P:Program}{w:World}{K:PySem.W.Frag}{elts:List Expr}{k:Nat}{pos:Pos}(z TI TO i1 i2 a b:Addr)(D:eG z TI TO i1 i2) :
  Mq P w K (.Tuple elts k pos) (Itz K a b) [z,TI,TO,i1,i2] z (StZ z TI TO i1 i2 a b) where
 mem:=by simp
 obj:=fun i h st c hc=>by
  obtain ⟨hz,hTI,⟨u,v,hTO⟩,⟨o1,e1,c1,d1⟩,⟨o2,e2,c2,d2⟩⟩:=st
  simp only [List.mem_cons,List.not_mem_nil,or_false] at hc
  rcases hc with rfl | rfl | rfl | rfl | rfl
  ·exact ⟨_,hz,fun v z=>by cases z⟩
  ·exact ⟨_,hTI,fun v z=>by cases z⟩
  ·exact ⟨_,hTO,fun v z=>by cases z⟩
  ·exact ⟨_,e1,fun v z=>by rw [d1] at z;cases z⟩
  ·exact ⟨_,e2,fun v z=>by rw [d2] at z;cases z⟩
 keep:=fun i h h' st kk=>by
  obtain ⟨hz,hTI,⟨u,v,hTO⟩,h1,h2⟩:=st
  exact ⟨kk _ (by simp) _ hz,kk _ (by simp) _ hTI,⟨u,v,kk _ (by simp) _ hTO⟩,h1.at fun o e=>kk _ (by simp) o e,h2.at fun o e=>kk _ (by simp) o e⟩
 item:=by
  intro X hP hw hK hc i pins s σ H E I hf st hg
  subst hP hw hK
  obtain ⟨xs,ys,x,y,ha,hb,hx,hy⟩:=hg
  obtain ⟨its,rv,p,hz⟩:=I.list ha
  obtain ⟨its2,rv2,p2,hz2⟩:=I.list hb
  have W:=WalksT.zip2 (prog:=X.prog) (w:=X.w) (A:=X.A) (I.ok.hd hc) z TI TO i1 i2 a b (cK D st p.isList p2.isList) its.toArray its2.toArray
  obtain ⟨u1,hu1,ru1⟩:=rv.get hx
  obtain ⟨u2,hu2,ru2⟩:=rv2.get hy
  have l1:=(List.getElem?_eq_some_iff.mp hu1).1
  have l2:=(List.getElem?_eq_some_iff.mp hu2).1
  obtain ⟨s1,s2,s3,s4,s5⟩:=id st
  refine W.item i s _ _ (by simp;omega) ⟨s1,s2,s3,s4,s5,p.isList,p2.isList⟩ fun T vals h' tk hv hT hTu mid kk=>?_
  obtain ⟨v1,v2,e1,e2,rfl⟩:=hv
  have e1:v1=u1:=by have:=e1;simp only [List.getElem?_toArray] at this;rw [hu1] at this;exact (Option.some.inj this).symm
  have e2:v2=u2:=by have:=e2;simp only [List.getElem?_toArray] at this;rw [hu2] at this;exact (Option.some.inj this).symm
  subst e1 e2
  have nT:=W.apart i T h' mid
  refine ⟨.ref T,rfl,W.go elts k pos i T { s with heap:=h',toks:=tk } _ _ mid fun h'' st'' kk2=>?_⟩
  have hTu2:h''.IsTuple T ([v1,v2]:List Value).toArray:=by
   obtain ⟨o,e,r⟩:=hTu
   exact ⟨o,kk2 T o nT e,r⟩
  have I2:Inv X pins σ (upd H T (.tup [x,y])) { s with heap:=h'',toks:=tk }:=I.turnT (t':=tk) (fun b o hb e=>kk2 b o hb (kk b o hb e)) (fun b hb=>hf b (by simp at hb ⊢;rcases hb with rfl | rfl | rfl | rfl<;>simp)) hT hTu2 (.cons ru1 (.cons ru2 .nil)) (show 2<=sizeLine by decide)
  refine ⟨.ref T,_,I2,rfl,⟨T,x,y,I.hok.fresh hT,rfl,fun xs' h=>by rw [I.list_inj h ha];exact hx,fun ys' h=>by rw [I.list_inj h hb];exact hy,rfl⟩,⟨st''.1,st''.2.1,st''.2.2.1,st''.2.2.2.1,st''.2.2.2.2.1⟩,fun c hc'=>?_⟩
  have hlt:c<s.heap.objs.size:=by
   obtain ⟨q,⟨t1,t2,t3⟩⟩:c∈[z,TI,TO,i1,i2]/\(IsZip s.heap z TI TO .none/\IsPair s.heap TI (.ref i1) (.ref i2)/\True):=⟨hc',s1,s2,trivial⟩
   obtain ⟨u,v,s3⟩:=s3
   obtain ⟨o4,s4,_⟩:=s4
   obtain ⟨o5,s5,_⟩:=s5
   simp only [List.mem_cons,List.not_mem_nil,or_false] at hc'
   rcases hc' with rfl | rfl | rfl | rfl | rfl
   ·exact Heap.lt_size s1
   ·exact Heap.lt_size s2
   ·exact Heap.lt_size s3
   ·exact Heap.lt_size s4
   ·exact Heap.lt_size s5
  rw [Ap (Nat.ne_of_lt (Nat.lt_of_lt_of_le hlt hT))]
  exact (hf c hc').1
 done:=by
  intro X hP hw hK hc i pins s σ H E I hf st hg
  subst hP hw hK
  obtain ⟨xs,ys,ha,hb,hi⟩:=hg
  obtain ⟨its,rv,p,hz⟩:=I.list ha
  obtain ⟨its2,rv2,p2,hz2⟩:=I.list hb
  have W:=WalksT.zip2 (prog:=X.prog) (w:=X.w) (A:=X.A) (I.ok.hd hc) z TI TO i1 i2 a b (cK D st p.isList p2.isList) its.toArray its2.toArray
  have hl:=rv.length
  have hl2:=rv2.length
  have hi2:i=min its.toArray.size its2.toArray.size:=by rw [hi,hl,hl2];simp
  obtain ⟨s1,s2,s3,s4,s5⟩:=id st
  refine W.done s _ _ (by rw [<- hi2];exact ⟨s1,s2,s3,s4,s5,p.isList,p2.isList⟩) fun h' tk kk=>⟨rfl,?_⟩
  exact I.turnW (t':=tk) kk fun b hb=>hf b (by simp at hb ⊢;rcases hb with rfl | rfl | rfl | rfl<;>simp)
 self:=fun _ _ _ _ _ st h=>wpAny_pyIter_zip st.1 h
section
variable {X:Cx} {elts:List Expr} {k:Nat} {tpos:Pos}
def xH (K:PySem.W.Frag)(ta:TA):TI:=fun σ H R=>ta σ H fun vs H1=>∃ a b,vs=[.ref a,.ref b]/\(∃ xs,SqL K H1 a xs)/\(∃ ys,SqL K H1 b ys)/\R (Itz K a b) H1
theorem kT {a b:Expr}{ta:TA}{p pos:Pos}(hg:Gl X "zip")(hm:X.mg "zip"=none)(ha:PA X [a,b] ta)(hs:starEach [a,b] X.env=[(false,eval a X.env),(false,eval b X.env)]:=by rfl)(hs2:starEach [b] X.env=[(false,eval b X.env)]:=by rfl) :
  PI X (.Tuple elts k tpos) (.Call (.Name "zip" p) [a,b] [] pos) (xH X.K ta):=by
 intro pins s σ H R I h
 refine Call_ (Ei I hg hm rK (PyProof.Rows.callWith_type1 (thn (ha pos pins s σ H _ I h) fun us s1 ⟨vs,H1,I1,r1,q1⟩=>?_) (by rw [hs,hs2]) (by rw [hs2];rfl)))
 obtain ⟨a,b,e,⟨xs,hx⟩,⟨ys,hy⟩,q⟩:=q1
 subst e
 obtain ⟨u,v,rfl,ru,rv⟩:=Sm r1
 cases ru
 cases rv
 obtain ⟨its,rv,p,hz⟩:=I1.list hx
 obtain ⟨its2,rv2,p2,hz2⟩:=I1.list hy
 refine call_zip_2 p.isList p2.isList fun h' g1 g2 g3 g4 g5 hsz kk=>?_
 refine wpAny_pyIter_zip (s:={ s1 with heap:=h' }) g1 ?_
 refine ⟨s1.heap.objs.size+4,[s1.heap.objs.size+4,s1.heap.objs.size+2,s1.heap.objs.size+3,s1.heap.objs.size,s1.heap.objs.size+1],_,_,H1,rfl,I1.kept (t':=s1.toks) kk,
  jP _ _ _ _ _ a b (Rh _),⟨g1,g2,⟨_,_,g3⟩,g4,g5⟩,fun c hc=>?_,q⟩
 have hle:s1.heap.objs.size<=c:=by
  simp only [List.mem_cons,List.not_mem_nil,or_false] at hc
  exact vS hc
 exact I1.fpOk hle (I1.hok.fresh hle)
end
def Ite (K:PySem.W.Frag)(a:Addr):It :=
 ⟨fun i H=>∃ xs x,SqL K H a xs/\xs[i]?=some x,
  fun i H v H'=>∃ t x,H t=none/\v=.ref t/\(∀ xs,SqL K H a xs->xs[i]?=some x)/\H'=upd H t (.tup [.int i,x]),
  fun i H=>∃ xs,SqL K H a xs/\i=xs.length⟩
def StE (e it l:Addr)(i:Nat)(h:Heap):Prop:=(∃ old,IsEnum h e it i old)/\h.IsListIter it l i
theorem iX {P:Program}{w:World}{K:PySem.W.Frag}{elts:List Expr}{k:Nat}{pos:Pos}(e it a:Addr)(D:e≠it) :
  Mq P w K (.Tuple elts k pos) (Ite K a) [e,it] e (StE e it a) where
 mem:=by simp
 obj:=fun i h st c hc=>by
  obtain ⟨⟨old,he⟩,⟨o1,e1,c1,d1⟩⟩:=st
  simp only [List.mem_cons,List.not_mem_nil,or_false] at hc
  rcases hc with rfl | rfl
  ·exact ⟨_,he,fun v z=>by cases z⟩
  ·exact ⟨_,e1,fun v z=>by rw [d1] at z;cases z⟩
 keep:=fun i h h' st kk=>by
  obtain ⟨⟨old,he⟩,h1⟩:=st
  exact ⟨⟨old,kk _ (by simp) _ he⟩,h1.at fun o e=>kk _ (by simp) o e⟩
 item:=by
  intro X hP hw hK hc i pins s σ H E I hf st hg
  subst hP hw hK
  obtain ⟨xs,x,ha,hx⟩:=hg
  obtain ⟨its,rv,p,hz⟩:=I.list ha
  obtain ⟨⟨old,s1⟩,s2⟩:=id st
  have n1:a≠e:=by obtain ⟨oa,ea,ca,_⟩:=p.isList;exact Go ea s1 (by rw [ca];exact show Value.type "list"≠Value.type "enumerate" by decide)
  have n2:a≠it:=by obtain ⟨oa,ea,ca,_⟩:=p.isList;obtain ⟨o1,e1,c1,_⟩:=s2;exact Go ea e1 (by rw [ca,c1];decide)
  have W:=WalksT.enumerate (prog:=X.prog) (w:=X.w) (A:=X.A) (I.ok.hd hc) e it a D n1 n2 its.toArray
  obtain ⟨u1,hu1,ru1⟩:=rv.get hx
  have l1:=(List.getElem?_eq_some_iff.mp hu1).1
  refine W.item i s _ _ (by simpa using l1) ⟨⟨old,s1⟩,s2,p.isList⟩ fun T vals h' tk hv hT hTu mid kk=>?_
  obtain ⟨t,v1,e1,rfl⟩:=hv
  have e1:v1=u1:=by have:=e1;simp only [List.getElem?_toArray] at this;rw [hu1] at this;exact (Option.some.inj this).symm
  subst e1
  have nT:=W.apart i T h' mid
  refine ⟨.ref T,rfl,W.go elts k pos i T { s with heap:=h',toks:=tk } _ _ mid fun h'' st'' kk2=>?_⟩
  have hTu2:h''.IsTuple T ([Value.int (i:Int) t,v1]:List Value).toArray:=by
   obtain ⟨o,e,r⟩:=hTu
   exact ⟨o,kk2 T o nT e,r⟩
  have I2:Inv X pins σ (upd H T (.tup [.int i,x])) { s with heap:=h'',toks:=tk }:=I.turnT (t':=tk) (fun b o hb e=>kk2 b o hb (kk b o hb e)) (fun b hb=>hf b hb) hT hTu2 (.cons ⟨t,rfl⟩ (.cons ru1 .nil)) (show 2<=sizeLine by decide)
  refine ⟨.ref T,_,I2,rfl,⟨T,x,I.hok.fresh hT,rfl,fun xs' h=>by rw [I.list_inj h ha];exact hx,rfl⟩,⟨?_,st''.2.1⟩,fun c hc'=>?_⟩
  ·exact st''.1
  have hlt:c<s.heap.objs.size:=by
   obtain ⟨o5,s5,_⟩:=s2
   simp only [List.mem_cons,List.not_mem_nil,or_false] at hc'
   rcases hc' with rfl | rfl
   ·exact Heap.lt_size s1
   ·exact Heap.lt_size s5
  rw [Ap (Nat.ne_of_lt (Nat.lt_of_lt_of_le hlt hT))]
  exact (hf c hc').1
 done:=by
  intro X hP hw hK hc i pins s σ H E I hf st hg
  subst hP hw hK
  obtain ⟨xs,ha,hi⟩:=hg
  obtain ⟨its,rv,p,hz⟩:=I.list ha
  obtain ⟨⟨old,s1⟩,s2⟩:=id st
  have n1:a≠e:=by obtain ⟨oa,ea,ca,_⟩:=p.isList;exact Go ea s1 (by rw [ca];exact show Value.type "list"≠Value.type "enumerate" by decide)
  have n2:a≠it:=by obtain ⟨oa,ea,ca,_⟩:=p.isList;obtain ⟨o1,e1,c1,_⟩:=s2;exact Go ea e1 (by rw [ca,c1];decide)
  have W:=WalksT.enumerate (prog:=X.prog) (w:=X.w) (A:=X.A) (I.ok.hd hc) e it a D n1 n2 its.toArray
  have hl:=rv.length
  have hi2:i=its.toArray.size:=by rw [hi,hl];simp
  refine W.done s _ _ (by rw [<- hi2];exact ⟨⟨old,s1⟩,s2,p.isList⟩) fun h' tk kk=>⟨rfl,?_⟩
  exact I.turnW (t':=tk) kk fun b hb=>hf b hb
 self:=fun _ _ _ _ _ st h=>wpAny_pyIter_enum (Classical.choose_spec st.1) h
section
variable {X:Cx} {elts:List Expr} {k:Nat} {tpos:Pos}
def sF (K:PySem.W.Frag)(ta:TA):TI:=fun σ H R=>ta σ H fun vs H1=>∃ a,vs=[.ref a]/\(∃ xs,SqL K H1 a xs)/\R (Ite K a) H1
theorem eQ {a:Expr}{ta:TA}{p pos:Pos}(hg:Gl X "enumerate")(hm:X.mg "enumerate"=none)(ha:PA X [a] ta)(hs:starEach [a] X.env=[(false,eval a X.env)]:=by rfl) :
  PI X (.Tuple elts k tpos) (.Call (.Name "enumerate" p) [a] [] pos) (sF X.K ta):=by
 intro pins s σ H R I h
 refine Call_ (Ei I hg hm O7 (PyProof.Rows.callWith_type1 (thn (ha pos pins s σ H _ I h) fun us s1 ⟨vs,H1,I1,r1,q1⟩=>?_) hs rfl))
 obtain ⟨a,e,⟨xs,hx⟩,q⟩:=q1
 subst e
 obtain ⟨u,rfl,ru⟩:=Gc r1
 cases ru
 obtain ⟨its,rv,p,hz⟩:=I1.list hx
 refine call_enumerate_list p.isList fun h' g1 g2 hsz kk=>?_
 refine wpAny_pyIter_enum (s:={ s1 with heap:=h' }) g1 ?_
 refine ⟨s1.heap.objs.size+1,[s1.heap.objs.size+1,s1.heap.objs.size],_,_,H1,rfl,I1.kept (t':=s1.toks) kk,
  iX _ _ a (rH _),⟨⟨_,g1⟩,g2⟩,fun c hc=>?_,q⟩
 have hle:s1.heap.objs.size<=c:=by
  simp only [List.mem_cons,List.not_mem_nil,or_false] at hc
  exact sI hc
 exact I1.fpOk hle (I1.hok.fresh hle)
end
structure Hi (N₀:List Str) (sc₀ sc:Scope) (x1 x2:Str) (N:List Str) (ix:List Nat):Prop where
 kind:sc.kind=.function
 nocell:∀ y∈sc.names,y.2≠.cell
 names:∀ y∈sc.names,y.2=.local->sc.names.lookup y.1=some .local
 free:∀ y∈sc.names,y.2=.free->sc₀.names.lookup y.1=some .cell
 nd:N.Nodup
 hd:N[0]?=some x1
 hd2:N[1]?=some x2
 loc:sc.names.lookup x1=some .local
 loc2:sc.names.lookup x2=some .local
 len:N.length=ix.length+2
 at_:∀ p∈N.tail.tail.zip ix,N₀[p.2]?=some p.1/\sc.names.lookup p.1=some .free
def P7 (K:PySem.W.Frag)(J:It)(H1:Hp)(fr:St)(tc:TT)(te:TE)(Q:VK):Prop:=∀ D,H1 D=none->∃ W:Nat->Nat->Hp->Prop,(∃ m,W 0 m (upd H1 D (.lst [])))/\∀ i m H,W i m H ->
 (J.stop i H/\Q (.ref D) H)\/(J.go i H/\∀ v H',J.yld i H v H'->∃ a x y,v=.ref a/\SqT K H' a [x,y]/\tc (some x::some y::fr) H' fun b H3 =>
  if b=true then te (some x::some y::fr) H3 fun y H4=>∃ ys,H4 D=some (.lst ys)/\ys.length<sizeLine/\∃ m',m'<m/\W (i+1) m' (upd H4 D (.lst (ys++[y]))) else ∃ m',m'<m/\W (i+1) m' H3)
def uX (K:PySem.W.Frag)(wi:TI)(ix:List Nat)(tc:TT)(te:TE):TE:=fun σ H Q=>wi σ H fun J H1=>P7 K J H1 (frV σ ix) tc te Q
section
variable {X:Cx} {scope:Scope} {N:List Str} {ix:List Nat} {x1 x2:Str} {px px2 ppos:Pos} {kk:Nat} {elt iter:Expr} {ifs:List Expr} {tc:TT} {te:TE} {pos:Pos}
theorem uQ {pins:List (Addr×Obj)}{σ:St}{H2:Hp}{s2:Shared}{J:It}{fp:List Addr}{it:Addr}{tn:Nat->Heap->Prop}{tg:Expr}(L:Hi X.N X.env.scope scope x1 x2 N ix)(I2:Inv X pins σ H2 s2)
  (T:Mq X.prog X.w X.K tg J fp it tn)(st2:tn 0 s2.heap)(f2:∀ b∈fp,Nf X pins H2 b){C:Addr}{s3 s4:Shared}{H3:Hp}(I3:Inv X pins σ H3 s3)(I4:Inv X pins σ H3 s4)(hle:s2.heap.objs.size<=s3.heap.objs.size)
  (hC:C=s3.heap.objs.size)(ho:s4.os=s3.os)(kp:∀ b u,s3.heap.get? b=some u->s4.heap.get? b=some u){m:Str->Option Value}(hns:s4.heap.Ns C m):Inv (Dj X scope N C s3 H3 fp) [] (none::none::frV σ ix) H3 s4:=by
 have hfree:∀ y∈scope.names,y.2=.free->∃ c,X.env.cells.lookup y.1=some c:=fun y hy hf=>I2.ok.has y.1 (.inl (L.free y hy hf))
 have sub:∀ y c,(Dv X.env scope.names []).lookup y=some c->X.env.cells.lookup y=some c:=fun y c h=>Io _ _ y c hfree (fun _ _ z=>by simp at z) h
 have lt2:∀ b∈fp,b<s2.heap.objs.size:=fun b hb=>by obtain ⟨o,e,_⟩:=T.obj _ _ st2 b hb;exact Heap.lt_size e
 have okY:(Dj X scope N C s3 H3 fp).Ok:=by
  refine ⟨I2.ok.mod,L.kind,I2.ok.glob,I2.ok.blt,Nat.le_of_eq hC.symm,fun y z c h1 h2=>I2.ok.inj y z c (sub y c h1) (sub z c h2),fun y hy=>?_,fun y c z _=>?_,I2.ok.hd,I2.ok.frames,.inl rfl,fun b hb=>⟨?_,fun y c h=>(f2 b hb).2.2.2.2.1 y c (sub y c h)⟩,
   I3.bs,Nat.le_trans I3.ok.bsz I3.sz,fun b o e hb=>?_,fun b hb z=>?_,I3.stack,I3.stkFree⟩
  ·have hk:(y,NameKind.free)∈scope.names:=by
    rcases hy with hy | hy
    ·rcases Kc hy with q | q
     ·exact absurd rfl (L.nocell _ q)
     ·exact q.1
    ·rcases Kc hy with q | q
     ·exact q
     ·exact absurd q.2 (by decide)
   exact Option.isSome_iff_exists.mp (Fb _ _ y hk)
  ·cases (show false=true from z)
  ·have l:=lt2 b hb
   show b≠C
   rw [hC]
   exact Nat.ne_of_lt (Nat.lt_of_lt_of_le l hle)
  ·rcases (f2 b hb).2.2.2.1 with q | q
   ·exact I2.ok.noex b o e q
   ·exact absurd (Nat.lt_of_lt_of_le (Heap.lt_size e) (Nat.le_trans I2.ok.bsz q)) (Nat.lt_irrefl _)
  ·rcases List.mem_cons.mp (I2.stkSub b z) with q | q
   ·exact (f2 b hb).2.1 q
   ·exact (f2 b hb).2.2.1 q
 refine ⟨okY,ho,I4.bare,Un.kept kp,⟨m,hns,fun i y v h1 h2 h3=>?_⟩,fun y c e=>I4.cell y c (sub y c e),?_,fun y c e=>I4.freeC y c (sub y c e),fun p hp=>absurd (show p∈([]:List (Addr×Obj)) from hp) (by simp),I4.hok,?_⟩
 ·cases i with
  | zero=>cases (show some none=some (some v) from h2)
  | succ k =>
   cases k with
   | zero=>cases (show some none=some (some v) from h2)
   | succ k =>
   have h2:(frV σ ix)[k]?=some (some v):=h2
   have h1:N[k+1+1]?=some y:=h1
   unfold frV at h2
   rw [List.getElem?_map] at h2
   cases hj:ix[k]? with
   | none=>rw [hj] at h2;cases h2
   | some j =>
    rw [hj] at h2
    have h2:(σ[j]?).getD none=some v:=Option.some.inj h2
    have h2':σ[j]?=some (some v):=by
     cases e:σ[j]? with
     | none=>rw [e] at h2;cases h2
     | some z=>rw [e] at h2;exact congrArg some h2
    have ht:N.tail.tail[k]?=some y:=by rw [List.getElem?_tail,List.getElem?_tail];exact h1
    have hz:(y,j)∈N.tail.tail.zip ix:=List.mem_of_getElem? (i:=k) (by rw [List.getElem?_zip_eq_some];exact ⟨ht,hj⟩)
    obtain ⟨q1,q2⟩:=L.at_ _ hz
    have hm:=PySem.mem_of_lookup q2
    have hcell:=L.free _ hm rfl
    obtain ⟨m',hn',hl'⟩:=I4.loc
    obtain ⟨u,r,lk⟩:=hl' j y v q1 h2' (.inr (.inl hcell))
    refine ⟨u,r,.inr ⟨.inl (My I2.ok.kind hcell q2),?_⟩⟩
    rcases lk with lk | ⟨_,c,e,z⟩
    ·rw [show X.env.kindOf y=some .cell from hcell] at lk
     cases lk.1
    ·obtain ⟨c',e'⟩:=Option.isSome_iff_exists.mp (Fb (env:=X.env) scope.names [] y hm)
     have e2:=sub y c' e'
     rw [e] at e2
     cases e2
     exact ⟨c,e',z⟩
 ·show H3 C=none
  exact I3.hok.fresh (Nat.le_of_eq hC.symm)
 ·show (none::none::frV σ ix).length=N.length
  rw [L.len]
  simp [frV]
theorem fG {tgt:Expr}(htg:tgt=.Tuple [.Name x1 px,.Name x2 px2] kk ppos){pins:List (Addr×Obj)}{σ:St}{H2:Hp}{s2:Shared}{J:It}{fp:List Addr}{it:Addr}{tn:Nat->Heap->Prop}(hc:X.calm=true)(L:Hi X.N X.env.scope scope x1 x2 N ix)(I2:Inv X pins σ H2 s2)
  (T:Mq X.prog X.w X.K tgt J fp it tn)(st2:tn 0 s2.heap)(f2:∀ b∈fp,Nf X pins H2 b)
  (hif:∀ C s H,PIf (Dj X scope N C s H fp) ifs tc)(he:∀ C s H,PE (Dj X scope N C s H fp) elt te){Q:VK}(rd:P7 X.K J H2 (frV σ ix) tc te Q){RR:Value->Addr->Result->Shared->Prop}{E:Value->Shared->Prop}
  (fin:∀ D C H' s' m,Inv X pins σ H' s'->s2.heap.objs.size<=C->H' C=none->s'.heap.Ns C m->Q (.ref D) H'->RR (.ref D) C (.ok .next) s') :
  wpAny (model X.prog X.w) X.A (newList []) (fun acc s3=>wpAny (model X.prog X.w) X.A (newFunctionEnv scope X.env.globals (Dv X.env scope.names []) [] X.env.qual none .none (some X.env)) (fun cenv s4 =>
   codeAny (model X.prog X.w) X.A (.compStart (.ListComp elt [⟨tgt,iter,ifs,0⟩] scope pos) 0 (.ref it) acc { cenv with scope:=relabel scope X.env }) (RR acc cenv.locals) s4) E s3) E s2:=by
 refine wpAny_newObj_type (wpAny_newFunctionEnv L.nocell (by intro y hy;simp at hy) (fun h1 hns hsb=>?_) L.kind)
 dsimp only at hns hsb ⊢
 have I3:Inv X pins σ (upd H2 s2.heap.objs.size (.lst [])) { s2 with heap:=s2.heap.push { cls:=.type "list",dict:=none,data:=.seq ([]:List Value).toArray } }:=I2.lnew (its:=[]) (t':=s2.toks) .nil (Nat.zero_le _)
 generalize hH3:s2.heap.push { cls:=.type "list",dict:=none,data:=.seq ([]:List Value).toArray }=h3 at hns hsb I3 ⊢
 have hsz:h3.objs.size=s2.heap.objs.size+1:=by rw [<- hH3,Heap.size_push]
 have kp34:∀ b u,h3.get? b=some u->h1.get? b=some u:=fun b u e=>hsb.extBut b u (Nat.ne_of_lt (Heap.lt_size e)) (Heap.get?_push_of_some _ e)
 have I4:Inv X pins σ (upd H2 s2.heap.objs.size (.lst [])) { s2 with heap:=h1,toks:=s2.toks+([]:List (Str×Value)).length }:=I3.kept (t':=s2.toks+([]:List (Str×Value)).length) kp34
 have kp24:∀ b u,s2.heap.get? b=some u->h1.get? b=some u:=fun b u e=>kp34 b u (by rw [<- hH3];exact Heap.get?_push_of_some _ e)
 have IY:=uQ (C:=h3.objs.size) (s3:={ s2 with heap:=h3 }) L I2 T st2 f2 I3 I4 (by show s2.heap.objs.size<=h3.objs.size;omega) rfl rfl kp34 hns
 have fD:H2 s2.heap.objs.size=none:=I2.hok.fresh (Nat.le_refl _)
 have lt2:∀ b∈fp,b<s2.heap.objs.size:=fun b hb=>by obtain ⟨o,e,_⟩:=T.obj _ _ st2 b hb;exact Heap.lt_size e
 have st4:tn 0 h1:=T.keep _ _ _ st2 fun b _ o e=>kp24 b o e
 have stat:∀ {pn:List (Addr×Obj)} {H':Hp},pn=[]->(∀ b∈fp,H' b=none)->∀ b∈fp,Nf (Dj X scope N h3.objs.size { s2 with heap:=h3 } (upd H2 s2.heap.objs.size (.lst [])) fp) pn H' b:=fun hp hn b hb=>by
  subst hp
  exact ⟨hn b hb,(IY.ok.exf b hb).1,IY.ok.exfs b hb,.inl hb,(IY.ok.exf b hb).2,fun p hp=>absurd (show p∈([]:List (Addr×Obj)) from hp) (by simp)⟩
 obtain ⟨W,⟨m0,w0⟩,turn⟩:=rd _ fD
 have loop:codeAny (model X.prog X.w) X.A (.compLoop (.ListComp elt [⟨tgt,iter,ifs,0⟩] scope pos) 0 (.ref it) (.ref s2.heap.objs.size) (compEnvC scope (Dv X.env scope.names []) h3.objs.size X.env)) (RR (.ref s2.heap.objs.size) h3.objs.size)
   { s2 with heap:=h1,toks:=s2.toks+([]:List (Str×Value)).length }:=by
  refine eW (fun n s'=>∃ i H',Inv (Dj X scope N h3.objs.size { s2 with heap:=h3 } (upd H2 s2.heap.objs.size (.lst [])) fp) [] (none::none::frV σ ix) H' s'/\tn i s'.heap/\(∀ b∈fp,H' b=none)/\W i n H') ?_ m0
   ⟨0,_,IY,st4,fun b hb=>by rw [Ap (Nat.ne_of_lt (lt2 b hb))];exact (f2 b hb).1,w0⟩
  rintro n s5 ⟨i,H5,I5,st5,fr5,w5⟩
  rcases turn i n H5 w5 with ⟨stop,q⟩ | ⟨go,step⟩
  ·refine thn (T.done (Dj X scope N h3.objs.size { s2 with heap:=h3 } (upd H2 s2.heap.objs.size (.lst [])) fp) rfl rfl rfl hc i [] s5 _ H5 (fun _ _=>False) I5 (stat rfl fr5) st5 stop) fun r s6 ⟨hr,I6⟩=>?_
   subst hr
   obtain ⟨m6,hn6,_⟩:=I6.loc
   have u1:Un (frs X.stack) fp H2 (upd H2 s2.heap.objs.size (.lst [])) s2.heap h3:=Un.laid (fun b u e=>by rw [<- hH3];exact Heap.get?_push_of_some _ e) (Nat.le_refl _) fD
   have back:Inv X pins σ H5 s6:=I2.call' (ch:=fp) (I6.os.trans rfl) (u1.trans I6.base) I6.hok I6.bare fun b hb=>⟨(f2 b hb).2.2.2.1,(f2 b hb).2.1,(f2 b hb).2.2.2.2.1,(f2 b hb).2.2.2.2.2⟩
   exact fin _ _ H5 s6 m6 back (by omega) I6.free hn6 q
  ·refine thn (T.item (Dj X scope N h3.objs.size { s2 with heap:=h3 } (upd H2 s2.heap.objs.size (.lst [])) fp) rfl rfl rfl hc i [] s5 _ H5 (fun _ _=>False) I5 (stat rfl fr5) st5 go) fun r s6 ⟨u,hr,h6⟩=>?_
   subst hr
   refine thn h6 fun _ s7 ⟨y,H7,I7,r7,y7,st7,fr7⟩=>?_
   have I7':=I7.pinned (stat rfl fr7) (T.obj _ _ st7)
   have hg:PG (Dj X scope N h3.objs.size { s2 with heap:=h3 } (upd H2 s2.heap.objs.size (.lst [])) fp) tgt (eJ X.K 2 (Jf (Fa 0) (Jf (Fa 1) cX))):=by
    rw [htg]
    exact Mg hc (Cc (Bl L.nd L.hd (.inl (lookup_relabel_local L.loc)) (.inr (lookup_relabel_local L.loc))) (Cc (Bl L.nd L.hd2 (.inl (lookup_relabel_local L.loc2)) (.inr (lookup_relabel_local L.loc2))) Ka))
   obtain ⟨ta,y1,y2,ey,hTu,hst⟩:=step y _ y7
   refine thn (hg _ s7 _ H7 y u (fun σ' H'=>σ'=some y1::some y2::frV σ ix/\H'=H7) I7' r7 ⟨ta,[y1,y2],ey,hTu,rfl,y1,[y2],rfl,y2,[],rfl,rfl,rfl,rfl⟩) fun _ s8 ⟨σ8,H8,I8,e8,e8'⟩=>?_
   subst e8 e8'
   refine thn (hif _ _ _ _ s8 _ _ _ I8 hst) fun ok s9 ⟨H9,I9,q9⟩=>?_
   have again:∀ {sz:Shared} {Hz:Hp} {m':Nat},Inv (Dj X scope N h3.objs.size { s2 with heap:=h3 } (upd H2 s2.heap.objs.size (.lst [])) fp) ([]++Og fp s7.heap) (some y1::some y2::frV σ ix) Hz sz->m'<n->W (i+1) m' Hz ->
     ∃ m,m<n/\∃ i H',Inv (Dj X scope N h3.objs.size { s2 with heap:=h3 } (upd H2 s2.heap.objs.size (.lst [])) fp) [] (none::none::frV σ ix) H' sz/\tn i sz.heap/\(∀ b∈fp,H' b=none)/\W i m H':=fun {sz Hz m'} Iz hm wz=>by
    refine ⟨m',hm,i+1,Hz,Iz.unpinned.weak (by simp) (fun j v e=>?_),T.keep _ _ _ st7 fun b hb o e=>(Iz.pin (b,o) (List.mem_append_right _ (List.mem_append_right _ (Fy hb e)))).1,fun b hb=>?_,wz⟩
    ·cases j with
     | zero=>cases e
     | succ j =>
      cases j with
      | zero=>cases e
      | succ j=>exact e
    ·obtain ⟨o,e,d⟩:=T.obj _ _ st7 b hb
     exact (Iz.pin (b,o) (List.mem_append_right _ (List.mem_append_right _ (Fy hb e)))).2.1
   cases ok with
   | false =>
    obtain ⟨m',hm,wz⟩:=q9
    exact again I9 hm wz
   | true =>
    refine thn (he _ _ _ _ s9 _ _ _ I9 q9) fun xv s10 ⟨z,H10,I10,r10,ys,hD,hl,m',hm,wz⟩=>?_
    refine thn (Cb _ s10 _ H10 (.ref s2.heap.objs.size) [z] (.ref s2.heap.objs.size) [xv] (fun _ Hz=>Hz=upd H10 s2.heap.objs.size (.lst (ys++[z]))) I10 rfl (.cons r10 .nil) ⟨_,ys,z,rfl,rfl,hD,hl,rfl⟩) fun _ s11 ⟨_,H11,I11,_,q11⟩=>?_
    subst q11
    exact again I11 hm wz
 exact codeAny_compStart_list loop (T.self X.A 0 _ _ _ st4 loop)
theorem tN {wi:TI}(hc:X.calm=true)(L:Hi X.N X.env.scope scope x1 x2 N ix)(hi:PI X (.Tuple [.Name x1 px,.Name x2 px2] kk ppos) iter wi)(hif:∀ C s H fp,PIf (Dj X scope N C s H fp) ifs tc)(he:∀ C s H fp,PE (Dj X scope N C s H fp) elt te)
  (hs:∀ z,foldedSetIterable iter X.env z=pure z:=by intro _;rfl):PE X (.ListComp elt [⟨.Tuple [.Name x1 px,.Name x2 px2] kk ppos,iter,ifs,0⟩] scope pos) (uX X.K wi ix tc te):=by
 intro pins s σ H Q I h
 have hfree:∀ y∈scope.names,y.2=.free->∃ c,X.env.cells.lookup y.1=some c:=fun y hy hf=>I.ok.has y.1 (.inl (L.free y hy hf))
 rw [eval_ListComp]
 refine wpAny_comprehension_free (use:=none) rfl hs (Hf hfree) L.kind L.names (thn (hi pins s σ H _ I h) fun v s1 h1=>thn h1 fun itv s2 h2=>?_)
 obtain ⟨it,fp,tn,J,H2,e,I2,T,st2,f2,rd⟩:=h2
 subst e
 refine fG (RR:=fun acc C=>compPost (model X.prog X.w) X.A X.xe none _ acc C) rfl hc L I2 T st2 f2 (fun C s H=>hif C s H fp) (fun C s H=>he C s H fp) rd fun D C H' s' m I' hC hf hn q=>?_
 refine ⟨m,hn,fun h' hsb=>⟨.ref D,H',?_,rfl,q⟩⟩
 have l2:=I2.lt
 refine I'.turned (t':=s'.toks) (it:=C) (fun b o hb e=>hsb.extBut b o hb e) hf (Nat.ne_of_gt (Nat.lt_of_lt_of_le l2 hC)) (.inr (Nat.le_trans I2.sz hC)) (fun y c e=>?_) fun p hp=>?_
 ·obtain ⟨v,hv⟩:=I2.cell y c e
  exact Nat.ne_of_lt (Nat.lt_of_lt_of_le hv.lt hC)
 ·exact Nat.ne_of_lt (Nat.lt_of_lt_of_le (Heap.lt_size (I2.pin p hp).1) hC)
theorem U1 {wi:TI}{i:Nat}{y:Str}{py spos:Pos}(hc:X.calm=true)(L:Hi X.N X.env.scope scope x1 x2 N ix)(hN:X.N.Nodup)(hy:X.N[i]?=some y)(hl:X.env.scope.names.lookup y=some .local)
  (hi:PI X (.Tuple [.Name x1 px,.Name x2 px2] kk ppos) iter wi)(hif:∀ C s H fp,PIf (Dj X scope N C s H fp) ifs tc)(he:∀ C s H fp,PE (Dj X scope N C s H fp) elt te)
  (hsw:swapsWith (.ListComp elt [⟨.Tuple [.Name x1 px,.Name x2 px2] kk ppos,iter,ifs,0⟩] scope pos) (some (.Name y py)) spos.line X.env=pure true:=by rfl)
  (hs:∀ z,foldedSetIterable iter X.env z=pure z:=by intro _;rfl):PS X (.Assign [.Name y py] (.ListComp elt [⟨.Tuple [.Name x1 px,.Name x2 px2] kk ppos,iter,ifs,0⟩] scope pos) spos) (oH (uX X.K wi ix tc te) (Fa i)):=by
 intro pins s σ H D I h
 have hfree:∀ y∈scope.names,y.2=.free->∃ c,X.env.cells.lookup y.1=some c:=fun y hy hf=>I.ok.has y.1 (.inl (L.free y hy hf))
 rw [exec_Assign_Name_used _ _ _ _ hsw]
 refine wpAny_bind (wpAny_standAt (wpAny_bind ?_))
 show wpAny _ X.A (do let _ <- comprehension (.ListComp elt [⟨.Tuple [.Name x1 px,.Name x2 px2] kk ppos,iter,ifs,0⟩] scope pos) scope X.env _ (newList []) false (eval iter X.env) (some (assign (.Name y py) X.env))) _ _ s
 refine wpAny_bind (thn (Q:=fun _ s'=>SP X pins D .next s') (wpAny_comprehension_free (use:=some (assign (.Name y py) X.env)) rfl hs (Hf hfree) L.kind L.names (thn (hi pins s σ H _ I h) fun v s1 h1=>thn h1 fun itv s2 h2=>?_)) fun _ s' hq=>wpAny_pure (wpAny_pure hq))
 obtain ⟨it,fp,tn,J,H2,e,I2,T,st2,f2,rd⟩:=h2
 subst e
 refine fG (RR:=fun acc C=>compPost (model X.prog X.w) X.A X.xe (some (assign (.Name y py) X.env)) _ acc C) rfl hc L I2 T st2 f2 (fun C s H=>hif C s H fp) (fun C s H=>he C s H fp) rd fun Da C H' s' m I' hC hf hn q=>?_
 have l2:=I2.lt
 have nC:C≠X.env.locals:=Nat.ne_of_gt (Nat.lt_of_lt_of_le l2 hC)
 have nF:C∉X.fs:=I2.nofs hC
 obtain ⟨oC,es,ep,hget,hdat,hrest⟩:=id hn
 have Ip:Inv X (pins++[(C,oC)]) σ H' s':=I'.pins_of fun p hp=>(List.mem_append.mp hp).elim (fun z=>I'.pin p (List.mem_append_right _ z)) fun z=>by
  have e:p=(C,oC):=by simpa using z
  subst e
  exact ⟨hget,hf,nC,nF,fun v z=>by rw [hdat] at z;cases z⟩
 have hg:PG X (.Name y py) (Fa i):=Bl hN hy (.inl hl) (.inr hl)
 show wpAny _ X.A (assign (.Name y py) X.env (.ref Da)) _ _ s'
 refine thn (hg _ s' σ H' (.ref Da) (.ref Da) D.nx Ip rfl q) fun _ s'' ⟨σ'',H'',I'',q''⟩=>?_
 obtain ⟨g1,g2,_⟩:=I''.pin (C,oC) (List.mem_append_right _ (List.mem_append_right _ (by simp)))
 refine ⟨m,⟨oC,es,ep,g1,hdat,hrest⟩,fun h' hsb=>⟨σ'',H'',?_,q''⟩⟩
 refine I''.unpinned.turned (t':=s''.toks) (it:=C) (fun b o hb e=>hsb.extBut b o hb e) g2 nC (.inr (Nat.le_trans I2.sz hC)) (fun y c e=>?_) fun p hp=>?_
 ·obtain ⟨v,hv⟩:=I2.cell y c e
  exact Nat.ne_of_lt (Nat.lt_of_lt_of_le hv.lt hC)
 ·exact Nat.ne_of_lt (Nat.lt_of_lt_of_le (Heap.lt_size (I2.pin p hp).1) hC)
end
theorem uZ {K:PySem.W.Frag}{tA:TA}{σ:St}{H:Hp}{R:It->Hp->Prop}(h:tA σ H fun vs H1=>∃ a b,vs=[.ref a,.ref b]/\(∃ xs,SqL K H1 a xs)/\(∃ ys,SqL K H1 b ys)/\R (Itz K a b) H1):xH K tA σ H R:=h
theorem oY {K:PySem.W.Frag}{tA:TA}{σ:St}{H:Hp}{R:It->Hp->Prop}(h:tA σ H fun vs H1=>∃ a,vs=[.ref a]/\(∃ xs,SqL K H1 a xs)/\R (Ite K a) H1):sF K tA σ H R:=h
theorem xN {K:PySem.W.Frag}{σ:St}{H:Hp}{Q:VK}{wi:TI}{ix:List Nat}{tc:TT}{te:TE}(h:wi σ H fun J H1=>P7 K J H1 (frV σ ix) tc te Q):uX K wi ix tc te σ H Q:=h
theorem Lj {K:PySem.W.Frag}{σ:St}{H:Hp}{R:St->Hp->Prop}{a:Addr}{x y:V}{i j:Nat}(hs:SqT K H a [x,y])(h:R ((σ.set i (some x)).set j (some y)) H):eJ K 2 (Jf (Fa i) (Jf (Fa j) cX)) (.ref a) σ H R :=
 ⟨a,[x,y],rfl,hs,rfl,x,[y],rfl,y,[],rfl,rfl,h⟩
theorem kX {K:PySem.W.Frag}{a:Addr}{xs:List V}{i1 i2:Nat}{tb:TS}{D:Ja}{σ:St}{H:Hp}(Pv:Nat->St->Hp->Prop)(h0:Pv 0 σ H)(hl:∀ i σ H,i<=xs.length->Pv i σ H->SqL K H a xs)
  (step:∀ i x σ H t,xs[i]?=some x->Pv i σ H->H t=none->tb { D with nx:=Pv (i+1),ct:=Pv (i+1),bk:=D.nx } ((σ.set i1 (some (.int i))).set i2 (some x)) (upd H t (.tup [.int i,x])))
  (fin:∀ σ H,Pv xs.length σ H->D.nx σ H):iK (Ite K a) (eJ K 2 (Jf (Fa i1) (Jf (Fa i2) cX))) tb D σ H:=by
 refine ⟨fun i m σ H=>i<=xs.length/\m=xs.length-i/\Pv i σ H,⟨_,Nat.zero_le _,rfl,h0⟩,?_⟩
 rintro i m σ H ⟨hi,rfl,hp⟩
 by_cases h:i=xs.length
 ·exact .inl ⟨⟨xs,hl i σ H hi hp,h⟩,fin σ H (h▸hp)⟩
 ·have hlt:i<xs.length:=Nat.lt_of_le_of_ne hi h
  refine .inr ⟨⟨xs,xs[i],hl i σ H hi hp,by simp⟩,Pv (i+1),fun σ' H' q=>⟨xs.length-(i+1),by omega,hlt,rfl,q⟩,fun v H' hy=>?_⟩
  obtain ⟨t,x,hn,rfl,hx,rfl⟩:=hy
  exact Lj (SqT.of Ac) (step i x σ H t (hx xs (hl i σ H hi hp)) hp hn)
def qK (z:Str):It :=
 ⟨fun i _=>i<z.cps.size,fun i H v H'=>∃ t c,H t=none/\v=.ref t/\z.cps[i]?=some c/\H'=upd H t (.tup [.int i,.str (sgn c)]),fun i _=>i=z.cps.size⟩
theorem cT {P:Program}{w:World}{K:PySem.W.Frag}{elts:List Expr}{k:Nat}{pos:Pos}{e it:Addr}{z:Str}{ty:String}{t:Tok}(hne:e≠it)
  (D:∀ A':Around,A'.handled=none->Draws P w A' it [it] z.cps.size (fun i v=>∃ c u,z.cps[i]?=some c/\v=.str ⟨#[c]⟩ u) (fun i h=>h.IsStrIter it ty z t i)) :
  Mq P w K (.Tuple elts k pos) (qK z) [e,it] e (fun i h=>(∃ old,IsEnum h e it i old)/\h.IsStrIter it ty z t i) where
 mem:=by simp
 obj:=fun i h st c hc=>by
  obtain ⟨⟨old,he⟩,⟨o1,e1,c1,d1⟩⟩:=st
  simp only [List.mem_cons,List.not_mem_nil,or_false] at hc
  rcases hc with rfl | rfl
  ·exact ⟨_,he,fun v z=>by cases z⟩
  ·exact ⟨_,e1,fun v z=>by rw [d1] at z;cases z⟩
 keep:=fun i h h' st kk=>by
  obtain ⟨⟨old,he⟩,⟨o,ho,r⟩⟩:=st
  exact ⟨⟨old,kk _ (by simp) _ he⟩,⟨o,kk _ (by simp) o ho,r⟩⟩
 item:=by
  intro X hP hw hK hc i pins s σ H E I hf st hg
  subst hP hw hK
  have W:=WalksT.enumerateD (D X.A.in1 (I.ok.hd hc)) e hne (by simpa using hne) (by simp)
  refine W.item i s _ _ hg st fun T vals h' tk hv hT hTu mid kk=>?_
  obtain ⟨t1,x,⟨c,u,hc',rfl⟩,rfl⟩:=hv
  have nT:=W.apart i T h' mid
  refine ⟨.ref T,rfl,W.go elts k pos i T { s with heap:=h',toks:=tk } _ _ mid fun h'' st'' kk2=>?_⟩
  have hTu2:h''.IsTuple T ([Value.int (i:Int) t1,Value.str ⟨#[c]⟩ u]:List Value).toArray:=by
   obtain ⟨o,e,r⟩:=hTu
   exact ⟨o,kk2 T o nT e,r⟩
  have I2:Inv X pins σ (upd H T (.tup [.int i,.str (sgn c)])) { s with heap:=h'',toks:=tk }:=I.turnT (t':=tk) (fun b o hb e=>kk2 b o hb (kk b o hb e)) (fun b hb=>hf b hb) hT hTu2 (.cons ⟨t1,rfl⟩ (.cons ⟨u,rfl⟩ .nil)) (show 2<=sizeLine by decide)
  refine ⟨.ref T,_,I2,rfl,⟨T,c,I.hok.fresh hT,rfl,hc',rfl⟩,st'',fun b hb=>?_⟩
  have hlt:b<s.heap.objs.size:=by
   obtain ⟨⟨old,s1⟩,⟨o5,s5,_⟩⟩:=id st
   simp only [List.mem_cons,List.not_mem_nil,or_false] at hb
   rcases hb with rfl | rfl
   ·exact Heap.lt_size s1
   ·exact Heap.lt_size s5
  rw [Ap (Nat.ne_of_lt (Nat.lt_of_lt_of_le hlt hT))]
  exact (hf b hb).1
 done:=by
  intro X hP hw hK hc i pins s σ H E I hf st hg
  subst hP hw hK
  have W:=WalksT.enumerateD (D X.A.in1 (I.ok.hd hc)) e hne (by simpa using hne) (by simp)
  have hi:i=z.cps.size:=hg
  refine W.done s _ _ (by rw [<- hi];exact st) fun h' tk kk=>⟨rfl,?_⟩
  exact I.turnW (t':=tk) kk fun b hb=>hf b hb
 self:=fun _ _ _ _ _ st h=>wpAny_pyIter_enum (Classical.choose_spec st.1) h
section
variable {X:Cx} {elts:List Expr} {k:Nat} {tpos:Pos}
def lX (ta:TA):TI:=fun σ H R=>ta σ H fun vs H1=>∃ z,vs=[.str z]/\R (qK z) H1
theorem jU {a:Expr}{ta:TA}{p pos:Pos}(hg:Gl X "enumerate")(hm:X.mg "enumerate"=none)(ha:PA X [a] ta)(hs:starEach [a] X.env=[(false,eval a X.env)]:=by rfl) :
  PI X (.Tuple elts k tpos) (.Call (.Name "enumerate" p) [a] [] pos) (lX ta):=by
 intro pins s σ H R I h
 refine Call_ (Ei I hg hm O7 (PyProof.Rows.callWith_type1 (thn (ha pos pins s σ H _ I h) fun us s1 ⟨vs,H1,I1,r1,q1⟩=>?_) hs rfl))
 obtain ⟨z,e,q⟩:=q1
 subst e
 obtain ⟨u,rfl,⟨t,rfl⟩⟩:=Gc r1
 refine call_enumerate_str fun h' g1 g2 hsz kk=>?_
 refine wpAny_pyIter_enum (s:={ s1 with heap:=h' }) g1 ?_
 have fin:∀ ty:String,h'.IsStrIter s1.heap.objs.size ty z t 0->(∀ A':Around,A'.handled=none->Draws X.prog X.w A' s1.heap.objs.size [s1.heap.objs.size] z.cps.size (fun i v=>∃ c u,z.cps[i]?=some c/\v=.str ⟨#[c]⟩ u) (fun i h=>h.IsStrIter s1.heap.objs.size ty z t i)) ->
   PIE X pins σ (.Tuple elts k tpos) R (.ref (s1.heap.objs.size+1)) { s1 with heap:=h' }:=fun ty g2 D=>by
  refine ⟨s1.heap.objs.size+1,[s1.heap.objs.size+1,s1.heap.objs.size],_,_,H1,rfl,I1.kept (t':=s1.toks) kk,cT (rH _) D,⟨⟨_,g1⟩,g2⟩,fun c hc=>?_,q⟩
  have hle:s1.heap.objs.size<=c:=by
   simp only [List.mem_cons,List.not_mem_nil,or_false] at hc
   exact sI hc
  exact I1.fpOk hle (I1.hok.fresh hle)
 by_cases ha:z.cps.all (· < 128)=true
 ·have e:strIterType z="str_ascii_iterator":=by unfold strIterType;rw [if_pos ha]
  exact fin _ (e▸g2) fun A' hA=>Draws.strAscii hA _ z t
 ·have e:strIterType z="str_iterator":=by unfold strIterType;rw [if_neg ha]
  exact fin _ (e▸g2) fun A' hA=>Draws.strWide hA _ z t
end
theorem oJ {tA:TA}{σ:St}{H:Hp}{R:It->Hp->Prop}(h:tA σ H fun vs H1=>∃ z,vs=[.str z]/\R (qK z) H1):lX tA σ H R:=h
theorem gM {K:PySem.W.Frag}{z:Str}{i1 i2:Nat}{tb:TS}{D:Ja}{σ:St}{H:Hp}(Pv:Nat->St->Hp->Prop)(h0:Pv 0 σ H)
  (step:∀ i c σ H t,z.cps[i]?=some c->Pv i σ H->H t=none->tb { D with nx:=Pv (i+1),ct:=Pv (i+1),bk:=D.nx } ((σ.set i1 (some (.int i))).set i2 (some (.str (sgn c)))) (upd H t (.tup [.int i,.str (sgn c)])))
  (fin:∀ σ H,Pv z.cps.size σ H->D.nx σ H):iK (qK z) (eJ K 2 (Jf (Fa i1) (Jf (Fa i2) cX))) tb D σ H:=by
 refine ⟨fun i m σ H=>i<=z.cps.size/\m=z.cps.size-i/\Pv i σ H,⟨_,Nat.zero_le _,rfl,h0⟩,?_⟩
 rintro i m σ H ⟨hi,rfl,hp⟩
 by_cases h:i=z.cps.size
 ·exact .inl ⟨h,fin σ H (h▸hp)⟩
 ·have hlt:i<z.cps.size:=Nat.lt_of_le_of_ne hi h
  refine .inr ⟨hlt,Pv (i+1),fun σ' H' q=>⟨z.cps.size-(i+1),by omega,hlt,rfl,q⟩,fun v H' hy=>?_⟩
  obtain ⟨t,c,hn,rfl,hx,rfl⟩:=hy
  exact Lj (SqT.of Ac) (step i c σ H t hx hp hn)
structure Mth (P:Program) (w:World) (K:PySem.W.Frag) (mg:Str->Option Value) (base:Heap) (C:Addr) (m:Str) (k:Nat) (ps:List Str) (sp:Sp):Prop where
 ex:∃ (f:Addr) (fd:FuncData),Ax P w K mg base CX0 k f fd ps sp/\Gp K fd ps []/\kM K C m f
 cl:Cls K C
structure Mkr (P:Program) (w:World) (K:PySem.W.Frag) (mg:Str->Option Value) (base:Heap) (name:Str) (C:Addr) (k:Nat) (ps:List Str) (sp:Sp):Prop where
 ex:∃ (f:Addr) (fd:FuncData),Ax P w K mg base CX0 k f fd ps sp/\Gp K fd ps []/\Mk K C f/\mg name=some (.ref C)
section
variable {X:Cx} {k:Nat} {C:Addr} {ps:List Str} {sp:Sp} {name m:Str} {p pos apos:Pos} {e o:Expr} {es:List Expr} {ta:TE} {t:TA} {pl:Sem Bool}
theorem Zf (M:Mkr X.prog X.w X.K X.mg X.base name C k ps sp)(hr:Dd (k+1) X.A)(ha:PA X (e::es) t)(hg:Gl X name:=by rfl)(hdb:(name==("__debug__":Str))=false:=by decide)
  (he:starEach (e::es) X.env=(false,eval e X.env)::starEach es X.env:=by rfl)(hpl:(backTo pos (starEach es X.env)).any (·.1)=false:=by rfl):PE X (.Call (.Name name p) (e::es) [] pos) (kJ C sp [] E0 t):=by
 obtain ⟨f,fd,F,b,M,hm⟩:=M.ex
 exact pV M F hr hg hm b .nil aJ ha hdb he hpl
theorem A4 (M:Mth X.prog X.w X.K X.mg X.base C m k ps sp)(hr:Dd k X.A)(ho:PE X o ta)(ha:PA X (e::es) t)
  (hst:starEach (e::es) X.env=(false,eval e X.env)::starEach es X.env:=by rfl)(hpl:(backTo pos (starEach es X.env)).any (·.1)=false:=by rfl)
  (ht:eval (.Call (.Attribute o m apos) (e::es) [] pos) X.env=(do
   let ov <- eval o X.env
   standAt apos.atName
   let (f,first) <- holding [ov] (getMethod ov m pl)
   callWith pos f first (backTo pos (starEach (e::es) X.env)) (backToKw pos (keywordEach [] X.env))):=by rfl) :
  PE X (.Call (.Attribute o m apos) (e::es) [] pos) (Z8 C m sp [] E0 ta t):=by
 obtain ⟨f,fd,F,b,hm⟩:=M.ex
 exact qB ho M.cl hm F hr b .nil aJ ha hst hpl ht
theorem Kj (M:Mth X.prog X.w X.K X.mg X.base C m k ps sp)(hr:Dd k X.A)(ho:PE X o ta)
  (ht:eval (.Call (.Attribute o m apos) [] [] pos) X.env=(do
   let ov <- eval o X.env
   standAt apos.atName
   let (f,first) <- holding [ov] (getMethod ov m pl)
   callWith pos f first (backTo pos (starEach [] X.env)) (backToKw pos (keywordEach [] X.env))):=by rfl) :
  PE X (.Call (.Attribute o m apos) [] [] pos) (Z8 C m sp [] E0 ta cU):=by
 obtain ⟨f,fd,F,b,hm⟩:=M.ex
 exact jQ ho M.cl hm F hr b .nil aJ ht
end
section
variable {σ:St} {H:Hp} {D:Ja} {Q:VK} {te ta tv:TE} {tA:TA} {K:PySem.W.Frag}
theorem xT {f:Str}(h:te σ H fun x H1=>∃ a C dx fs v,x=.ref a/\H1 a=some (.ins C dx fs)/\Cls K C/\Bv K C f/\fs.lookup f=some v/\Q v H1):vQ K te f σ H Q:=h
theorem oG {a C dx:Addr}{fs:List (Str×V)}{f:Str}{v:V}(h:H a=some (.ins C dx fs))(c:Cls K C)(n:Bv K C f)(l:fs.lookup f=some v)(q:Q v H) :
  ∃ a' C' dx' fs' v',V.ref a=.ref a'/\H a'=some (.ins C' dx' fs')/\Cls K C'/\Bv K C' f/\fs'.lookup f=some v'/\Q v' H:=⟨a,C,dx,fs,v,rfl,h,c,n,l,q⟩
theorem uB {f:Str}(h:tv σ H fun y H1=>ta σ H1 fun x H2=>∃ a C dx fs,x=.ref a/\H2 a=some (.ins C dx fs)/\Cls K C/\Bv K C f/\fs.length<1000/\D.nx σ (upd H2 a (.ins C dx (Gk f y fs)))):vY K ta tv f D σ H:=h
theorem Ds {a C dx:Addr}{fs:List (Str×V)}{f:Str}{R:Hp->Prop}{y:V}(h:H a=some (.ins C dx fs))(c:Cls K C)(n:Bv K C f)(l:fs.length<1000)(q:R (upd H a (.ins C dx (Gk f y fs)))) :
  ∃ a' C' dx' fs',V.ref a=.ref a'/\H a'=some (.ins C' dx' fs')/\Cls K C'/\Bv K C' f/\fs'.length<1000/\R (upd H a' (.ins C' dx' (Gk f y fs'))):=⟨a,C,dx,fs,rfl,h,c,n,l,q⟩
theorem uH {C:Addr}{sp:Sp}{E:XK}(h:tA σ H fun vs H1=>∀ x dx,H1 x=none->H1 dx=none->dx≠x->sp (.ref x::(vs++[])) (upd (upd H1 dx (.own x)) x (.ins C dx [])) (fun v H2=>v=.non/\Q (.ref x) H2) E):kJ C sp [] E tA σ H Q:=h
theorem tK {C:Addr}{m:Str}{sp:Sp}{E:XK}(h:ta σ H fun x H1=>∃ a dx fs,x=.ref a/\H1 a=some (.ins C dx fs)/\fs.lookup m=none/\tA σ H1 fun vs H2=>sp (x::(vs++[])) H2 Q E):Z8 C m sp [] E ta tA σ H Q:=h
end
section
variable {X:Cx}
def N5 (z:Str)(c:Nat):Nat:=z.cps.toList.count c
theorem Uu (c:Nat):∀ l:List Nat,PyProof.Rows.cnt c l=(l.count c:Nat)
 | []=>rfl
 | n::r=>by
  rw [PyProof.Rows.cnt_cons,Uu c r,List.count_cons]
  by_cases h:n=c
  ·subst h;simp;omega
  ·simp [h]
def uA:V->List V->Hp->VK->Prop:=fun x vs H Q=>∃ z c,x=.str z/\vs=[.str (sgn c)]/\Q (.int (N5 z c:Nat)) H
theorem Rx:MtM X "str.count" uA:=by
 intro pins s σ H x vs v us Q I rx rv h
 obtain ⟨z,c,rfl,rfl,q⟩:=h
 obtain ⟨t,rfl⟩:=rx
 obtain ⟨u,rfl,ru⟩:=rv.one
 obtain ⟨t',rfl⟩:=ru
 have e:Txt.count z (sgn c)=(N5 z c:Nat):=(PyProof.Rows.count_cnt z c).trans (Uu c _)
 refine SC.count ?_
 rw [e]
 exact ⟨.int (N5 z c:Nat),H,I.tok _,⟨_,rfl⟩,q⟩
def xK (K:PySem.W.Frag):List V->Hp->VK->Prop:=fun xs H Q=>∃ (p:Addr) (ns:List Int),xs=[.ref p]/\SqL K H p (ns.map V.int)/\Q (.int ns.sum) H
theorem mM (hc:X.calm=true):Fo X (.builtin "sum") (xK X.K):=by
 intro pins s σ H xs us Q I r h
 obtain ⟨p,ns,rfl,hp,q⟩:=h
 obtain ⟨u,rfl,ru⟩:=Gc r
 cases ru
 obtain ⟨its,r,pl,_⟩:=I.list hp
 have hi:=Sk r
 obtain ⟨ys,e⟩:=hi.allInts.items
 have hl:=pl.isList
 have hs:(numsOf its).sum=ns.sum:=by rw [hi.numsOf]
 rw [e] at hl
 refine sum_intListG (I.ok.hd hc) hl fun h' tk t' hk=>?_
 refine ⟨.int ns.sum,H,I.kept hk,⟨t',?_⟩,q⟩
 rw [preSum_eq,List.take_of_length_le (by simp),<- hs]
 have e2:=nums_intItems ys
 rw [<- e] at e2
 rw [show its=its.toArray.toList from rfl,e2]
end
namespace IB
open PySem.NumText PySem.Calls
def bits (cs:List Nat):Prop:=∀ c∈cs,c=48\/c=49
def v2 (cs:List Nat):Nat:=cs.foldl (fun a c=>a*2+(c-48)) 0
theorem bG {c:Nat}(ds:Array Nat)(b:Bool)(h:c=48\/c=49):step 2 (ds,b) c=some (ds.push (c-48),true):=by rcases h with rfl | rfl<;>rfl
theorem Rr:∀ (cs:List Nat)(ds:Array Nat),bits cs->cs.foldlM (step 2) (ds,true)=some (cs.foldl (fun acc c=>acc.push (c-48)) ds,true)
 | [],ds,_=>rfl
 | c::cs,ds,h=>by
  rw [List.foldlM_cons,bG ds true (h c List.mem_cons_self)]
  exact Rr cs _ fun d hd=>h d (List.mem_cons_of_mem _ hd)
theorem bR {cs:List Nat}(h:bits cs)(hne:cs≠[]):digits? 2 cs=some (cs.foldl (fun acc c=>acc.push (c-48)) #[]):=by
 cases cs with
 | nil=>exact absurd rfl hne
 | cons c cs =>
  unfold digits?
  rw [List.foldlM_cons,bG #[] false (h c List.mem_cons_self)]
  show ((cs.foldlM (step 2) (#[].push (c-48),true)).bind _)=_
  rw [Rr cs _ fun d hd=>h d (List.mem_cons_of_mem _ hd)]
  rfl
theorem R0:∀ (cs:List Nat)(ds:Array Nat),(cs.foldl (fun acc c=>acc.push (c-48)) ds).foldl (fun acc d=>acc*2+d) 0=cs.foldl (fun acc c=>acc*2+(c-48)) (ds.foldl (fun acc d=>acc*2+d) 0)
 | [],ds=>rfl
 | c::cs,ds=>by
  rw [List.foldl_cons,R0 cs,List.foldl_cons,Array.foldl_push]
theorem T9 {cs:List Nat}(h:bits cs):cs.dropWhile blank=cs:=by
 cases cs with
 | nil=>rfl
 | cons c cs =>
  rw [List.dropWhile_cons,if_neg]
  rcases h c List.mem_cons_self with rfl | rfl<;>decide
theorem hZ {cs:List Nat}(h:bits cs):sign cs=(false,cs):=by
 cases cs with
 | nil=>rfl
 | cons c cs=>rcases h c List.mem_cons_self with rfl | rfl<;>rfl
theorem bS {cs:List Nat}(h:bits cs):based 2 cs=(2,false,cs):=by
 have hp:prefix? cs=none:=by
  match cs,h with
  | [],_=>rfl
  | [c],h=>rcases h c List.mem_cons_self with rfl | rfl<;>rfl
  | c::d::r,h =>
   rcases h c List.mem_cons_self with rfl | rfl
   ·rcases h d (List.mem_cons_of_mem _ List.mem_cons_self) with rfl | rfl<;>rfl
   ·rfl
 unfold based
 rw [hp]
 rfl
theorem iA {cs:List Nat}(h:bits cs)(hne:cs≠[]):(int_private% "readNumeral") 0 2 cs=(int_private% "Numeral.value") (v2 cs:Nat):=by
 refine (readNumeral_eq 0 2 cs).trans ?_
 have hr:bits cs.reverse:=fun c hc=>h c (List.mem_reverse.mp hc)
 rw [T9 h,hZ h]
 dsimp only
 rw [bS h]
 dsimp only
 rw [T9 hr,List.reverse_reverse,bR h hne]
 have e:(cs.foldl (fun acc c=>acc.push (c-48)) #[]).foldl (fun acc d=>acc*2+d) 0=v2 cs:=R0 cs #[]
 unfold judge
 dsimp only
 rw [e]
 rfl
theorem oP {M : Model}{A : Around}{E : Value->Shared->Prop}{s : Shared}{Q : Value->Shared->Prop}{v : Value}{text : List Nat}{n : Int}
    (hs : (text.takeWhile (· != 0)).length <= 640)(hr : (int_private% "readNumeral") 0 2 (text.takeWhile (· != 0)) = (int_private% "Numeral.value") n)
    (ha : ((text.takeWhile (· != 0)).length == text.length) = true)(h : Q (.int n s.toks) { s with toks := s.toks + 1 }) :
    wpAny M A ((int_private% "intFromText") v text 2) Q E s := by
  obtain ⟨hp, g, d, tk, os⟩ := s
  repeat (any_goals (first
    | assumption
    | (with_reducible refine wpAny_ite_true (decide_eq_true hs) ?_)
    | (with_reducible refine wpAny_ite_true (decide_eq_true ha) ?_)
    | wp_step))
  all_goals (try rw [hr])
  all_goals (try dsimp only)
  repeat (any_goals (first
    | assumption
    | (with_reducible refine wpAny_ite_true (decide_eq_true hs) ?_)
    | (with_reducible refine wpAny_ite_true (decide_eq_true ha) ?_)
    | wp_step))
theorem typeCall_int_2 (a b:Value):checkTypeCall "int" ⟨[a,b],[]⟩=pure ():=by kernel_rfl
theorem newCall_int_2 (a b:Value):checkBuiltinCall "int.__new__" ⟨[.type "int",a,b],[]⟩=pure ():=by kernel_rfl
structure Hid (p:Prop):Prop where
 out:p
theorem U7 {x:Str}(h:bits x.cps.toList):(if x.cps.all (· < 128) then x.cps.toList else Unicode.numberText x.cps.toList)=x.cps.toList:=by
 rw [if_pos]
 rw [Array.all_eq_true']
 intro c hc
 have:=h c (by simpa using hc)
 rcases this with rfl | rfl<;>decide
theorem Iw {cs:List Nat}(h:bits cs):cs.takeWhile (· != 0)=cs:=takeWhile_all fun c hc=>by rcases h c hc with rfl | rfl<;>decide
set_option maxHeartbeats 4000000 in
theorem gives_bits {x : Str}{u v : Tok}(hl : x.length <= 640)(hb : bits x.cps.toList)(hne : x.cps.toList ≠ []) : Gives (Builtin.«int.__new__» ⟨[.type "int", .str x u, .int 2 v], []⟩) (.int (v2 x.cps.toList : Nat)) :=
  .of_wp fun M A E s Q h => by
    obtain ⟨hp, g, d, tk, os⟩ := s
    have f1 := F.conv_sub_int
    have f2 := F.madeHere_int
    have f6 : typeOf (.str x u) = pure (.type "str") := rfl
    have hs : ((x.cps.toList).takeWhile (· != 0)).length <= 640 := by rw [Iw hb]; simpa [Str.length] using hl
    have hr := iA hb hne
    rw [<- Iw hb] at hr
    rw [Iw hb] at hr
    have hr : (int_private% "readNumeral") 0 2 ((x.cps.toList).takeWhile (· != 0)) = (int_private% "Numeral.value") (v2 x.cps.toList : Nat) := by rw [Iw hb]; exact hr
    have ha : (((x.cps.toList).takeWhile (· != 0)).length == (x.cps.toList).length) = true := by rw [Iw hb]; simp
    have ht := U7 hb
    have hk := Hid.mk (And.intro hs (And.intro hr (And.intro ha ht)))
    clear hs hr hl ha ht hne
    repeat (any_goals (first
      | assumption
      | ((with_reducible show wpAny _ _ ((int_private% "intFromText") _ _ _) _ _ _); rw [hk.out.2.2.2]; refine oP hk.out.1 hk.out.2.1 hk.out.2.2.1 ?_)
      | wp_step))
    all_goals first | exact ⟨_, rfl, h⟩ | skip
end IB
section
variable {X:Cx}
def xB:List V->Hp->VK->Prop:=fun xs H Q=>∃ z,xs=[.str z,.int 2]/\z.length<=640/\IB.bits z.cps.toList/\z.cps.toList≠[]/\Q (.int (IB.v2 z.cps.toList:Nat)) H
theorem Tw:Fo X (.type "int") xB:=by
 intro pins s σ H xs us Q I r h
 obtain ⟨z,rfl,hl,hb,hne,q⟩:=h
 obtain ⟨u,w',rfl,ru,rw'⟩:=Sm r
 obtain ⟨t,rfl⟩:=ru
 obtain ⟨t',rfl⟩:=rw'
 exact callType_new F.called_int F.newNe_int (IB.typeCall_int_2 _ _) (IB.newCall_int_2 _ _) (fun obj=>F.args_object_init_3 obj _ _) F.entry_int_new (IB.gives_bits hl hb hne).meets (show (Made.int _).post _ s from ⟨rfl,.int (IB.v2 z.cps.toList:Nat),H,I.tok _,⟨_,rfl⟩,q⟩)
end
theorem dG (n:Nat):Builtin.Str.strSliceIndices none none (-1) n=(List.range n).map fun k=>n-1-k:=by
 unfold Builtin.Str.strSliceIndices
 dsimp only
 rw [if_neg (by decide),if_neg (by decide)]
 unfold sliceRange
 dsimp only
 rw [if_neg (by decide)]
 have e:(if ((n:Int)-1 > -1) then ((n:Int)-1 - -1 - -1-1)/(- -1) else 0).toNat=n:=by
  split
  ·simp
  ·omega
 rw [e]
 refine List.map_congr_left fun k hk=>?_
 have:=List.mem_range.mp hk
 omega
theorem Uq (l:List Nat):∀ n,n<=l.length->((List.range n).map fun k=>n-1-k).filterMap (l[·]?)=(l.take n).reverse
 | 0,_=>by simp
 | n+1,h=>by
  have hl:n<l.length:=h
  rw [List.range_succ_eq_map,List.map_cons,List.map_map,List.filterMap_cons]
  have e:((fun k=>n+1-1-k) ∘ Nat.succ)=fun k=>n-1-k:=by
   funext k
   show n+1-1-(k+1)=n-1-k
   omega
  rw [e,show n+1-1-0=n by omega,List.getElem?_eq_getElem hl]
  dsimp only
  rw [Uq l n (by omega),List.take_add_one,List.getElem?_eq_getElem hl,Option.toList_some,List.reverse_append]
  rfl
section
variable {X:Cx} {e:Expr} {te:TE} {p1 p2 p3 pos:Pos} {j:Nat}
theorem K6 (z:Str):(Tu z).length=z.length:=by
 show z.cps.toList.reverse.toArray.size=z.cps.size
 simp
theorem qZ {x1}(he:PE X e te):PE X (.Subscript e (.Slice none none (some (.UnaryOp .USub (.Constant (.int 1) x1 p1) p2)) p3) pos) (xO te):=by
 intro pins s σ H Q I h
 refine Subscript_ (thn (he pins s σ H _ I h) fun v s1 ⟨x,H1,I1,r1,q1⟩=>?_)
 obtain ⟨z,rfl,hz,q⟩:=q1
 obtain ⟨t,rfl⟩:=r1
 refine wpAny_Slice ?_
 rw [evalPart_none]
 refine wpAny_pure (wpAny_pure ?_)
 rw [evalPart_some]
 have hm:PE X (.UnaryOp .USub (.Constant (.int 1) x1 p1) p2) (tUn (rU fun i=>.int (-i)) (tC (.int 1))):=Gh Dy Ag
 refine thn (hm pins s1 σ H1 (fun y H2=>y=.int (-1)/\H2=H1) I1 ⟨1,rfl,rfl,rfl⟩) fun w s2 ⟨y,H2,I2,r2,e2,e3⟩=>?_
 subst e2 e3
 obtain ⟨t2,rfl⟩:=r2
 have I4:Inv X pins σ H2 { s2 with heap:=s2.heap.push { cls:=.type "slice",data:=.fields #[.none,.none,.int (-1) t2] } }:=I2.kept (t':=s2.toks) fun b ob q=>Heap.get?_push_of_some _ q
 have hs:(s2.heap.push { cls:=.type "slice",data:=.fields #[.none,.none,.int (-1) t2] }).IsSlice s2.heap.objs.size none none (some (-1,t2)):=⟨_,Heap.get?_push_size _ rfl,rfl,rfl⟩
 refine tail_any (ops:=[.ref s2.heap.objs.size,.str z t]) (typeIs_str _ _ _) PySem.F.slot_str_getitem.lookup ?_ (by with_unfolding_all rfl)
 refine wpAny_getItem_str_slice hs rfl ?_
 have em:sliceMade z t none none (some (-1,t2))=.str (Tu z):=by
  unfold sliceMade
  rw [if_neg (by simp)]
  show Made.str ⟨((Builtin.Str.strSliceIndices none none (-1) z.length).filterMap (z.cps[·]?)).toArray⟩=_
  rw [dG]
  have:=Uq z.cps.toList z.cps.toList.length (Nat.le_refl _)
  have e1:z.cps.toList.length=z.length:=by simp [Str.length]
  rw [e1] at this
  have e2:(fun i:Nat=>z.cps[i]?)=fun i:Nat=>z.cps.toList[i]?:=by funext i;simp
  rw [e2,this,List.take_of_length_le (by simp [Str.length])]
  rfl
 rw [em]
 refine ⟨?_,.str (Tu z),H2,I4.tok _,⟨_,rfl⟩,q⟩
 show (Tu z).length<=_
 rw [K6]
 exact hz
end
theorem vW {te:TE}{σ:St}{H:Hp}{Q:VK}(h:te σ H fun x H1=>∃ z,x=.str z/\z.length<=sizeLine/\Q (.str (Tu z)) H1):xO te σ H Q:=h
inductive Di (K:PySem.W.Frag) (H:Hp):Nat->V->V->Prop where
 | flat {n:Nat} {x:V} (h:F8 x=true):Di K H n x x
 | tup {n:Nat} {a b:Addr} {xs ys:List V} (h1:SqT K H a xs) (h2:SqT K H b ys) (hl:xs.length=ys.length) (h:∀ (j:Nat) (x y:V),xs[j]?=some x->ys[j]?=some y->Di K H n x y):Di K H (n+1) (.ref a) (.ref b)
 | lst {n:Nat} {a b:Addr} {xs ys:List V} (h1:SqL K H a xs) (h2:SqL K H b ys) (hl:xs.length=ys.length) (h:∀ (j:Nat) (x y:V),xs[j]?=some x->ys[j]?=some y->Di K H n x y):Di K H (n+1) (.ref a) (.ref b)
theorem nE {x:V}(h:F8 x=true):eqV x x=true:=by
 cases x<;>first | rfl | (simp [eqV];done) | cases h
theorem Di.flats {K:PySem.W.Frag}{H:Hp}{n:Nat}{xs:List V}(h:xs.all F8=true):∀ (j:Nat) (x y:V),xs[j]?=some x->xs[j]?=some y->Di K H n x y:=fun j x y h1 h2=>by
 rw [h1] at h2
 cases h2
 exact .flat (List.all_eq_true.mp h x (List.mem_of_getElem? h1))
theorem Di.lsts {K:PySem.W.Frag}{H:Hp}{n:Nat}{a b:Addr}{xs:List V}(h1:SqL K H a xs)(h2:SqL K H b xs)(h:xs.all F8=true):Di K H (n+1) (.ref a) (.ref b):=.lst h1 h2 rfl (Di.flats h)
theorem G8 (ns:List Int):(ns.map V.int).all F8=true:=by simp [List.all_eq_true,F8]
section
variable {X:Cx} {pins:List (Addr×Obj)} {σ:St} {H:Hp} {s:Shared}
theorem Ii {n:Nat}{e:Nat->Bool}(h:∀ j,e j=true):(List.range n).all e=true:=by simp [h]
mutual
theorem Di.eqAt (I:Inv X pins σ H s):∀ {n:Nat} {x y:V} {A:Around} {u v:Value},A.units+n<cLine->Di X.K H n x y->Bk x u->Bk y v->SeqAt.EqAt A s u v true
 | _,_,_,A,u,v,hu,.flat h,ru,rv=>by
  have:=kK (A:=A) (s:=s) ru rv h h
  rw [nE h] at this
  exact this
 | n+1,.ref a,.ref b,A,u,v,hu,.tup (xs:=xs) (ys:=ys) h1 h2 hl h,ru,rv=>by
  cases ru;cases rv
  by_cases hab:a=b
  ·subst hab;exact SeqAt.EqAt.same _
  ·obtain ⟨is,r1,p1,_⟩:=I.tuple h1
   obtain ⟨js,r2,p2,_⟩:=I.tuple h2
   have l1:=r1.length;have l2:=r2.length
   have:=SeqAt.RcAt.tuples (A:=A) (e:=fun _=>true) p1 p2 (by omega) fun j a1 a2=>Di.items I (by show A.units+1+n<cLine;omega) h r1 r2 j (by simpa using a1) (by simpa using a2)
   refine SeqAt.EqAt.of_refs hab ?_
   rw [Ii fun _=>rfl] at this
   simpa [<- l1,<- l2,hl] using this
 | n+1,.ref a,.ref b,A,u,v,hu,.lst (xs:=xs) (ys:=ys) h1 h2 hl h,ru,rv=>by
  cases ru;cases rv
  by_cases hab:a=b
  ·subst hab;exact SeqAt.EqAt.same _
  ·obtain ⟨is,r1,p1,_⟩:=I.list h1
   obtain ⟨js,r2,p2,_⟩:=I.list h2
   have l1:=r1.length;have l2:=r2.length
   have:=SeqAt.RcAt.lists (A:=A) (e:=fun _=>true) p1.isList p2.isList (by simp;omega) (by omega) fun j a1 a2=>Di.items I (by show A.units+1+n<cLine;omega) h r1 r2 j (by simpa using a1) (by simpa using a2)
   refine SeqAt.EqAt.of_refs hab ?_
   rw [Ii fun _=>rfl] at this
   exact this
theorem Di.items (I:Inv X pins σ H s){n:Nat}{A:Around}{xs ys:List V}{us vs:List Value}(hu:A.units+n<cLine)(h:∀ (j:Nat) (x y:V),xs[j]?=some x->ys[j]?=some y->Di X.K H n x y)(r1:A6 xs us)(r2:A6 ys vs)(j:Nat)(h1:j<us.length)(h2:j<vs.length) :
  SeqAt.EqAt A s us[j] vs[j] true:=by
 have l1:=r1.length;have l2:=r2.length
 obtain ⟨x,ex⟩:∃ x,xs[j]?=some x:=⟨_,List.getElem?_eq_getElem (by omega)⟩
 obtain ⟨y,ey⟩:∃ y,ys[j]?=some y:=⟨_,List.getElem?_eq_getElem (by omega)⟩
 obtain ⟨u,eu,ru⟩:=r1.get ex
 obtain ⟨v,ev,rv⟩:=r2.get ey
 rw [List.getElem?_eq_getElem h1] at eu
 rw [List.getElem?_eq_getElem h2] at ev
 cases eu;cases ev
 exact Di.eqAt I hu (h j x y ex ey) ru rv
end
end
def mH (K:PySem.W.Frag)(r:Bool):R2:=fun x y H Q=>∃ a b,x=.ref a/\y=.ref b/\Di K H 60 x y/\Q (.bl r) H
section
variable {X:Cx}
theorem zC (hu:X.A.units+60<cLine):OpR X (compareOp .Eq) (mH X.K true):=by
 intro pins s σ H x y v u Q I rx ry h
 obtain ⟨a,b,rfl,rfl,hs,q⟩:=h
 cases rx;cases ry
 cases hs with
 | flat h=>cases h
 | @tup n _ _ xs ys h1 h2 hl h =>
  obtain ⟨is,r1,p1,_⟩:=I.tuple h1
  obtain ⟨js,r2,p2,_⟩:=I.tuple h2
  have l1:=r1.length;have l2:=r2.length
  have:=SeqAt.RcAt.tuples (A:=X.A) (e:=fun _=>true) p1 p2 (by omega) fun j a1 a2=>Di.items I (by show X.A.units+1+59<cLine;omega) h r1 r2 j (by simpa using a1) (by simpa using a2)
  rw [Ii fun _=>rfl] at this
  refine this _ _ _ _ ⟨.bl true,H,I,?_,q⟩
  simp [Bk,<- l1,<- l2,hl]
 | @lst n _ _ xs ys h1 h2 hl h =>
  obtain ⟨is,r1,p1,_⟩:=I.list h1
  obtain ⟨js,r2,p2,_⟩:=I.list h2
  have l1:=r1.length;have l2:=r2.length
  have:=SeqAt.RcAt.lists (A:=X.A) (e:=fun _=>true) p1.isList p2.isList (by simp;omega) (by omega) fun j a1 a2=>Di.items I (by show X.A.units+1+59<cLine;omega) h r1 r2 j (by simpa using a1) (by simpa using a2)
  rw [Ii fun _=>rfl] at this
  exact this _ _ _ _ ⟨.bl true,H,I,rfl,q⟩
theorem jJ (hu:X.A.units+60<cLine):OpR X (compareOp .NotEq) (mH X.K false):=by
 intro pins s σ H x y v u Q I rx ry h
 obtain ⟨a,b,rfl,rfl,hs,q⟩:=h
 cases rx;cases ry
 cases hs with
 | flat h=>cases h
 | @tup n _ _ xs ys h1 h2 hl h =>
  obtain ⟨is,r1,p1,_⟩:=I.tuple h1
  obtain ⟨js,r2,p2,_⟩:=I.tuple h2
  have l1:=r1.length;have l2:=r2.length
  have:=SeqAt.RcNeAt.tuples (A:=X.A) (e:=fun _=>true) p1 p2 (by omega) fun j a1 a2=>Di.items I (by show X.A.units+1+59<cLine;omega) h r1 r2 j (by simpa using a1) (by simpa using a2)
  rw [Ii fun _=>rfl] at this
  refine this _ _ _ _ ⟨.bl false,H,I,?_,q⟩
  simp [Bk,<- l1,<- l2,hl]
 | @lst n _ _ xs ys h1 h2 hl h =>
  obtain ⟨is,r1,p1,_⟩:=I.list h1
  obtain ⟨js,r2,p2,_⟩:=I.list h2
  have l1:=r1.length;have l2:=r2.length
  have:=SeqAt.RcNeAt.lists (A:=X.A) (e:=fun _=>true) p1.isList p2.isList (by simp;omega) (by omega) fun j a1 a2=>Di.items I (by show X.A.units+1+59<cLine;omega) h r1 r2 j (by simpa using a1) (by simpa using a2)
  rw [Ii fun _=>rfl] at this
  exact this _ _ _ _ ⟨.bl false,H,I,rfl,q⟩
end
theorem kZ {K:PySem.W.Frag}{H:Hp}{Q:VK}{a b:Addr}{r:Bool}(h:Di K H 60 (.ref a) (.ref b))(q:Q (.bl r) H):mH K r (.ref a) (.ref b) H Q:=⟨a,b,rfl,rfl,h,q⟩
theorem uE {A:Around}{k:Nat}(hr:Dd k A):A.units+60<cLine:=by have:=hr.units;omega
section
variable {X:Cx} {tg:Expr}
def uR:V->List V->Hp->VK->Prop:=fun x vs H Q=>∃ (l:Addr) (ns:List Int) (k:Int) (j:Nat),x=.ref l/\vs=[.int k]/\H l=some (.lst (ns.map V.int))/\ns[j]?=some k/\(∀ i:Nat,i<j->ns[i]?≠some k)/\Q (.int (j:Nat)) H
theorem Sb:MtM X "list.index" uR:=by
 intro pins s σ H x vs v us Q I rx rv h
 obtain ⟨l,ns,k,j,rfl,rfl,hH,hj,hno,q⟩:=h
 cases rx
 obtain ⟨u,rfl,t,rfl⟩:=Gc rv
 obtain ⟨z,its,n,r,hl,e⟩:=I.lstM hH
 have fl:=G8 ns
 have hjl:=(List.getElem?_eq_some_iff.mp hj).1
 have hln:ns.length=its.length:=by rw [<- hl,List.length_map]
 have at':∀ i (hi:i<its.length),eqU (.int k) its[i]=decide (ns[i]?=some k):=fun i hi=>by
  have e1:(ns.map V.int)[i]?=some (.int (ns[i]'(by omega))):=by rw [List.getElem?_map,List.getElem?_eq_getElem (by omega)];rfl
  obtain ⟨u,eu,ru⟩:=r.get e1
  rw [List.getElem?_eq_getElem hi] at eu
  cases eu
  rw [Vu ru rfl,List.getElem?_eq_getElem (by omega)]
  show (ns[i]==k)=decide (some ns[i]=some k)
  by_cases h:ns[i]=k
  ·rw [decide_eq_true (congrArg some h)]
   simpa using h
  ·rw [decide_eq_false fun z=>h (Option.some.inj z)]
   simpa using h
 have sl:=Kr
 refine call_meets F.slot_list_index ⟨_,e,rfl⟩ F.entry_list_index (F.args_list_index_2 _ _)
  (SeqAt.list_indexAt l its.toArray n none #[] (.int k t) (eqU (.int k)) j (by simp;omega) (by rw [List.length_map] at z;omega) ?_ ?_) ⟨e,fun y hy=>Kw (x:=.int k) (v:=.int k t) ⟨t,rfl⟩ rfl r fl y (by simpa using hy),?_⟩
 ·show eqU (.int k) its[j]=true
  rw [at' j (by omega),decide_eq_true hj]
 ·intro i hi hlt
  show eqU (.int k) its[i]=false
  rw [at' i (by simpa using hi),decide_eq_false (hno i hlt)]
 ·exact ⟨.int j,H,I.tok _,⟨_,rfl⟩,q⟩
end
section
variable {prog:Program} {w:World} {A:Around} {E:Value->Shared->Prop} {s:Shared}
theorem Ly {t sl:Addr}{items:Array Value}{vl vu:Value}{lo hi:Option Int}{Q:Value->Shared->Prop}(ht:IsTup s.heap t items)(hs:s.heap.IsSliceOf sl vl vu .none)(pl:IsPart vl lo)(pu:IsPart vu hi)
  (h1:HT.sIx items.size 0 lo=0)(h2:HT.sIx items.size items.size hi=items.size)(h:Q (.ref t) s):wpAny (model prog w) A (getItem (.ref t) (.ref sl)) Q E s:=by
 obtain ⟨os,hos,hcs,hds⟩:=id hs
 have hTs:s.TypeIs (.ref sl) "slice":=⟨os,hos,hcs⟩
 unfold getItem
 try with_reducible refine wpAny_holding ?_
 first | refine wpAny_bind (wpAny_pure ?_) | skip
 refine wpAny_bind (wpAny_sequenceKey ht.typeIs (by decide) ?_)
 refine wpAny_bind (wpAny_callSpecial?_slot (name:=Str.ofString "__getitem__") ht.typeIs PyProof.Rows.slot_tuple_getitem
  (wpAny_call_entry PyProof.Rows.slot_tuple_getitem ht.typeIs entry_tuple_getitem ?_ (args_tuple_getitem _ _)))
 show wpAny _ _ (Builtin.Tuple.tupleItemsOf (.ref t) >>= _) _ _ s
 refine wpAny_bind (tupleItemsOf_ ht ?_)
 refine wpAny_bind (wpAny_typeOf hTs ?_)
 rw [if_pos (by decide)]
 refine wpAny_bind (HT.sliceApplied_gen hs pl pu ?_)
 show wpAny _ _ (if (((HT.sIx items.size 0 lo:Nat):Int)==0&&(1:Int)==1&&(HT.sIx items.size items.size hi-HT.sIx items.size 0 lo)==items.size)=true then _ else _) _ _ s
 rw [if_pos (by rw [h1,h2];simp)]
 refine wpAny_bind (wpAny_bind (wpAny_typeOf ht.typeIs (wpAny_pure ?_)))
 rw [if_pos (by decide)]
 refine wpAny_bind (wpAny_rule ?_)
 exact wpAny_bind (wpAny_pure (wpAny_pure ⟨_,rfl,wpAny_pure h⟩))
end
section
variable {X:Cx}
def vO (K:PySem.W.Frag):V->Option Int->Option Int->Hp->VK->Prop:=fun x lo hi H Q=>∃ a xs,x=.ref a/\SqT K H a xs/\∀ p H',Al H H'->SqT K H' p (Iu xs lo hi)->Q (.ref p) H'
theorem Y0:SlR X (vO X.K):=by
 intro pins s σ H x v vl vu lo hi sl Q I rx hs pl pu h
 obtain ⟨a,xs,rfl,hx,q⟩:=h
 by_cases hw:HT.sIx xs.length 0 lo=0/\HT.sIx xs.length xs.length hi=xs.length
 ·cases rx
  obtain ⟨its,r,ht,hz⟩:=I.tuple hx
  have hlen:its.toArray.size=xs.length:=by rw [List.size_toArray];exact r.length.symm
  refine ⟨"tuple",_,PyProof.Rows.slot_tuple_getitem.lookup,ht.typeIs,?_⟩
  refine Ly ht hs pl pu (by rw [hlen];exact hw.1) (by rw [hlen];exact hw.2) ⟨.ref a,H,I,rfl,q a H (Al.refl _) ?_⟩
  have:Iu xs lo hi=xs:=by
   unfold Iu
   rw [hw.1,hw.2]
   simp
  rw [this]
  exact hx
 ·exact sQ pins s σ H _ v vl vu lo hi sl Q I rx hs pl pu ⟨a,xs,rfl,hx,hw,fun p hp=>q p _ (Ah hp) (SqT.of Ac)⟩
theorem Ba {x:Str}{i:Int}{pos:Pos}(hg:Gl X x)(hm:∃ t,X.mg x=some (.int i t))(hd:(x==("__debug__":Str))=false:=by decide):PE X (.Name x pos) (tC (.int i)):=by
 obtain ⟨t,h⟩:=hm
 exact P3 hg h ⟨t,rfl⟩ hd
end
section
variable {σ:St} {H:Hp} {D:Ja} {Q:VK} {te:TE} {QB:Bool->Hp->Prop} {tA:TA}
theorem vZ {K:PySem.W.Frag}{T:String}{r:V->List V->Hp->VK->Prop}(h:te σ H fun x H1=>tyV K T x H1/\r x [] H1 Q):yB K T r te σ H Q:=h
theorem rP {z:Str}{lo hi:Option Int}(h1:z.length<=sizeLine)(h:Q (.str (Xk z lo hi)) H):yD (.str z) lo hi H Q:=⟨z,rfl,h1,h⟩
end
theorem wW {A B:Prop}(h:B):if (!true)=true then A else B:=by
 rw [if_neg (by decide)]
 exact h
theorem wC {A B:Prop}(h:A):if (!false)=true then A else B:=by
 rw [if_pos (by decide)]
 exact h
def SameBut (x:Addr)(H H':Hp):Prop:=∀ b o,b≠x->H b=some o->H' b=some o
theorem Al.but {H H':Hp}{x:Addr}(h:Al H H'):SameBut x H H':=fun b o _ e=>h b o e
theorem SameBut.trans {H H1 H2:Hp}{x:Addr}(a:SameBut x H H1)(b:SameBut x H1 H2):SameBut x H H2:=fun c o n h=>b c o n (a c o n h)
def mS (H:Hp)(x:Addr):Prop:=∀ u,¬ Rd H x (.tup u)/\¬ Rd H x (.lst u)
theorem E8 {H:Hp}{x C dx:Addr}{fs:List (Str×V)}(h:H x=some (.ins C dx fs)):mS H x:=fun u=>by
 constructor<;>(rintro (e | ⟨o,e⟩)<;>(rw [h] at e;cases e))
theorem Be {H:Hp}{x:Addr}{o:HO}:SameBut x H (upd H x o):=fun b u n e=>by rw [Ap n];exact e
theorem mJ {J:It}{H1:Hp}{fr:St}{tc:TT}{te:TE}{Q:VK}(n:Nat)(item:Nat->V)(Pv:Nat->List V->Hp->Prop)(h0:∀ H,Al H1 H->Pv 0 [] H)
  (stab:∀ i ys H D xs o,H D=some (.lst xs)->Pv i ys H->Pv i ys (upd H D o))(hz:∀ i ys H,i<n->Pv i ys H->ys.length<sizeLine)
  (hgo:∀ i H,i<n->Al H1 H->J.go i H)(hy:∀ i H x H',i<n->Al H1 H->J.yld i H x H'->x=item i/\H'=H)(hst:∀ H,Al H1 H->J.stop n H)
  (turn:∀ i ys H (A:VK) (R:Hp->Prop),i<n->Al H1 H->Pv i ys H->(∀ y H',Al H H'->Pv (i+1) (ys++[y]) H'->A y H')->tc (some (item i)::fr) H fun b H3=>if b=true then te (some (item i)::fr) H3 A else R H3)
  (fin:∀ D ys H,H1 D=none->Al H1 H->Pv n ys H->H D=some (.lst ys)->Q (.ref D) H):S3 J H1 fr tc te Q:=by
 intro D hD
 refine ⟨fun i m H=>i<=n/\m=n-i/\Al H1 H/\∃ ys,H D=some (.lst ys)/\Pv i ys H,⟨n,Nat.zero_le _,rfl,Ah hD,[],Ac,h0 _ (Ah hD)⟩,?_⟩
 rintro i m H ⟨hi,rfl,sm,ys,hl,hp⟩
 by_cases h:i=n
 ·subst h
  exact .inl ⟨hst H sm,fin D ys H hD sm hp hl⟩
 ·have hlt:i<n:=Nat.lt_of_le_of_ne hi h
  refine .inr ⟨hgo i H hlt sm,fun x H' hyl=>?_⟩
  obtain ⟨rfl,rfl⟩:=hy i H x H' hlt sm hyl
  refine turn i ys H' _ _ hlt sm hp (fun y H4 s4 hp4=>?_)
  refine ⟨ys,s4 _ _ hl,hz i ys _ hlt hp,n-(i+1),by omega,by omega,rfl,fun b u e=>?_,ys++[y],Ac,stab _ _ _ _ _ _ (s4 _ _ hl) hp4⟩
  rw [Ap (Ar e hD)]
  exact s4 _ _ (sm _ _ e)
theorem gO {lo st:Int}{n:Nat}{H1:Hp}{fr:St}{tc:TT}{te:TE}{Q:VK}(Pv:Nat->List V->Hp->Prop)(h0:∀ H,Al H1 H->Pv 0 [] H)
  (stab:∀ i ys H D xs o,H D=some (.lst xs)->Pv i ys H->Pv i ys (upd H D o))(hz:∀ i ys H,i<n->Pv i ys H->ys.length<sizeLine)
  (turn:∀ (i:Nat) ys H (A:VK) (R:Hp->Prop),i<n->Al H1 H->Pv i ys H->(∀ y H',Al H H'->Pv (i+1) (ys++[y]) H'->A y H')->tc (some (.int (lo+i*st))::fr) H fun b H3=>if b=true then te (some (.int (lo+i*st))::fr) H3 A else R H3)
  (fin:∀ D ys H,H1 D=none->Al H1 H->Pv n ys H->H D=some (.lst ys)->Q (.ref D) H):S3 (lU lo st n) H1 fr tc te Q :=
 mJ n (fun i=>.int (lo+i*st)) Pv h0 stab hz (fun i H hi _=>hi) (fun i H x H' _ _ h=>⟨h.2,h.1⟩) (fun H _=>Nat.le_refl n) turn fin
theorem qQ {X:Cx}{sc:Scope}{N:List Str}{C:Addr}{s0:Shared}{H0:Hp}{fp:List Addr}{scope:Scope}{x:Str}{N2:List Str}{ix:List Nat}{px pos:Pos}{elt iter:Expr}{ifs:List Expr}{tc:TT}{te:TE}{wi:TI}
  (hc:X.calm=true)(L:∀ sc₀,Bq N sc₀ scope x N2 ix)(hi:PI (Dj X sc N C s0 H0 fp) (.Name x px) iter wi)
  (hif:∀ C' s' H' fp',PIf (Dj (Dj X sc N C s0 H0 fp) scope N2 C' s' H' fp') ifs tc)(he:∀ C' s' H' fp',PE (Dj (Dj X sc N C s0 H0 fp) scope N2 C' s' H' fp') elt te)
  (hs:∀ z,foldedSetIterable iter (Dj X sc N C s0 H0 fp).env z=pure z:=by intro _;rfl):PE (Dj X sc N C s0 H0 fp) (.ListComp elt [⟨.Name x px,iter,ifs,0⟩] scope pos) (tLc wi ix tc te) :=
 Nq (X:=Dj X sc N C s0 H0 fp) hc (L _) hi hif he hs
theorem pE (K:PySem.W.Frag){X:Cx}{tg l:Expr}{tl:TE}(hl:PE X l tl)(h:X.K=K:=by rfl):PI X tg l (tO K tl):=by
 subst h
 exact cG hl
theorem jH (K:PySem.W.Frag){X:Cx}(hc:X.calm=true)(h:X.K=K:=by rfl):Fo X (.builtin "sum") (xK K):=by
 subst h
 exact mM hc
theorem mP (K:PySem.W.Frag){X:Cx}(h:X.K=K:=by rfl):SlR X (vO K):=by
 subst h
 exact Y0
theorem xX:bootBuiltins "abs"=some (.builtin "abs"):=by decide +kernel
def Vi (ns:List Int)(m:Int):Prop:=m∈ns/\∀ a∈ns,m<=a
def cI (ns:List Int)(m:Int):Prop:=m∈ns/\∀ a∈ns,a<=m
section
variable {X:Cx}
def sD (K:PySem.W.Frag):List V->Hp->VK->Prop:=fun xs H Q=>∃ (p:Addr) (ns:List Int),xs=[.ref p]/\SqL K H p (ns.map V.int)/\ns≠[]/\∀ m,Vi ns m->Q (.int m) H
def rZ (K:PySem.W.Frag):List V->Hp->VK->Prop:=fun xs H Q=>∃ (p:Addr) (ns:List Int),xs=[.ref p]/\SqL K H p (ns.map V.int)/\ns≠[]/\∀ m,cI ns m->Q (.int m) H
theorem fK {pins:List (Addr×Obj)}{s:Shared}{σ:St}{H:Hp}{p:Addr}{ns:List Int}(I:Inv X pins σ H s)(hp:SqL X.K H p (ns.map V.int)):∃ ys:Array (Int×Tok),s.heap.IsList p (intItems ys)/\ns=ys.toList.map (·.1):=by
 obtain ⟨its,r,pl,_⟩:=I.list hp
 have hi:=Sk r
 obtain ⟨ys,e⟩:=hi.allInts.items
 have hl:=pl.isList
 rw [e] at hl
 exact ⟨ys,hl,by rw [<- hi.numsOf,<- nums_intItems,<- e]⟩
theorem kO {ys:Array (Int×Tok)}{v:Value}(hz:0<ys.size)(hv:(intItems ys)[argBest (fun i j=>decide (numAt ys i<numAt ys j)) (ys.size-1)]?=some v):∃ m t,v=.int m t/\Vi (ys.toList.map (·.1)) m:=by
 obtain ⟨t,rfl⟩:=intItems_at hv
 obtain ⟨h1,h2⟩:=argBest_lt (numAt ys) (ys.size-1)
 refine ⟨_,t,rfl,?_,fun a ha=>?_⟩
 ·rw [numAt_eq]
  exact getD_mem (by rw [List.length_map,Array.length_toList];omega)
 ·obtain ⟨j,hj,rfl⟩:=mem_getD ha
  rw [List.length_map,Array.length_toList] at hj
  rw [<- numAt_eq]
  exact h2 j (by omega)
theorem qX {ys:Array (Int×Tok)}{v:Value}(hz:0<ys.size)(hv:(intItems ys)[argBest (fun i j=>decide (numAt ys i>numAt ys j)) (ys.size-1)]?=some v):∃ m t,v=.int m t/\cI (ys.toList.map (·.1)) m:=by
 obtain ⟨t,rfl⟩:=intItems_at hv
 obtain ⟨h1,h2⟩:=argBest_gt (numAt ys) (ys.size-1)
 refine ⟨_,t,rfl,?_,fun a ha=>?_⟩
 ·rw [numAt_eq]
  exact getD_mem (by rw [List.length_map,Array.length_toList];omega)
 ·obtain ⟨j,hj,rfl⟩:=mem_getD ha
  rw [List.length_map,Array.length_toList] at hj
  rw [<- numAt_eq]
  exact h2 j (by omega)
theorem P9 {ns:List Int}{ys:Array (Int×Tok)}(e:ns=ys.toList.map (·.1))(h:ns≠[]):0<ys.size:=by
 rcases Nat.eq_zero_or_pos ys.size with z | z
 ·exfalso
  apply h
  rw [e,List.eq_nil_of_length_eq_zero (l:=ys.toList) (by rw [Array.length_toList];exact z)]
  rfl
 ·exact z
theorem Uw (hc:X.calm=true):Fo X (.builtin "min") (sD X.K):=by
 intro pins s σ H xs us Q I r h
 obtain ⟨p,ns,rfl,hp,hne,q⟩:=h
 obtain ⟨u,rfl,ru⟩:=Gc r
 cases ru
 obtain ⟨ys,hl,e⟩:=fK I hp
 have hz:=P9 e hne
 refine min_intList (I.ok.hd hc) hl hz fun v h' tk hv hk=>?_
 obtain ⟨m,t,rfl,hm⟩:=kO hz hv
 exact ⟨.int m,H,I.kept hk,⟨t,rfl⟩,q m (e▸hm)⟩
theorem jC (hc:X.calm=true):Fo X (.builtin "max") (rZ X.K):=by
 intro pins s σ H xs us Q I r h
 obtain ⟨p,ns,rfl,hp,hne,q⟩:=h
 obtain ⟨u,rfl,ru⟩:=Gc r
 cases ru
 obtain ⟨ys,hl,e⟩:=fK I hp
 have hz:=P9 e hne
 refine max_intList (I.ok.hd hc) hl hz fun v h' tk hv hk=>?_
 obtain ⟨m,t,rfl,hm⟩:=qX hz hv
 exact ⟨.int m,H,I.kept hk,⟨t,rfl⟩,q m (e▸hm)⟩
end
theorem pR {z:Str}{g:TG}{tb:TS}{D:Ja}{σ:St}{H:Hp}(Pv:Nat->St->Hp->Prop)(h0:Pv 0 σ H)
  (hs:∀ (i c:Nat) σ H,z.cps[i]?=some c->Pv i σ H->g (.str (sgn c)) σ H fun σ2 H2=>tb { D with nx:=Pv (i+1),ct:=Pv (i+1),bk:=D.nx } σ2 H2)(hd:∀ σ H,Pv z.cps.size σ H->D.nx σ H):iK (Its z) g tb D σ H:=by
 refine ⟨fun i m σ H=>i<=z.cps.size/\m=z.cps.size-i/\Pv i σ H,⟨_,Nat.zero_le _,rfl,h0⟩,?_⟩
 rintro i m σ H ⟨hi,rfl,hP⟩
 by_cases h:i=z.cps.size
 ·subst h
  exact .inl ⟨Nat.le_refl _,hd σ H hP⟩
 ·have hlt:i<z.cps.size:=Nat.lt_of_le_of_ne hi h
  refine .inr ⟨hlt,Pv (i+1),fun σ' H' hN=>⟨z.cps.size-(i+1),by omega,hlt,rfl,hN⟩,fun x H' hy=>?_⟩
  obtain ⟨rfl,c,hc,rfl⟩:=hy
  exact hs i c σ _ hc hP
end L2
end
section
namespace TW
def val:List Bool->Nat
 | []=>0
 | b::r=>b.toNat+2*val r
def plc:Nat->List Bool->List Nat
 | _,[]=>[]
 | k,b::r=>if b then k::plc (k+1) r else plc (k+1) r
theorem kU:∀ l:List Bool,val l<2 ^ l.length
 | []=>by simp [val]
 | b::r=>by
  have:=kU r
  simp only [val,List.length_cons,Nat.pow_succ]
  have hb:b.toNat<=1:=Bool.toNat_le b
  omega
theorem bO (b:Bool):∀ (l:List Bool) (k:Nat),plc k (l++[b])=plc k l++(if b then [k+l.length] else [])
 | [],k=>by cases b<;>simp [plc]
 | a::r,k=>by
  cases a<;>simp [plc,bO b r,Nat.add_assoc,Nat.add_comm 1]
theorem P8:∀ (l:List Bool)(k:Nat),plc (k+1) l=(plc k l).map (·+1)
 | [],k=>rfl
 | a::r,k=>by cases a<;>simp [plc,P8 r]
theorem Ta:∀ (l:List Bool)(k:Nat),(plc k l).length=l.count true
 | [],k=>rfl
 | a::r,k=>by cases a<;>simp [plc,Ta r]
def pc (n:Nat):Nat:=if n=0 then 0 else n%2+pc (n/2)
termination_by n
decreasing_by omega
theorem Pz:pc 0=0:=by rw [pc];rfl
theorem G0 (n:Nat):pc n=n%2+pc (n/2):=by
 by_cases h:n=0
 ·subst h;simp [Pz]
 ·rw [pc,if_neg h]
theorem Mo:∀ l:List Bool,pc (val l)=l.count true
 | []=>by simp [val,Pz]
 | b::r=>by
  rw [G0]
  have e1:val (b::r)%2=b.toNat:=by simp only [val];have:=Bool.toNat_le b;omega
  have e2:val (b::r)/2=val r:=by simp only [val];have:=Bool.toNat_le b;omega
  rw [e1,e2,Mo r]
  cases b<;>simp [List.count_cons,Nat.add_comm]
theorem yL (n:Nat):pc n=pc (n%16)+pc (n/16):=by
 have a:pc n=n%2+(n/2%2+(n/4%2+(n/8%2+pc (n/16)))):=by
  rw [G0 n,G0 (n/2),G0 (n/2/2),G0 (n/2/2/2)]
  simp only [Nat.div_div_eq_div_mul]
 have b:pc (n%16)=n%16%2+(n%16/2%2+(n%16/4%2+(n%16/8%2+pc (n%16/16)))):=by
  rw [G0 (n%16),G0 (n%16/2),G0 (n%16/2/2),G0 (n%16/2/2/2)]
  simp only [Nat.div_div_eq_div_mul]
 have c:pc (n%16/16)=0:=by
  rw [show n%16/16=0 by omega,Pz]
 have d1:n%16%2=n%2:=by omega
 have d2:n%16/2%2=n/2%2:=by omega
 have d3:n%16/4%2=n/4%2:=by omega
 have d4:n%16/8%2=n/8%2:=by omega
 rw [a,b,c,d1,d2,d3,d4]
 omega
def Sx:List Nat:=[0,1,1,2,1,2,2,3,1,2,2,3,2,3,3,4]
theorem kH:∀ r:Nat,r<16->Sx[r]?=some (pc r):=by
 have h:∀ b0 b1 b2 b3:Bool,Sx[val [b0,b1,b2,b3]]?=some ([b0,b1,b2,b3].count true):=by decide
 intro r hr
 have e:r=val [r.testBit 0,r.testBit 1,r.testBit 2,r.testBit 3]:=by
  have:∀ r:Fin 16,r.val=val [r.val.testBit 0,r.val.testBit 1,r.val.testBit 2,r.val.testBit 3]:=by decide
  exact this ⟨r,hr⟩
 rw [e,h,Mo]
def nth (n k:Nat):Option Nat :=
 if n=0 then none else if n%2=1 then (if k=0 then some 0 else (nth (n/2) (k-1)).map (·+1)) else (nth (n/2) k).map (·+1)
termination_by n
decreasing_by all_goals omega
theorem R7 (k:Nat):nth 0 k=none:=by rw [nth];rfl
theorem Zx (b:Bool)(m k:Nat):nth (b.toNat+2*m) k=if b then (if k=0 then some 0 else (nth m (k-1)).map (·+1)) else (nth m k).map (·+1):=by
 cases b with
 | false =>
  by_cases h:m=0
  ·subst h;simp [R7]
  ·rw [nth,if_neg (by simp only [Bool.toNat_false];omega),if_neg (by simp only [Bool.toNat_false];omega)]
   simp only [Bool.toNat_false,Nat.zero_add,Bool.false_eq_true,if_false]
   rw [show 2*m/2=m by omega]
 | true =>
  rw [nth,if_neg (by simp only [Bool.toNat_true];omega),if_pos (by simp only [Bool.toNat_true];omega)]
  have e:(true.toNat+2*m)/2=m:=by simp only [Bool.toNat_true];omega
  rw [e];simp
theorem Xr:∀ (l:List Bool)(k:Nat),nth (val l) k=(plc 0 l)[k]?
 | [],k=>by simp [val,plc,R7]
 | b::r,k=>by
  simp only [val,Zx]
  cases b with
  | false=>simp [plc,P8,Xr r]
  | true =>
   cases k with
   | zero=>simp [plc]
   | succ k=>simp [plc,P8,Xr r]
def aS (r:Nat):List Nat:=(List.range 4).filter fun p=>decide (r/2 ^ p%2=1)
theorem qO:∀ r:Nat,r<16->(aS r).length=pc r:=by
 have h:∀ b0 b1 b2 b3:Bool,(aS (val [b0,b1,b2,b3])).length=([b0,b1,b2,b3].count true):=by decide
 intro r hr
 have e:r=val [r.testBit 0,r.testBit 1,r.testBit 2,r.testBit 3]:=by
  have:∀ r:Fin 16,r.val=val [r.val.testBit 0,r.val.testBit 1,r.val.testBit 2,r.val.testBit 3]:=by decide
  exact this ⟨r,hr⟩
 rw [e,h,Mo]
theorem vL (n k:Nat):nth n k=if k<pc (n%16) then (aS (n%16))[k]? else (nth (n/16) (k-pc (n%16))).map (·+4):=by
 obtain ⟨b0,b1,b2,b3,q,e⟩:∃ (b0 b1 b2 b3:Bool) (q:Nat),n=b0.toNat+2*(b1.toNat+2*(b2.toNat+2*(b3.toNat+2*q))):=by
  refine ⟨decide (n%2=1),decide (n/2%2=1),decide (n/4%2=1),decide (n/8%2=1),n/16,?_⟩
  have f:∀ m:Nat,(decide (m%2=1)).toNat=m%2:=fun m=>by
   by_cases h:m%2=1
   ·rw [decide_eq_true h,h];rfl
   ·rw [decide_eq_false h];show 0=m%2;omega
  rw [f,f,f,f];omega
 have e1:n%16=val [b0,b1,b2,b3]:=by
  simp only [val]
  have:=Bool.toNat_le b0;have:=Bool.toNat_le b1;have:=Bool.toNat_le b2;have:=Bool.toNat_le b3
  omega
 have e2:n/16=q:=by
  have:=Bool.toNat_le b0;have:=Bool.toNat_le b1;have:=Bool.toNat_le b2;have:=Bool.toNat_le b3
  omega
 rw [e1,e2,Mo,e]
 simp only [Zx]
 cases b0<;>cases b1<;>cases b2<;>cases b3 <;>
  (rcases k with _ | _ | _ | _ | k<;>simp [aS,val,List.range,List.range.loop,List.filter,Option.map_map,Function.comp_def]<;>try omega)
end TW
end
section
namespace TW
def A5 (l:List Bool)(j:Nat):List Bool:=(l.drop (32*j)).take 32
def Bp (n:Nat):Nat:=(n+31)/32
def wordsOf (l:List Bool):List Nat:=(List.range (Bp l.length)).map fun j=>val (A5 l j)
def cnt (l:List Bool)(k:Nat):Nat:=(l.take k).count true
theorem fC (l:List Bool)(a b:Nat):cnt l (a+b)=cnt l a+((l.drop a).take b).count true:=by
 unfold cnt
 rw [List.take_add,List.count_append]
theorem P0 (l:List Bool){k:Nat}(h:l.length<=k):cnt l k=l.count true:=by
 unfold cnt
 rw [List.take_of_length_le h]
theorem Z3 (l:List Bool)(j:Nat):cnt l (32*(j+1))=cnt l (32*j)+pc (val (A5 l j)):=by
 rw [Mo,show 32*(j+1)=32*j+32 by omega,fC]
 rfl
theorem Up (l:List Bool)(a:Nat):∀ k:Nat,((List.range k).map fun i=>pc (val (A5 l (a+i)))).sum+cnt l (32*a)=cnt l (32*(a+k))
 | 0=>by simp
 | k+1=>by
  rw [List.range_succ,List.map_append,List.sum_append,List.map_singleton,List.sum_singleton]
  have:=Up l a k
  have e:=Z3 l (a+k)
  rw [show a+(k+1)=a+k+1 by omega,e]
  omega
theorem bB (n:Nat):n<=32*Bp n:=by unfold Bp;omega
theorem bI {n j:Nat}(h:j<Bp n):32*j<n:=by unfold Bp at h;omega
theorem gW (l:List Bool)(b:Nat)(k:Nat)(hk:k=min 8 (Bp l.length-8*b)):((List.range k).map fun i=>pc (val (A5 l (8*b+i)))).sum+cnt l (256*b)=cnt l (256*(b+1)):=by
 have h:=Up l (8*b) k
 rw [show 32*(8*b)=256*b by omega] at h
 rw [h]
 by_cases hh:8<=Bp l.length-8*b
 ·rw [show k=8 by omega,show 32*(8*b+8)=256*(b+1) by omega]
 ·have:=bB l.length
  rw [P0 l (k:=32*(8*b+k)) (by omega),P0 l (k:=256*(b+1)) (by omega)]
theorem eZ:∀ (l:List Bool)(a:Nat),(l.reverse.foldl (fun acc b=>acc*2+b.toNat) a)=a*2 ^ l.length+val l
 | [],a=>by simp [val]
 | b::r,a=>by
  rw [List.reverse_cons,List.foldl_append,eZ r a]
  simp only [List.foldl_cons,List.foldl_nil,val,List.length_cons,Nat.pow_succ]
  rw [Nat.add_mul,Nat.mul_assoc]
  omega
end TW
end
section
namespace TW
theorem P4:∀ (w:List Bool)(k:Nat),val w/2 ^ k%2=(w.getD k false).toNat
 | [],k=>by simp [val]
 | b::r,0=>by
  cases b<;>simp [val]<;>omega
 | b::r,k+1=>by
  have ih:=P4 r k
  have e:val (b::r)/2 ^ (k+1)=val r/2 ^ k:=by
   rw [Nat.pow_succ,Nat.mul_comm (2 ^ k) 2,<- Nat.div_div_eq_div_mul]
   congr 1
   cases b<;>simp [val]<;>omega
  rw [e,ih]
  simp
theorem Ks (l:List Bool)(j:Nat){p:Nat}(hp:p<32):(A5 l j).getD p false=l.getD (32*j+p) false:=by
 unfold A5
 simp only [List.getD_eq_getElem?_getD,List.getElem?_take,List.getElem?_drop,hp,if_true]
def Nv (n:Nat):List Bool:=(List.range 32).map fun p=>decide (n/2 ^ p%2=1)
theorem jA (b:Bool):decide (b.toNat=1)=b:=by cases b<;>rfl
theorem gN (l:List Bool)(j:Nat):Nv (val (A5 l j))=(List.range 32).map fun p=>l.getD (32*j+p) false:=by
 unfold Nv
 refine List.map_congr_left fun p hp=>?_
 rw [P4,jA,Ks l j (List.mem_range.mp hp)]
theorem On {α:Type}(d:Nat)(f:Nat->α):∀ m:Nat,((List.range m).map fun j=>(List.range d).map fun p=>f (d*j+p)).flatten=(List.range (d*m)).map f
 | 0=>by simp
 | m+1=>by
  rw [List.range_succ,List.map_append,List.flatten_append,On d f m,Nat.mul_succ,List.range_add,List.map_append]
  simp [Function.comp_def]
def eF (r:Nat):List Bool:=(List.range 4).map fun k=>decide (r/2 ^ k%2=1)
theorem lW (n j:Nat):eF (n/2 ^ (4*j)%16)=(List.range 4).map fun k=>decide (n/2 ^ (4*j+k)%2=1):=by
 unfold eF
 refine List.map_congr_left fun k hk=>?_
 have hk:=List.mem_range.mp hk
 rw [Nat.pow_add,<- Nat.div_div_eq_div_mul]
 generalize n/2 ^ (4*j)=m
 congr 1
 have:k=0\/k=1\/k=2\/k=3:=by omega
 rcases this with rfl | rfl | rfl | rfl<;>simp only [Nat.reducePow]<;>simp only [eq_iff_iff]<;>omega
theorem Rf (n:Nat):((List.range 8).map fun j=>eF (n/2 ^ (4*j)%16)).flatten=Nv n:=by
 have e:((List.range 8).map fun j=>eF (n/2 ^ (4*j)%16))=(List.range 8).map fun j=>(List.range 4).map fun k=>decide (n/2 ^ (4*j+k)%2=1):=List.map_congr_left fun j _=>lW n j
 rw [e]
 exact On 4 (fun p=>decide (n/2 ^ p%2=1)) 8
theorem P5 (l:List Bool)(a m:Nat):((List.range m).map fun i=>Nv (val (A5 l (a+i)))).flatten=(List.range (32*m)).map fun p=>l.getD (32*a+p) false:=by
 have e:((List.range m).map fun i=>Nv (val (A5 l (a+i))))=(List.range m).map fun j=>(List.range 32).map fun p=>l.getD (32*a+(32*j+p)) false:=List.map_congr_left fun j _=>by
  rw [gN]
  refine List.map_congr_left fun p _=>?_
  congr 1
  omega
 rw [e]
 exact On 32 (fun p=>l.getD (32*a+p) false) m
theorem lG (l:List Bool)(a m low c:Nat)(h0:32*a<=low)(h1:low+c<=l.length)(h2:low+c<=32*(a+m)) :
  (((List.range (32*m)).map fun p=>l.getD (32*a+p) false).drop (low-32*a)).take c=(l.drop low).take c:=by
 refine List.ext_getElem? fun i=>?_
 rw [List.getElem?_take,List.getElem?_take]
 by_cases hi:i<c
 ·rw [if_pos hi,if_pos hi,List.getElem?_drop,List.getElem?_drop,List.getElem?_map,List.getElem?_range (by omega)]
  rw [List.getElem?_eq_getElem (show low+i<l.length by omega)]
  simp only [Option.map_some,List.getD_eq_getElem?_getD]
  rw [show 32*a+(low-32*a+i)=low+i by omega,List.getElem?_eq_getElem (show low+i<l.length by omega)]
  rfl
 ·rw [if_neg hi,if_neg hi]
theorem T6 (l:List Bool)(a k:Nat):((wordsOf l).drop a).take k=(List.range (min k (Bp l.length-a))).map fun i=>val (A5 l (a+i)):=by
 refine List.ext_getElem? fun i=>?_
 unfold wordsOf
 rw [List.getElem?_take,List.getElem?_map]
 by_cases hi:i<k
 ·rw [if_pos hi,List.getElem?_drop,List.getElem?_map]
  by_cases h2:a+i<Bp l.length
  ·rw [List.getElem?_range h2,List.getElem?_range (by omega)]
   rfl
  ·rw [List.getElem?_eq_none (by rw [List.length_range];omega),List.getElem?_eq_none (by rw [List.length_range];omega)]
   rfl
 ·rw [if_neg hi,List.getElem?_eq_none (by rw [List.length_range];omega)]
  rfl
end TW
end
section
namespace TW
theorem lS (f:Nat->Bool)(n:Nat):[n].filter f=if f n then [n] else []:=by
 cases h:f n<;>simp [List.filter,h]
def occ (b:Bool)(l:List Bool)(n:Nat):List Nat:=(List.range n).filter fun i=>l.getD i false==b
theorem Mr (b:Bool)(l:List Bool)(n:Nat):occ b l (n+1)=occ b l n++if l.getD n false==b then [n] else []:=by
 unfold occ
 rw [List.range_succ,List.filter_append,lS]
theorem Py (b:Bool)(l:List Bool)(n:Nat):∀ d:Nat,occ b l (n+d)=occ b l n++((List.range d).filter fun p=>l.getD (n+p) false==b).map (n + ·)
 | 0=>by simp
 | d+1=>by
  rw [show n+(d+1)=n+d+1 by omega,Mr,Py b l n d,List.range_succ,List.filter_append,List.map_append,List.append_assoc,lS]
  congr 2
  cases l.getD (n+d) false==b<;>rfl
theorem U9 {b:Bool}{l:List Bool}{n m i:Nat}(h:n<=m)(hi:i<(occ b l n).length):(occ b l m)[i]?=(occ b l n)[i]?:=by
 obtain ⟨d,rfl⟩:=Nat.le.dest h
 rw [Py,List.getElem?_append_left hi]
theorem tD {b:Bool}{l:List Bool}{n m:Nat}(h:n<=m):(occ b l n).length<=(occ b l m).length:=by
 obtain ⟨d,rfl⟩:=Nat.le.dest h
 rw [Py,List.length_append]
 omega
theorem M9 (l:List Bool):∀ n:Nat,(occ true l n).length=cnt l n/\(occ false l n).length+cnt l n=n
 | 0=>by simp [occ,cnt]
 | n+1=>by
  obtain ⟨h1,h2⟩:=M9 l n
  have e:cnt l (n+1)=cnt l n+(l.getD n false).toNat:=by
   unfold cnt
   rw [List.take_add_one,List.count_append,List.getD_eq_getElem?_getD]
   cases hx:l[n]? with
   | none=>simp
   | some b=>cases b<;>simp
  rw [Mr,Mr,e]
  cases l.getD n false<;>simp<;>omega
def Lu (b:Bool)(l:List Bool)(j:Nat):List Nat:=(List.range 32).filter fun p=>l.getD (32*j+p) false==b
theorem S0 (b:Bool)(l:List Bool)(j:Nat):occ b l (32*(j+1))=occ b l (32*j)++(Lu b l j).map (32*j + ·):=by
 rw [show 32*(j+1)=32*j+32 by omega,Py]
 rfl
theorem Nz (f:Nat->Bool):∀ n:Nat,plc 0 ((List.range n).map f)=(List.range n).filter f
 | 0=>rfl
 | n+1=>by
  rw [List.range_succ,List.map_append,List.map_singleton,bO,Nz f n,List.filter_append,List.length_map,List.length_range,lS,Nat.zero_add]
theorem X9 (w:List Bool)(k:Nat):(val w).testBit k=w.getD k false:=by
 rw [Nat.testBit_eq_decide_div_mod_eq,P4]
 cases w.getD k false<;>rfl
def Nt (b:Bool):Nat:=if b then 0 else 4294967295
theorem Lq (b:Bool)(l:List Bool)(j:Nat):val (A5 l j) ^^^ Nt b=val ((List.range 32).map fun p=>l.getD (32*j+p) false==b):=by
 refine Nat.eq_of_testBit_eq fun i=>?_
 rw [Nat.testBit_xor,X9,X9]
 have hf:(Nt b).testBit i=(!b&&decide (i<32)):=by
  cases b
  ·show (2 ^ 32-1).testBit i=_
   rw [Nat.testBit_two_pow_sub_one]
   rfl
  ·show (0:Nat).testBit i=_
   rw [Nat.zero_testBit]
   rfl
 rw [hf]
 by_cases hi:i<32
 ·rw [Ks l j hi,List.getD_eq_getElem?_getD (l:=List.map _ _),List.getElem?_map,List.getElem?_range hi]
  show _=(l.getD (32*j+i) false==b)
  rw [decide_eq_true hi]
  cases l.getD (32*j+i) false<;>cases b<;>rfl
 ·rw [decide_eq_false hi,List.getD_eq_getElem?_getD,List.getElem?_eq_none (by unfold A5;rw [List.length_take];omega),List.getD_eq_getElem?_getD,List.getElem?_eq_none (by rw [List.length_map,List.length_range];omega)]
  simp
theorem aN (b:Bool)(l:List Bool)(j k:Nat):nth (val (A5 l j) ^^^ Nt b) k=(Lu b l j)[k]?:=by
 rw [Lq,Xr,Nz]
 rfl
theorem qY (b:Bool)(l:List Bool)(j:Nat):pc (val (A5 l j) ^^^ Nt b)=(Lu b l j).length:=by
 rw [Lq,Mo,<- Ta _ 0,Nz]
 rfl
theorem jL (w:List Bool)(k:Nat):val w%2 ^ k=val (w.take k):=by
 refine Nat.eq_of_testBit_eq fun i=>?_
 rw [Nat.testBit_mod_two_pow,X9,X9,List.getD_eq_getElem?_getD,List.getD_eq_getElem?_getD,List.getElem?_take]
 by_cases hi:i<k<;>simp [hi]
end TW
end
section
namespace TW
end TW
end
section
namespace TW
def dAt (ds:List Nat)(k:Nat):Nat:=ds.getD k 0
def opn (ds:List Nat):Nat->Nat
 | 0=>0
 | k+1=>dAt ds k+1
def way (ds:List Nat):Nat->List Int
 | 0=>[-1]
 | k+1=>(way ds k).take (dAt ds k+1)++[(k:Int)]
def Dok (ds:List Nat):Prop:=∀ k,k<ds.length->dAt ds k<=opn ds k
def eld (ds:List Nat)(k:Nat):Int:=(way ds k).getD (dAt ds k) 0
def Az (ds:List Nat):List Int:=(List.range ds.length).map (eld ds)
theorem Co {ds:List Nat}(h:Dok ds):∀ k,k<=ds.length->(way ds k).length=opn ds k+1
 | 0,_=>rfl
 | k+1,hk=>by
  show ((way ds k).take (dAt ds k+1)++[(k:Int)]).length=dAt ds k+1+1
  have:=Co h k (by omega)
  have:=h k (by omega)
  rw [List.length_append,List.length_take]
  simp only [List.length_cons,List.length_nil]
  omega
theorem Nr {ds:List Nat}(h:Dok ds):∀ k,k<=ds.length->(way ds k)[0]?=some (-1)
 | 0,_=>rfl
 | k+1,hk=>by
  show ((way ds k).take (dAt ds k+1)++[(k:Int)])[0]?=some (-1)
  have e:=Nr h k (by omega)
  have hl:=Co h k (by omega)
  rw [List.getElem?_append_left (by rw [List.length_take];omega),List.getElem?_take_of_lt (by omega)]
  exact e
theorem Ol {ds:List Nat}(h:Dok ds):∀ (k j:Nat) (x:Int),k<=ds.length->(way ds k)[j+1]?=some x->∃ v:Nat,x=(v:Int)/\v<k/\dAt ds v=j
 | 0,j,x,_,e=>by cases e
 | k+1,j,x,hk,e=>by
  have e:((way ds k).take (dAt ds k+1)++[(k:Int)])[j+1]?=some x:=e
  have hl:=Co h k (by omega)
  have hd:=h k (by omega)
  have hl2:((way ds k).take (dAt ds k+1)).length=dAt ds k+1:=by rw [List.length_take];omega
  by_cases hj:j+1<dAt ds k+1
  ·rw [List.getElem?_append_left (by omega),List.getElem?_take_of_lt hj] at e
   obtain ⟨v,hv,hlt,hdv⟩:=Ol h k j x (by omega) e
   exact ⟨v,hv,by omega,hdv⟩
  ·rw [List.getElem?_append_right (by omega),hl2] at e
   have e0:j+1-(dAt ds k+1)=0:=by
    have:=(List.getElem?_eq_some_iff.mp e).1
    simp only [List.length_cons,List.length_nil] at this
    omega
   rw [e0] at e
   have e:=Option.some.inj e
   exact ⟨k,e.symm,by omega,by omega⟩
theorem R8 {ds:List Nat}(h:Dok ds):∀ (k i j:Nat) (x y:Int),k<=ds.length->i<j->(way ds k)[i]?=some x->(way ds k)[j]?=some y->x<y
 | 0,i,j,x,y,_,hij,e1,e2=>by
  have:=(List.getElem?_eq_some_iff.mp e2).1
  simp only [way,List.length_cons,List.length_nil] at this
  omega
 | k+1,i,j,x,y,hk,hij,e1,e2=>by
  have hl:=Co h k (by omega)
  have hd:=h k (by omega)
  have hl2:((way ds k).take (dAt ds k+1)).length=dAt ds k+1:=by rw [List.length_take];omega
  have e2':((way ds k).take (dAt ds k+1)++[(k:Int)])[j]?=some y:=e2
  have e1':((way ds k).take (dAt ds k+1)++[(k:Int)])[i]?=some x:=e1
  by_cases hj:j<dAt ds k+1
  ·rw [List.getElem?_append_left (by omega),List.getElem?_take_of_lt hj] at e2'
   rw [List.getElem?_append_left (by omega),List.getElem?_take_of_lt (by omega)] at e1'
   exact R8 h k i j x y (by omega) hij e1' e2'
  ·rw [List.getElem?_append_right (by omega),hl2] at e2'
   have e0:j-(dAt ds k+1)=0:=by
    have:=(List.getElem?_eq_some_iff.mp e2').1
    simp only [List.length_cons,List.length_nil] at this
    omega
   rw [e0] at e2'
   have ey:=Option.some.inj e2'
   rw [List.getElem?_append_left (by omega),List.getElem?_take_of_lt (by omega)] at e1'
   cases i with
   | zero =>
    rw [Nr h k (by omega)] at e1'
    have:=Option.some.inj e1'
    omega
   | succ i =>
    obtain ⟨v,hv,hlt,_⟩:=Ol h k i x (by omega) e1'
    omega
theorem Ie {ds:List Nat}(h:Dok ds){k:Nat}(hk:k<ds.length):(way ds k)[dAt ds k]?=some (eld ds k):=by
 have hl:=Co h k (by omega)
 have hd:=h k hk
 unfold eld List.getD
 rw [List.getElem?_eq_getElem (by omega)]
 rfl
theorem pX {ds:List Nat}(h:Dok ds){k:Nat}(hk:k<ds.length)(e:eld ds k=-1):dAt ds k=0:=by
 have ha:=Ie h hk
 cases hd:dAt ds k with
 | zero=>rfl
 | succ j =>
  rw [hd] at ha
  obtain ⟨v,hv,_⟩:=Ol h k j _ (by omega) ha
  omega
theorem Dx {ds:List Nat}(h:Dok ds){k:Nat}(hk:k<ds.length)(e:eld ds k≠-1):∃ v:Nat,eld ds k=(v:Int)/\v<k/\dAt ds k=dAt ds v+1:=by
 have ha:=Ie h hk
 cases hd:dAt ds k with
 | zero =>
  rw [hd,Nr h k (by omega)] at ha
  exact absurd (Option.some.inj ha).symm e
 | succ j =>
  rw [hd] at ha
  obtain ⟨v,hv,hlt,hdv⟩:=Ol h k j _ (by omega) ha
  exact ⟨v,hv,hlt,by omega⟩
theorem E2 {ds:List Nat}(h:Dok ds){k:Nat}(hk:k<ds.length):-1<=eld ds k:=by
 by_cases e:eld ds k=-1
 ·omega
 ·obtain ⟨v,hv,_⟩:=Dx h hk e
  omega
theorem Bu (ds:List Nat):(Az ds).length=ds.length:=by unfold Az;rw [List.length_map,List.length_range]
theorem J3 {ds:List Nat}{k:Nat}(hk:k<ds.length):(Az ds)[k]?=some (eld ds k):=by
 unfold Az
 rw [List.getElem?_map,List.getElem?_range hk]
 rfl
def Vs:Nat->List Bool->Prop
 | h,[]=>h=0
 | h,false::s=>0<h/\Vs (h-1) s
 | h,true::s=>Vs (h+1) s
end TW
end
section
namespace TW
end TW
end
section
namespace L2
open PySem PySem.Spec PyProof.Rows
theorem pB (K:PySem.W.Frag){X:Cx}(h:X.K=K:=by rfl):IxR X (uK K):=by
 subst h
 exact Ey
open PySem.W Builtin.Getset_descriptor
theorem rD {X:Cx}{pins:List (Addr×Obj)}{σ:St}{H:Hp}{s:Shared}(I:Inv X pins σ H s):sysModules<s.heap.objs.size :=
 Nat.lt_trans (by decide) (show mainGlobals<s.heap.objs.size from (I.mod.glob.keeps I.bk).lt)
section
variable {X:Cx}
def qN:V->List V->Hp->VK->Prop:=fun x vs H Q=>∃ (l:Addr) (xs:List V) (y:V),x=.ref l/\vs=[y]/\H l=some (.lst xs)/\xs.all F8=true/\F8 y=true/\Q (.int (xs.countP (fun z=>eqV z y):Nat)) H
theorem Ri {y:V}:∀ {xs:List V} {us:List Value},A6 xs us->xs.all F8=true->us.countP (eqU y)=xs.countP fun z=>eqV z y
 | _,_,.nil,_=>rfl
 | x::xs,u::us,.cons r t,f=>by
  rw [List.all_cons,Bool.and_eq_true] at f
  rw [List.countP_cons,List.countP_cons,Ri t f.2,Vu r f.1]
theorem iJ:MtM X "list.count" qN:=by
 intro pins s σ H x vs v us Q I rx rv h
 obtain ⟨l,xs,y,rfl,rfl,hH,hf,hy,q⟩:=h
 cases rx
 obtain ⟨u,rfl,ru⟩:=Gc rv
 obtain ⟨z,its,n,r,hl,e⟩:=I.lstM hH
 refine call_meets F.slot_list_count ⟨_,e,rfl⟩ F.entry_list_count (F.args_list_count_2 _ _) (SeqAt.list_countAt l its.toArray n none #[] u (eqU y)) ⟨e,fun w hw=>Kw ru hy r hf w (by simpa using hw),?_⟩
 rw [show its.toArray.toList=its from rfl,Ri r hf]
 exact ⟨.int _,H,I.tok _,⟨_,rfl⟩,q⟩
end
open Builtin.Str (occurrences partsBetween)
section
variable {X:Cx}
theorem lM (l:List (Str×Tok)):A6 ((l.map (·.1)).map V.str) (strValues l):=by
 induction l with
 | nil=>exact .nil
 | cons p r ih=>exact .cons ⟨_,rfl⟩ ih
end
abbrev zD (vs:Array Value):Obj:={ cls:=.type "zip",dict:=none,data:=.fields vs,slots:=#[] }
abbrev Nn (h:Heap)(z TI TO T:Addr)(c:Bool):Prop:=h.get? z=some (zD #[rawInt T,.bool c,.bool false,.ref TI,.ref TO])
section
variable {prog:Program} {w:World} {A:Around} {E:Value->Shared->Prop} {s:Shared}
theorem kF {a:Addr}{Q:Option Obj->Shared->Prop}(h:Q (s.heap.get? a) s):wpAny (model prog w) A (loadIfAlive a) Q E s:=fun Γ p hΓ=>by
 show Sem.wp _ _ (.loadIfAlive a _) _ _ _ _
 rw [Sem.wp_loadIfAlive]
 exact h
theorem Ua {z TI TO T:Addr}{c:Bool}{oT:Obj}{Q:Bool->Shared->Prop}(hz:Nn s.heap z TI TO T c)(hT:s.heap.get? T=some oT)(q:∀ h',Nn h' z TI TO T true->Heap.SameBut z s.heap h'->Q false { s with heap:=h' }) :
  wpAny (model prog w) A (Builtin.SmallTypes.ownedTupleIsFree (.ref z)) Q E s:=by
 unfold Builtin.SmallTypes.ownedTupleIsFree
 refine wpAny_bind (wpAny_field hz rfl (x:=rawInt T) rfl ?_)
 show wpAny _ _ (loadIfAlive (Int.toNat (T:Int)) >>= _) _ _ _
 refine wpAny_bind (kF ?_)
 rw [Int.toNat_natCast,hT]
 show wpAny _ _ (field (.ref z) 1 >>= _) _ _ _
 refine wpAny_bind (wpAny_field hz rfl (x:=.bool c) rfl ?_)
 cases c with
 | true =>
  exact wpAny_pure (q s.heap hz (Heap.SameBut.refl _ _))
 | false =>
  refine wpAny_bind (wpAny_setField_rec hz (by simp) fun h₁ hz₁ hs₁=>?_)
  exact wpAny_pure (q h₁ hz₁ hs₁)
theorem iM {z TI TO T i1 i2 l1 l2:Addr}{k1 k2:Nat}{xs ys:Array Value}{x y:Value}{c:Bool}{oT:Obj}{Q:Value->Shared->Prop}(D:ZipApart z TI TO i1 i2 l1 l2)
  (hz:Nn s.heap z TI TO T c)(hT:s.heap.get? T=some oT)(hTI:IsPair s.heap TI (.ref i1) (.ref i2))(h1:s.heap.IsListIter i1 l1 k1)(h2:s.heap.IsListIter i2 l2 k2)(hl1:s.heap.IsList l1 xs)(hl2:s.heap.IsList l2 ys)(hx:xs[k1]?=some x)(hy:ys[k2]?=some y)
  (hQ:∀ h',Nn h' z TI TO T true->h'.IsListIter i1 l1 (k1+1)->h'.IsListIter i2 l2 (k2+1)->IsPair h' s.heap.objs.size x y->h'.objs.size=s.heap.objs.size+1->(∀ b o,b≠z->b≠i1->b≠i2->s.heap.get? b=some o->h'.get? b=some o)->Q (.ref s.heap.objs.size) { s with heap:=h' }) :
  wpAny (model prog w) A (Builtin.«zip.__next__» ⟨[.ref z],[]⟩) (fun fin s'=>∃ v,fin=.done (.ret v)/\Q v s') E s:=by
 show wpAny _ _ (field (.ref z) 2 >>= _) _ _ _
 refine wpAny_bind (wpAny_field hz rfl (x:=.bool false) rfl ?_)
 show wpAny _ _ (field (.ref z) 3 >>= _) _ _ _
 refine wpAny_bind (wpAny_field hz rfl (x:=.ref TI) rfl ?_)
 refine wpAny_bind (wpAny_seqItems hTI rfl ?_)
 show wpAny _ _ (Builtin.SmallTypes.ownedTupleIsFree (.ref z) >>= _) _ _ _
 refine wpAny_bind (Ua hz hT fun h₁ hz₁ hs₁=>?_)
 rw [if_neg (by decide)]
 refine wpAny_bind ?_
 rw [<- Array.forIn_toList]
 simp only [List.forIn_cons,List.forIn_nil]
 refine wpAny_bind (wpAny_bind (wpAny_holding ?_))
 show wpAny _ _ (Builtin.SmallTypes.nextOf (.ref i1) >>= _) _ _ _
 refine wpAny_bind (wpAny_nextOf_list_item (h1.extBut hs₁.extBut D.i1z) (hl1.extBut hs₁.extBut D.l1z) hx fun h₂ h1₂ hs₂=>wpAny_pure ?_)
 refine wpAny_pure ?_
 refine wpAny_bind (wpAny_bind (wpAny_holding ?_))
 show wpAny _ _ (Builtin.SmallTypes.nextOf (.ref i2) >>= _) _ _ _
 refine wpAny_bind (wpAny_nextOf_list_item ((h2.extBut hs₁.extBut D.i2z).extBut hs₂.extBut D.i12.symm) ((hl2.extBut hs₁.extBut D.l2z).extBut hs₂.extBut D.l2i1) hy fun h₄ h2₄ hs₄=>wpAny_pure ?_)
 refine wpAny_pure (wpAny_pure ?_)
 have hsz:h₄.objs.size=s.heap.objs.size:=by rw [hs₄.1,hs₂.1,hs₁.1]
 have kp:∀ b o,b≠z->b≠i1->b≠i2->s.heap.get? b=some o->h₄.get? b=some o:=fun b o b1 b2 b3 e=>hs₄.extBut _ _ b3 (hs₂.extBut _ _ b2 (hs₁.extBut _ _ b1 e))
 have hz₄:Nn h₄ z TI TO T true:=hs₄.extBut _ _ D.i2z.symm (hs₂.extBut _ _ D.i1z.symm hz₁)
 show wpAny _ _ (newTuple [x,y] >>= _) _ _ _
 refine wpAny_bind (wpAny_newTuple (wpAny_pure ⟨_,rfl,?_⟩))
 have hp:h₄.objs.size=s.heap.objs.size:=hsz
 rw [hp]
 refine hQ _ (Heap.get?_push_of_some _ hz₄) ((h1₂.extBut hs₄.extBut D.i12).at fun o e=>Heap.get?_push_of_some _ e) (h2₄.at fun o e=>Heap.get?_push_of_some _ e) ?_ (by rw [Heap.size_push,hp]) fun b o b1 b2 b3 e=>Heap.get?_push_of_some _ (kp b o b1 b2 b3 e)
 rw [<- hp]
 exact Heap.get?_push_size _ rfl
theorem iV {z TI TO T i1 i2 l1 l2:Addr}{k1 k2:Nat}{xs ys:Array Value}{x y:Value}{c:Bool}{oT:Obj}{Q:Option Value->Shared->Prop}(D:ZipApart z TI TO i1 i2 l1 l2)
  (hz:Nn s.heap z TI TO T c)(hT:s.heap.get? T=some oT)(hTI:IsPair s.heap TI (.ref i1) (.ref i2))(h1:s.heap.IsListIter i1 l1 k1)(h2:s.heap.IsListIter i2 l2 k2)(hl1:s.heap.IsList l1 xs)(hl2:s.heap.IsList l2 ys)(hx:xs[k1]?=some x)(hy:ys[k2]?=some y)
  (hQ:∀ h',Nn h' z TI TO T true->h'.IsListIter i1 l1 (k1+1)->h'.IsListIter i2 l2 (k2+1)->IsPair h' s.heap.objs.size x y->h'.objs.size=s.heap.objs.size+1->(∀ b o,b≠z->b≠i1->b≠i2->s.heap.get? b=some o->h'.get? b=some o)->Q (some (.ref s.heap.objs.size)) { s with heap:=h' }) :
  wpAny (model prog w) A (pyNext (.ref z)) Q E s:=by
 have hTy:s.TypeIs (.ref z) "zip":=⟨_,hz,rfl⟩
 unfold pyNext
 exact wpAny_bind (wpAny_attempt (wpAny_callSpecial?_slot (name:=Str.ofString "__next__") hTy PySem.F.slot_zip_next
  (wpAny_call_entry PySem.F.slot_zip_next hTy PySem.F.entry_zip_next
   (iM D hz hT hTI h1 h2 hl1 hl2 hx hy fun h' a1 a2 a3 a4 a5 a6=>wpAny_pure (hQ h' a1 a2 a3 a4 a5 a6)) (PySem.F.args_zip_next_1 _))))
theorem mY {z TI TO T i1 i2 l1 l2:Addr}{k1:Nat}{xs:Array Value}{c:Bool}{oT:Obj}{Q:Option Value->Shared->Prop}(hh:A.handled=none)(D:ZipApart z TI TO i1 i2 l1 l2)
  (hz:Nn s.heap z TI TO T c)(hT:s.heap.get? T=some oT)(hTI:IsPair s.heap TI (.ref i1) (.ref i2))(h1:s.heap.IsListIter i1 l1 k1)(hl1:s.heap.IsList l1 xs)(hx:xs[k1]?=none)
  (hQ:∀ h',(∀ b o,b≠z->b≠i1->b≠i2->s.heap.get? b=some o->h'.get? b=some o)->Q none { s with heap:=h' }) :
  wpAny (model prog w) A (pyNext (.ref z)) Q E s:=by
 have hTy:s.TypeIs (.ref z) "zip":=⟨_,hz,rfl⟩
 unfold pyNext
 refine wpAny_bind (wpAny_attempt (wpAny_callSpecial?_slot (name:=Str.ofString "__next__") hTy PySem.F.slot_zip_next
  (wpAny_call_entry PySem.F.slot_zip_next hTy PySem.F.entry_zip_next ?_ (PySem.F.args_zip_next_1 _))))
 show wpAny _ _ (field (.ref z) 2 >>= _) _ _ _
 refine wpAny_bind (wpAny_field hz rfl (x:=.bool false) rfl ?_)
 show wpAny _ _ (field (.ref z) 3 >>= _) _ _ _
 refine wpAny_bind (wpAny_field hz rfl (x:=.ref TI) rfl ?_)
 refine wpAny_bind (wpAny_seqItems hTI rfl ?_)
 show wpAny _ _ (Builtin.SmallTypes.ownedTupleIsFree (.ref z) >>= _) _ _ _
 refine wpAny_bind (Ua hz hT fun h₁ hz₁ hs₁=>?_)
 rw [if_neg (by decide)]
 refine wpAny_bind ?_
 rw [<- Array.forIn_toList]
 simp only [List.forIn_cons,List.forIn_nil]
 refine wpAny_bind (wpAny_bind (wpAny_holding ?_))
 show wpAny _ _ (Builtin.SmallTypes.nextOf (.ref i1) >>= _) _ _ _
 refine wpAny_bind (wpAny_nextOf_list_end hh (h1.extBut hs₁.extBut D.i1z) (hl1.extBut hs₁.extBut D.l1z) hx fun h₂ e hs₂ he=>?_)
 obtain ⟨oe,hoe,hce⟩:=he
 show wpAny _ _ (isInstance (.ref e) (.type "StopIteration") >>= _) _ _ _
 refine wpAny_bind (wpAny_isInstance (T:="StopIteration") (b:=true) ⟨oe,hoe,hce⟩ isSubtype_stop ?_)
 exact wpAny_pure (hQ _ fun b o b1 b2 b3 e=>hs₂ _ _ b2 (hs₁.extBut _ _ b1 e))
end
section
variable {prog:Program} {w:World} {A:Around} {E:Value->Shared->Prop} {R:Result->Shared->Prop}
theorem Fe:plainId "dict.update.loop"=true:=by decide +kernel
theorem Kk:entryFor table "dict.update.loop"=some Builtin.«dict.update.loop»:=entryFor_of_tree (by kernel_rfl)
structure DzA (d z TI TO i1 i2 l1 l2:Addr):Prop where
 za:ZipApart z TI TO i1 i2 l1 l2
 dz:d≠z
 dI:d≠TI
 dO:d≠TO
 d1:d≠i1
 d2:d≠i2
 dl:d≠l1
 dm:d≠l2
end
theorem J2:∀ {xs:List V}{us:List Value},xs.length=us.length->(∀ (i:Nat) x u,xs[i]?=some x->us[i]?=some u->Bk x u)->A6 xs us
 | [],[],_,_=>.nil
 | x::xs,u::us,hl,h=>.cons (h 0 x u rfl rfl) (J2 (Nat.succ.inj hl) fun i y v e1 e2=>h (i+1) y v e1 e2)
section
variable {X:Cx}
def rY (ta:TA):TE:=fun σ H Q=>ta σ H fun vs H1=>∃ j:Nat,vs=[.int j]/\j<=100000/\∀ p,H1 p=none->Q (.ref p) (upd H1 p (.lst ((List.range j).map fun i:Nat=>V.int i)))
theorem gY {a:Expr}{ta:TA}{p q pos pos2:Pos}(hcal:X.calm=true)(hg:Gl X "list")(hm:X.mg "list"=none)(hg2:Gl X "range")(hm2:X.mg "range"=none)(ha:PA X [a] ta)
  (hs:starEach [a] X.env=[(false,eval a X.env)]:=by rfl)
  (hs3:starEach [Expr.Call (.Name "range" q) [a] [] pos2] X.env=[(false,eval (.Call (.Name "range" q) [a] [] pos2) X.env)]:=by rfl) :
  PE X (.Call (.Name "list" p) [.Call (.Name "range" q) [a] [] pos2] [] pos) (rY ta):=by
 intro pins s σ H Q I h
 refine wpAny_Call_Name_kw (Ei I hg hm Kl (PyProof.Rows.callWith_type1 ?_ hs3 rfl) (by decide) (by decide))
 rw [hs3]
 refine Calls.spliced_cons ?_
 show wpAny _ _ (eval (Expr.Call (.Name "range" q) [a] [] pos2) X.env) _ _ _
 refine wpAny_Call_Name_kw (Ei I hg2 hm2 boot_range (PyProof.Rows.callWith_type1 (thn (ha pos2 pins s σ H _ I h) fun us s1 ⟨vs,H1,I1,r1,q1⟩=>?_) hs rfl) (by decide) (by decide))
 obtain ⟨j,e,hj,q⟩:=q1
 subst e
 obtain ⟨u,rfl,t,rfl⟩:=Gc r1
 refine call_range_1 (Calls.spliced_nil ?_)
 have e2:Builtin.Range.rangeSize 0 (j:Int) 1=j:=by rw [rangeSize_one];split<;>omega
 refine call_list_range (I1.ok.hd hcal) (IsRange.new ..) (small_one (by omega) (by omega) (by omega) (by omega)) e2 (by omega) fun h' tk acc c kp ho it=>?_
 have hv:A6 ((List.range j).map fun i:Nat=>V.int i) acc.toList:=J2 (by rw [List.length_map,List.length_range,Array.length_toList,it.1]) fun i x u e1 e3=>by
  have hi:i<j:=by have:=(List.getElem?_eq_some_iff.mp e1).1;simpa using this
  rw [List.getElem?_map,List.getElem?_range hi] at e1
  cases e1
  have e4:acc[i]?=some u:=by rw [<- Array.getElem?_toList];exact e3
  obtain ⟨t,e5⟩:=it.2 i u e4
  exact ⟨t,by rw [e5];simp⟩
 have up:∀ b o,s1.heap.get? b=some o->h'.get? b=some o:=fun b o e=>kp _ _ (Heap.get?_push_of_some _ e)
 have hle:s1.heap.objs.size<=(s1.heap.push { cls:=.type "range",data:=.fields #[.int 0 s1.toks,.int j t,.int 1 (s1.toks+1)] }).objs.size:=by rw [Heap.size_push];omega
 refine ⟨.ref _,_,I1.laid (t':=tk) (o:=.lst _) up hle ⟨?_,acc.toList,c,hv,ho⟩,rfl,q _ (I1.hok.fresh hle)⟩
 rw [List.length_map,List.length_range]
 exact Nat.le_of_lt (Nat.lt_of_le_of_lt hj (by decide))
theorem uM {σ:St}{H:Hp}{Q:VK}{ta:TA}(h:ta σ H fun vs H1=>∃ j:Nat,vs=[.int j]/\j<=100000/\∀ p,H1 p=none->Q (.ref p) (upd H1 p (.lst ((List.range j).map fun i:Nat=>V.int i)))):rY ta σ H Q:=h
end
section
variable {σ:St} {H:Hp}
theorem pD {n j:Nat}(h:j<n):ixN n (j:Int)=some j:=by
 unfold ixN
 rw [if_pos (by omega),if_pos (by omega)]
 simp
theorem jZ {p:Addr}{xs:List V}{j:Nat}{i:Int}{v:V}{R:Hp->Prop}(h:H p=some (.lst xs))(hi:i=j)(hj:j<xs.length)(q:R (upd H p (.lst (xs.set j v)))):rG (.ref p) (.int i) v H R :=
 ⟨p,xs,i,j,rfl,rfl,h,by rw [hi];exact pD hj,q⟩
end
section
variable {κ:Type} [DecidableEq κ]
def Zq (kvs:List (κ×V))(k:κ)(v:V):List (κ×V) :=
 if (kvs.any fun kv=>decide (kv.1=k))=true then kvs.map (fun kv=>if kv.1=k then (kv.1,v) else kv) else kvs++[(k,v)]
theorem bM (kvs:List (κ×V))(k:κ)(v:V):(Zq kvs k v).length<=kvs.length+1:=by
 unfold Zq
 split
 ·rw [List.length_map];omega
 ·rw [List.length_append,List.length_cons,List.length_nil];omega
theorem KV.any {kvs:List (κ×V)}{vs:List (κ×Value)}(r:KV kvs vs)(k:κ):(kvs.any fun kv=>decide (kv.1=k))=vs.any fun kv=>decide (kv.1=k):=by
 unfold KV at r
 induction r with
 | nil=>rfl
 | cons h t ih=>rw [List.any_cons,List.any_cons,ih,h.1]
theorem KV.repl {kvs:List (κ×V)}{vs:List (κ×Value)}(r:KV kvs vs)(k:κ){y:V}{u:Value}(ry:Bk y u) :
  KV (kvs.map fun kv=>if kv.1=k then (kv.1,y) else kv) (vs.map fun kv=>if kv.1=k then (kv.1,u) else kv):=by
 unfold KV at r ⊢
 induction r with
 | nil=>exact .nil
 | @cons p q ps qs h t ih =>
  rw [List.map_cons,List.map_cons]
  refine .cons ?_ ih
  obtain ⟨h1,h2⟩:=h
  by_cases e:p.1=k
  ·rw [if_pos e,if_pos (h1.symm.trans e)];exact ⟨h1,ry⟩
  ·rw [if_neg e,if_neg (fun z=>e (h1.trans z))];exact ⟨h1,h2⟩
theorem KV.put {kvs:List (κ×V)}{vs:List (κ×Value)}(r:KV kvs vs)(k:κ){y:V}{u:Value}(ry:Bk y u):KV (Zq kvs k y) (stored vs k u):=by
 unfold Zq stored
 rw [r.any k]
 by_cases e:(vs.any fun kv=>decide (kv.1=k))=true
 ·rw [if_pos e,if_pos e];exact r.repl k ry
 ·rw [if_neg e,if_neg e];exact Paired.snoc r ⟨rfl,ry⟩
end
section
variable {X:Cx} {pins:List (Addr×Obj)} {σ:St} {H:Hp} {s:Shared} {a:Addr} {y v:V} {u r:Value} {o:Option V} {A:Around} {E:Value->Shared->Prop}
end
end L2
end
section
namespace TW
end TW
end
section
namespace L2
open PySem PySem.Spec PyProof.Rows
def Z2 (vs:List (Key×Value)):List Int->List Value->List (Key×Value)
 | k::ks,u::us=>Z2 (stored vs (.inl k) u) ks us
 | _,_=>vs
theorem mB {vs:List (Key×Value)}:∀ (ks:List Int),Z2 vs ks []=vs
 | []=>rfl
 | _::_=>rfl
theorem oR {vs:List (Key×Value)}{ks:List Int}{us:List Value}{i:Nat}{n:Int}{u:Value}(h1:ks[i]?=some n)(h2:us[i]?=some u):Z2 vs (ks.drop i) (us.drop i)=Z2 (stored vs (.inl n) u) (ks.drop (i+1)) (us.drop (i+1)):=by
 obtain ⟨l1,e1⟩:=List.getElem?_eq_some_iff.mp h1
 obtain ⟨l2,e2⟩:=List.getElem?_eq_some_iff.mp h2
 rw [List.drop_eq_getElem_cons l1,List.drop_eq_getElem_cons l2,e1,e2]
 rfl
def U6 (kvs:List (Key×V)):List Int->List V->List (Key×V)
 | k::ks,y::ys=>U6 (Zq kvs (.inl k) y) ks ys
 | _,_=>kvs
theorem oN:∀ {ks:List Int}{ys:List V}{us:List Value}{kvs:List (Key×V)}{vs:List (Key×Value)},KV kvs vs->A6 ys us->KV (U6 kvs ks ys) (Z2 vs ks us)
 | [],_,_,_,_,h,_=>h
 | _::_,_,_,_,_,h,.nil=>h
 | k::ks,y::ys,u::us,kvs,vs,h,.cons r t=>by
  show KV (U6 (Zq kvs (.inl k) y) ks ys) (Z2 (stored vs (.inl k) u) ks us)
  exact oN (h.put (.inl k) r) t
end L2
end
section
namespace TW
section
variable {α:Type} (lt:α->α->Bool)
variable {lt}
variable (lt)
theorem oE {P:List α->Prop}(h0:P [])(h1:∀ l x,P l->P (l++[x]))(l:List α):P l:=by
 have key:∀ n,∀ l:List α,l.length=n->P l:=fun n=>by
  induction n with
  | zero=>intro l h;rw [List.length_eq_zero_iff.mp h];exact h0
  | succ n ih =>
   intro l h
   have hne:l≠[]:=fun e=>by rw [e] at h;cases h
   rw [<- List.dropLast_concat_getLast hne]
   exact h1 _ _ (ih _ (by rw [List.length_dropLast];omega))
 exact key _ l rfl
variable {lt}
end
end TW
end
section
namespace L2
open PySem PySem.Spec PyProof.Rows TW
def Tp (N H:Hp):Hp:=fun b=>match N b with | some o=>some o | none=>H b
theorem Kq {N H:Hp}{b:Addr}{o:HO}(h:N b=some o):Tp N H b=some o:=by unfold Tp;rw [h]
theorem Ga {N H:Hp}{b:Addr}(h:N b=none):Tp N H b=H b:=by unfold Tp;rw [h]
def X1 (oc:Obj)(qual:Str):Prop:=∃ vs t,oc.data=.fields vs/\vs[1]?=some (.str qual t)
def Sh (H:Hp)(P:Addr)(pos:Pos)(qual:Str):Prop:=∃ ps:Array Value,H P=some (.tbl ps)/\TriplesOk ps.toList/\(codeAmong pos ps.toList=none\/∃ c' oc,codeAmong pos ps.toList=some (.ref c')/\H c'=some (.frz oc (.own 0))/\X1 oc qual)
section
variable {X:Cx} {pins:List (Addr×Obj)} {σ:St} {H:Hp} {s:Shared}
theorem Inv.grown {P:Addr}{ps more:Array Value}{N:Hp}{h':Heap}{t':Nat}(I:Inv X pins σ H s)(hP:H P=some (.tbl ps))(k:∀ b u,b≠P->s.heap.get? b=some u->h'.get? b=some u)(hT:h'.get? P=some (PySem.W.tabObj (ps++more)))
  (hp:∀ b o,N b=some o->s.heap.objs.size<=b)(new:∀ b o,N b=some o->Eh X.prog X.w (Tp N (upd H P (.tbl (ps++more)))) h' b o):Inv X pins σ (Tp N (upd H P (.tbl (ps++more)))) { s with heap:=h',toks:=t' }:=by
 have hlt:P<s.heap.objs.size:=(I.hok P _ hP).lt
 have hNP:N P=none:=by
  cases e:N P with
  | none=>rfl
  | some o=>exact absurd hlt (Nat.not_lt.mpr (hp P o e))
 have hn:∀ b o,N b=some o->H b=none:=fun b o e=>I.hok.fresh (hp b o e)
 have old:∀ b u,s.heap.get? b=some u->N b=none:=fun b u e=>by
  cases hN:N b with
  | none=>rfl
  | some o=>exact absurd (Heap.lt_size e) (Nat.not_lt.mpr (hp b o hN))
 have sm:∀ b o,b≠P->H b=some o->Tp N (upd H P (.tbl (ps++more))) b=some o:=fun b o hb e=>by
  have:N b=none:=by
   cases hN:N b with
   | none=>rfl
   | some u=>rw [hn b u hN] at e;cases e
  rw [Ga this,Ap hb]
  exact e
 have neP:∀ b,H b=none->b≠P:=fun b e z=>by rw [z,hP] at e;cases e
 refine I.un ⟨fun b u q n _ _=>k b u (neP b n) q,fun b u q n _ _=>⟨u.slots,k b u (neP b n) q⟩,fun b u q n _=>by rw [Ga (old b u q),Ap (neP b n)];exact n,fun b u q _=>?_,fun b xs q=>sm _ _ (fun z=>by rw [z,hP] at q;cases q) q,fun b u xs q=>sm _ _ (fun z=>by rw [z,hP] at q;cases q) q,fun b qs q=>?_⟩ fun b o e=>?_
 ·by_cases hb:b=P
  ·rw [hb];exact ⟨_,hT⟩
  ·exact ⟨u,k b u hb q⟩
 ·by_cases hb:b=P
  ·rw [hb,hP] at q
   cases q
   exact ⟨more,by rw [hb,Ga hNP,Ac]⟩
  ·exact ⟨#[],by rw [sm b _ hb q];simp⟩
 ·cases hN:N b with
  | some u =>
   rw [Kq hN] at e
   cases e
   exact new b _ hN
  | none =>
   rw [Ga hN] at e
   by_cases hb:b=P
   ·rw [hb,Ac] at e
    cases e
    rw [hb]
    exact hT
   ·rw [Ap hb] at e
    refine (I.hok b o e).stay (fun c v hc q=>k c v (fun z=>?_) q) (fun c q=>sm _ _ (fun z=>by rw [z,hP] at q;cases q) q) fun c xs q=>sm _ _ (fun z=>by rw [z,hP] at q;cases q) q
    rcases hc with h | h
    ·exact hb (h▸z)
    ·rw [z,hP] at h;cases h
end
def Ox (P:Addr)(H H':Hp):Prop:=∀ b u,b≠P->H b=some u->H' b=some u
section
variable {X:Cx} {pins:List (Addr×Obj)} {σ:St} {H:Hp} {s:Shared} {M:Model} {A:Around} {E:Value->Shared->Prop} {Q:Value->Shared->Prop} {c P:Addr} {pos:Pos} {qual:Str} {params:Arguments} {body:Expr} {scope:Scope} {clos:List (Str×Addr)}
theorem mG (I:Inv X pins σ H s)(T:Sh H P pos qual)(C:PySem.W.CodeHd X.base c P)(hb:X.base.BuiltinsAt X.mg P)(hcode:X.env.code=.ref c)(hcl:closureFor scope X.env=pure clos)(hdef:defaultsOf params X.env=([],[]))(hq:X.env.qual++"<lambda>"=qual)
  (h:∀ (f c':Addr) (oc:Obj) (pm ctv:Value) (s':Shared) (H':Hp),Inv X pins σ H' s'->Sh H' P pos qual->Ox P H H'->H f=none->H' f=some (.frz (PySem.W.kla_obj "<lambda>" qual params body scope clos pm c' ctv) (.own 0))->H' c'=some (.frz oc (.own 0))->X1 oc qual->Q (.ref f) s') :
  wpAny M A (eval (.Lambda params body scope pos) X.env) Q E s:=by
 obtain ⟨ps,hP,ht,hc⟩:=T
 refine PySem.W.kla_eval hdef ?_
 rw [hq]
 have hPs:s.heap.get? P=some (PySem.W.tabObj ps):=I.hok P _ hP
 have hg:s.heap.Ns mainGlobals X.mg:=I.mod.glob.keeps I.bk
 have hgP:mainGlobals≠P:=fun e=>by
  obtain ⟨o,es,ep,e1,d,_⟩:=I.mod.glob
  have:=(I.bs _ _ e1).2
  rw [e,hP] at this;cases this
 have hb':s.heap.BuiltinsAt X.mg P:=by
  obtain ⟨bm,o,a1,a2,a3,a4,a5,a6⟩:=hb
  exact ⟨bm,o,a1,a2,a3,a4,I.bk _ _ a5,a6⟩
 rcases hc with hc | ⟨c',oc,hc,hc',ho⟩
 ·refine PySem.W.kla_makeFunction hcl I.ok.glob hg hcode (C.keeps I.bk) hPs ht hc hgP hb' fun c' ctv h' tk hx hge hlt hrec htb=>?_
  obtain ⟨c₂,oc,vs,t,e2,hoc,hd,hv⟩:=hrec
  cases e2
  let fo:=PySem.W.kla_obj "<lambda>" qual params body scope clos ((X.mg "__name__").getD .none) c' ctv
  let N:Hp:=fun b=>if b=h'.objs.size then some (.frz fo (.own 0)) else if b=c' then some (.frz oc (.own 0)) else none
  have n1:N h'.objs.size=some (.frz fo (.own 0)):=if_pos rfl
  have n2:N c'=some (.frz oc (.own 0)):=(if_neg (Nat.ne_of_lt hlt)).trans (if_pos rfl)
  have n3:∀ b o,N b=some o->(b=h'.objs.size/\o=.frz fo (.own 0))\/(b=c'/\o=.frz oc (.own 0)):=fun b o e=>by
   by_cases h1:b=h'.objs.size
   ·rw [h1,n1] at e;cases e;exact .inl ⟨h1,rfl⟩
   ·by_cases h2:b=c'
    ·rw [h2,n2] at e;cases e;exact .inr ⟨h2,rfl⟩
    ·have:N b=none:=(if_neg h1).trans (if_neg h2)
     rw [this] at e;cases e
  have hp:∀ b o,N b=some o->s.heap.objs.size<=b:=fun b o e=>by
   rcases n3 b o e with ⟨r,_⟩ | ⟨r,_⟩<;>rw [r]
   ·exact Nat.le_trans hge (Nat.le_of_lt hlt)
   ·exact hge
  have hNP:N P=none:=by
   cases e:N P with
   | none=>rfl
   | some o=>exact absurd (I.hok P _ hP).lt (Nat.not_lt.mpr (hp P o e))
  have gf:(h'.push fo).get? h'.objs.size=some fo:=Heap.get?_push_size _ rfl
  have gc:(h'.push fo).get? c'=some oc:=Heap.get?_push_of_some _ hoc
  have I':=Inv.grown (N:=N) (more:=#[PySem.rawInt pos.line,PySem.rawInt pos.col,.ref c']) (h':=h'.push fo) (t':=tk) I hP (fun b u hb e=>Heap.get?_push_of_some _ (hx b u hb e)) (Heap.get?_push_of_some _ htb) hp fun b o e=>by
   rcases n3 b o e with ⟨r,r'⟩ | ⟨r,r'⟩<;>rw [r,r']
   ·exact ⟨gf,_,gf⟩
   ·exact ⟨gc,_,gc⟩
  refine h _ c' oc _ ctv _ _ I' ⟨_,by rw [Ga hNP,Ac],?_,.inr ⟨c',oc,?_,Kq n2,vs,t,hd,hv⟩⟩ (fun b u hb e=>?_) (I.hok.fresh (hp _ _ n1)) (Kq n1) (Kq n2) ⟨vs,t,hd,hv⟩
  ·rw [Array.toList_append];exact TriplesOk_snoc _ _ _ _ ht
  ·rw [Array.toList_append];exact codeAmong_snoc _ ht hc
  ·have:N b=none:=by
    cases hN:N b with
    | none=>rfl
    | some o=>rw [I.hok.fresh (hp b o hN)] at e;cases e
   rw [Ga this,Ap hb];exact e
 ·refine PySem.W.kla_makeFunctionHit hcl I.ok.glob hg hcode (C.keeps I.bk) hPs ht hc hb' fun ctv h' tk hk hsz=>?_
  let fo:=PySem.W.kla_obj "<lambda>" qual params body scope clos ((X.mg "__name__").getD .none) c' ctv
  let N:Hp:=fun b=>if b=h'.objs.size then some (.frz fo (.own 0)) else none
  have n1:N h'.objs.size=some (.frz fo (.own 0)):=if_pos rfl
  have n3:∀ b o,N b=some o->b=h'.objs.size/\o=.frz fo (.own 0):=fun b o e=>by
   by_cases h1:b=h'.objs.size
   ·rw [h1,n1] at e;cases e;exact ⟨h1,rfl⟩
   ·have:N b=none:=if_neg h1
    rw [this] at e;cases e
  have hp:∀ b o,N b=some o->s.heap.objs.size<=b:=fun b o e=>by rw [(n3 b o e).1];exact hsz
  have hn:∀ b u,H b=some u->N b=none:=fun b u e=>by
   cases hN:N b with
   | none=>rfl
   | some o=>rw [I.hok.fresh (hp b o hN)] at e;cases e
  have gf:(h'.push fo).get? h'.objs.size=some fo:=Heap.get?_push_size _ rfl
  have I':=Inv.grown (N:=N) (more:=#[]) (h':=h'.push fo) (t':=tk) I hP (fun b u _ e=>Heap.get?_push_of_some _ (hk b u e)) (by rw [Array.append_empty];exact Heap.get?_push_of_some _ (hk _ _ hPs)) hp fun b o e=>by
   rw [(n3 b o e).1,(n3 b o e).2];exact ⟨gf,_,gf⟩
  rw [Array.append_empty] at I'
  have old:∀ b u,b≠P->H b=some u->Tp N (upd H P (.tbl ps)) b=some u:=fun b u hb e=>by rw [Ga (hn b u e),Ap hb];exact e
  have hcP:c'≠P:=Rt hc' hP (by intro q;cases q)
  exact h _ c' oc _ ctv _ _ I' ⟨ps,by rw [Ga (hn P _ hP),Ac],ht,.inr ⟨c',oc,hc,old _ _ hcP hc',ho⟩⟩ old (I.hok.fresh (hp _ _ n1)) (Kq n1) (old _ _ hcP hc') ho
end
open PySem.W
def Lr (o:Obj)(c P:Addr):Prop:=∃ vs file tf flags tg inF text tt,o.cls=.type "code"/\o.data=.fields vs/\vs[11]?=some (.ref P)/\vs.getD 11 .none=.ref P/\vs.getD 18 .none=.str file tf /\
  vs.getD 7 .none=.int flags tg/\vs.getD 9 .none=.bool inF/\vs.getD 10 .none=.int text tt/\c≠P
theorem Lr.at {h:Heap}{o:Obj}{c P:Addr}(x:Lr o c P)(e:h.get? c=some o):PySem.W.CodeHd h c P:=by
 obtain ⟨vs,file,tf,flags,tg,inF,text,tt,a1,a2,a3,a4,a5,a6,a7,a8,a9⟩:=x
 exact ⟨o,vs,file,tf,flags,tg,inF,text,tt,e,a1,a2,a3,a4,a5,a6,a7,a8,a9⟩
theorem dY {P:Program}{w:World}{K:PySem.W.Frag}{mg mb:Str->Option Value}{CX:CXT}{k:Nat}{fa a:Addr}{fd:FuncData}{x:Str}{sp:Sp}{s₁:Shared}{vs:List Value}{ns:List Int}{tabs:List (Addr×Addr)}
  (hT:PySem.W.TabsAt tabs s₁.heap)(hTK:∀ q∈tabs,K.lookup q.2=none)(hB:∃ bm ob,mg "__builtins__"=some (.ref bm)/\bm≠builtinsNs/\s₁.heap.get? bm=some ob/\ob.cls=.type "module"/\ob.dict=some builtinsNs/\ob.data=.plain)(KX:K.In s₁.heap)(hns:s₁.heap.Ns mainGlobals mg)(hb:s₁.heap.Ns builtinsNs mb)(hbb:∀ x:Str,x≠"__name__"->mb x=bootBuiltins x)(hlim:s₁.heap.NoLimit)(hg:s₁.gens=#[])
  (ha:s₁.heap.get? a=some { cls:=.type "list",data:=.seq vs.toArray })(hi:IntsAre vs ns)(hl:ns.length<=sizeLine)(hr:Dd k callerA)
  (F:∀ base:Heap,K.In base->base.Ns mainGlobals mg->(∀ q∈tabs,base.BuiltinsAt mg q.2)->Ax P w K mg base CX k fa fd [x] sp)(hbind:∀ (s:Shared) (u:Value),BindsTo s fd ⟨[u],[]⟩ [(x,u)])
  (hsp:∀ H:Hp,(∀ q∈tabs,H q.2=some (.tbl #[]))->SqL K H a (ns.map V.int)->sp [.ref a] H (fun v _=>v=.bl true) fun _ _ _=>False)
  (hCX:∀ H e s',CX [] H s₁ (fun _ _ _=>False) e s'->False) :
  codeAny (model P w) callerA (.call (.ref fa) ⟨[.ref a],[]⟩) (fun r s'=>r=.ok (.ret (.bool true))/\OldK s₁.heap s'.heap/\s'.os=s₁.os/\AllBare s'.gens) s₁:=by
 have rv:=T1 hi
 have tabAt:∀ b,b∈tabs.map (·.2)->s₁.heap.get? b=some (PySem.W.tabObj #[])/\K.lookup b=none/\isCodeTable s₁.heap b:=fun b hm=>by
  obtain ⟨q,hq,rfl⟩:=List.mem_map.mp hm
  exact ⟨(hT q hq).2,hTK q hq,((hT q hq).1.tab (hT q hq).2).isCodeTable⟩
 have haT:a∉tabs.map (·.2):=fun hm=>by
  have:=(tabAt a hm).1
  rw [ha] at this
  cases this
 let H:Hp:=fun b=>if b∈tabs.map (·.2) then some (.tbl #[]) else if b=a/\K.lookup a=none then some (.frz { cls:=.type "list",data:=.seq vs.toArray } (.lst (ns.map V.int))) else none
 have H1:∀ b,b∈tabs.map (·.2)->H b=some (.tbl #[]):=fun b hm=>if_pos hm
 have H2:∀ b,b∉tabs.map (·.2)->¬ (b=a/\K.lookup a=none)->H b=none:=fun b h1 h2=>(if_neg h1).trans (if_neg h2)
 have H3:K.lookup a=none->H a=some (.frz { cls:=.type "list",data:=.seq vs.toArray } (.lst (ns.map V.int))):=fun h=>(if_neg haT).trans (if_pos ⟨rfl,h⟩)
 have cases3:∀ b,(b∈tabs.map (·.2))\/(b=a/\K.lookup a=none/\b∉tabs.map (·.2))\/(H b=none):=fun b=>by
  by_cases h1:b∈tabs.map (·.2)
  ·exact .inl h1
  ·by_cases h2:b=a/\K.lookup a=none
   ·exact .inr (.inl ⟨h2.1,h2.2,h1⟩)
   ·exact .inr (.inr (H2 b h1 h2))
 have hok:HOk P w H s₁.heap:=fun b o e=>by
  rcases cases3 b with h | ⟨rfl,h1,_⟩ | h
  ·rw [H1 b h] at e
   cases e
   exact (tabAt b h).1
  ·rw [H3 h1] at e
   cases e
   exact ⟨ha,by rw [List.length_map];exact hl,vs,_,rv,ha⟩
  ·rw [h] at e
   cases e
 have noD:∀ {b:Addr} {o:Obj} {es:Array DictEntry} {ep:Nat},s₁.heap.get? b=some o->o.data=.dict es ep->H b=none:=fun {b o es ep} e d=>by
  rcases cases3 b with h | ⟨rfl,_,_⟩ | h
  ·rw [(tabAt b h).1] at e
   cases e
   have d':Data.fields #[]=Data.dict es ep:=d
   cases d'
  ·rw [ha] at e
   cases e
   have d':Data.seq vs.toArray _=Data.dict es ep:=d
   cases d'
  ·exact h
 have nsK:∀ {b:Addr} {m:Str->Option Value},s₁.heap.Ns b m->(Y8 s₁.heap H).Ns b m:=fun {b m} ⟨o,es,ep,e,d,r⟩=>⟨o,es,ep,R6 e (noD e d),d,r⟩
 have hKb:K.In (Y8 s₁.heap H):=fun b o e=>R6 (KX b o e) (by
  rcases cases3 b with h | ⟨rfl,h1,_⟩ | h
  ·rw [(tabAt b h).2.1] at e;cases e
  ·rw [h1] at e;cases e
  ·exact h)
 have hBa:∀ q∈tabs,(Y8 s₁.heap H).BuiltinsAt mg q.2:=fun q hq=>by
  obtain ⟨bm,ob,b1,b2,b3,b4,b5,b6⟩:=hB
  have n1:bm≠mainGlobals:=fun z=>by
   obtain ⟨o,es,ep,e,d,_⟩:=hns
   rw [z,e] at b3
   cases b3
   rw [d] at b6;cases b6
  have nP:bm∉tabs.map (·.2):=fun hm=>by
   have:=(tabAt bm hm).1
   rw [b3] at this
   cases this
   cases b6
  have hn:H bm=none:=by
   rcases cases3 bm with h | ⟨h,_,_⟩ | h
   ·exact absurd h nP
   ·rw [h,ha] at b3
    cases b3
    cases b6
   ·exact h
  exact ⟨bm,ob,b1,b2,n1,fun z=>nP (z▸List.mem_map_of_mem hq),R6 b3 hn,b4,b5,b6⟩
 have hM:Mod K mg (Y8 s₁.heap H):=⟨hKb,nsK hns,⟨mb,nsK hb,hbb⟩,let ⟨mc,h1,h2⟩:=hlim;⟨mc,nsK h1,h2⟩⟩
 have e0:Th P w K mg (Y8 s₁.heap H) callerA [] s₁ H:=⟨rfl,hM,fun b o e=>oO e,Nat.le_of_eq (iG _ _),trivial,fun b hb=>absurd (show b∈([]:List Addr) from hb) (by simp),hok,.of_eq hg⟩
 have hS:SqL K H a (ns.map V.int):=by
  cases hk:K.lookup a with
  | none=>exact .inl (.inr ⟨_,H3 hk⟩)
  | some o =>
   have e:=KX a o hk
   rw [ha] at e
   cases e
   exact .inr ⟨_,vs.toArray,_,hk,rfl,rfl,rfl,by rw [List.size_toArray,hi.length];exact hl,by simpa using rv⟩
 refine codeAny_mono ((F _ hKb (nsK hns) hBa).run callerA [] s₁ H ⟨[.ref a],[]⟩ [.ref a] [.ref a] _ _ hr e0 (hbind s₁ (.ref a)) (.cons rfl .nil) (hsp H (fun q hq=>H1 _ (List.mem_map_of_mem hq)) hS)) fun r s' h=>?_
 cases r with
 | error e=>exact (hCX H e s' h).elim
 | ok fl =>
  cases fl with
  | next=>exact False.elim h
  | brk=>exact False.elim h
  | cont=>exact False.elim h
  | ret u =>
   obtain ⟨v,H',os,bare,un,hok',r',q⟩:=h
   have q':v=.bl true:=q
   subst q'
   obtain rfl:u=Value.bool true:=r'
   have out:∀ b o,s₁.heap.get? b=some o->(b∈tabs.map (·.2)/\∃ more,s'.heap.get? b=some (PySem.W.tabObj more))\/s'.heap.get? b=some o:=fun b o e=>by
    rcases cases3 b with h | ⟨rfl,h1,_⟩ | h
    ·obtain ⟨more,hm⟩:=un.tbls b _ (H1 b h)
     exact .inl ⟨h,_,hok' b _ hm⟩
    ·obtain ⟨e2,_⟩:=hok' _ _ (un.frzs _ _ _ (H3 h1))
     rw [ha] at e
     cases e
     exact .inr e2
    ·exact .inr (un.keep b o e h (by intro z;exact absurd (show b∈([]:List Addr) from z) (by simp)) (by simp))
   refine ⟨rfl,⟨fun b o e=>?_,fun b o e=>?_⟩,os,bare⟩
   ·rcases out b o e with ⟨h,more,hm⟩ | h
    ·have e1:=(tabAt b h).1
     rw [e] at e1
     cases e1
     exact .inr (.inl ⟨(tabAt b h).2.2,rfl,#[],more,rfl,by rw [Array.empty_append];exact hm⟩)
    ·exact .inl h
   ·rcases out b o e with ⟨_,more,hm⟩ | h
    ·exact ⟨_,hm⟩
    ·exact ⟨o,h⟩
theorem gS {l:PySem.W.OpenLaw}{n k:Nat}{q:Program}{loose:List Str}{XP:(Str->Option Value)->Heap->Prop}{YP:World->Heap->Prop}{d:DefRec}{K:Params->PySem.W.Frag}{CX:World->CXT}{sp:World->Sp}{x:Str}{tabs:List (Addr×Addr)}
  (hn:l.most=some n)(hn2:n<=sizeLine)(hdf:d.params.defaults=[])(hr:Dd k callerA)
  (hY:∀ (w:World) (h:Heap),YP w h->(K w.params).In h)(hTb:∀ (w:World) (h:Heap),YP w h->PySem.W.TabsAt tabs h)(hTK:∀ w:World,∀ p∈tabs,(K w.params).lookup p.2=none)
  (F:∀ (w:World) (mg:Str->Option Value) (fa:Addr) (h:Heap),(K w.params).In h->h.Ns mainGlobals mg->mg d.name=some (.ref fa) ->
   ∃ fd:FuncData,(∀ (s:Shared) (u:Value),BindsTo s fd ⟨[u],[]⟩ [(x,u)]) /\
    ∀ base:Heap,(K w.params).In base->base.Ns mainGlobals mg->(∀ q∈tabs,base.BuiltinsAt mg q.2)->Ax l.prog w (K w.params) mg base (CX w) k fa fd [x] (sp w))
  (hsp:∀ (w:World) (H:Hp) (a:Addr) (ns:List Int),ns.length<=n->(∀ p∈tabs,H p.2=some (.tbl #[]))->SqL (K w.params) H a (ns.map V.int)->sp w [.ref a] H (fun v _=>v=.bl true) fun _ _ _=>False)
  (hCX:∀ (w:World) (H:Hp) (s:Shared) (e:Value) (s':Shared),CX w [] H s (fun _ _ _=>False) e s'->False) :
  PySem.W.WalkO q loose XP YP l.row.toRowW d [] (fun f vs=>PySem.call f vs):=by
 refine Att.attach_call hn hdf fun w s₀ s₁ mg mb fa o pm cd doc a vs ns G Y ho hd hcd hmg hobj hints hlen hg=>?_
 have KX:=hY w _ Y
 obtain ⟨fd,hb,hF⟩:=F w mg fa _ KX G.T.g hmg
 exact dY (hTb w _ Y) (hTK w) G.T.bmain KX G.T.g G.T.b G.T.builtins G.T.nolimit hg hobj hints (Nat.le_trans hlen hn2) hr hF hb (fun H hO hS=>hsp w H a ns hlen hO hS) fun H e s'=>hCX w H s₁ e s'
structure Zt (K:PySem.W.Frag) (x qual:Str) (st:Stmt) (f:Addr) (fd:FuncData) (c P:Addr):Prop where
 ex:∃ (oc:Value) (od:Option Addr) (kV doc pm:Value) (an:Option Addr) (ct:Value) (osl:Array (Option Value)),
  fd=PySem.W.fnOf x qual (C4 st) (Ch st) (Ad st) .none kV doc pm an (.ref c) ct/\K.lookup f=some ⟨oc,od,.func fd,osl⟩/\PySem.W.codeIn K (.ref c) qual=true
 kp:PySem.W.keepIn K (.ref f)=true
 hd:∃ oc,K.lookup c=some oc/\Lr oc c P
section
variable {P:Program} {w:World} {K:PySem.W.Frag} {mg:Str->Option Value} {base:Heap}
theorem Zt.ok {x qual:Str}{st:Stmt}{f c Pt:Addr}{fd:FuncData}{N ps:List Str}{k:Nat}{sp:Sp}(F:Zt K x qual st f fd c Pt)(S:Ai N ps (Ad st))(len:∀ vs H Q E,sp vs H Q E->vs.length=ps.length)
  (hbody:∀ (A:Around) (outer:List Env) (s:Shared) (H:Hp) (vs:List V) (Q:VK) (E:XK),Dd k (A.deeper (envOfC qual (Ad st) s.heap.objs.size f (.ref c)))->sp vs H Q E ->
   ∃ t,PSs (cY CX0 P w K mg base N qual (Ad st) f (.ref c) A outer s H E).nox (Ch st) t/\t { nx:=fun _ H'=>Q .non H',rt:=Q } (Mp N vs) H):Ax P w K mg base CX0 (k+1) f fd ps sp:=by
 obtain ⟨oc,od,kV,doc,pm,an,ct,osl,rfl,lk,hcd⟩:=F.ex
 refine rF lk hcd S len fun A outer s H vs Q E hr hsp=>?_
 obtain ⟨t,h,q⟩:=hbody A outer s H vs Q E hr hsp
 exact ⟨t,h.nox,q⟩
theorem Zt.code {x qual:Str}{st:Stmt}{f c Pt:Addr}{fd:FuncData}(F:Zt K x qual st f fd c Pt)(hK:K.In base):PySem.W.CodeHd base c Pt:=let ⟨oc,e,h⟩:=F.hd;h.at (hK _ _ e)
theorem Zt.binds {x qual:Str}{st:Stmt}{f c Pt:Addr}{fd:FuncData}{ps:List Str}(F:Zt K x qual st f fd c Pt)
  (h:∀ (kV doc pm:Value) (an:Option Addr) (cdv ct:Value) (us:List Value),us.length=ps.length->bindArgs (PySem.W.fnOf x qual (C4 st) (Ch st) (Ad st) .none kV doc pm an cdv ct) ⟨us,[]⟩=pure (ps.zip us)):Gp K fd ps []:=by
 obtain ⟨oc,od,kV,doc,pm,an,ct,osl,rfl,lk,hcd⟩:=F.ex
 exact .all (h kV doc pm an (.ref c) ct)
theorem oV {x qual:Str}{st:Stmt}{f c Pt:Addr}{oc:Value}{od an:Option Addr}{osl:Array (Option Value)}{kV doc pm ct:Value}{oo:Obj}(l:K.lookup f=some ⟨oc,od,.func (PySem.W.fnOf x qual (C4 st) (Ch st) (Ad st) .none kV doc pm an (.ref c) ct),osl⟩)
  (cc:PySem.W.codeIn K (.ref c) qual=true)(k:PySem.W.keepIn K (.ref f)=true)(lc:K.lookup c=some oo)(hc:Lr oo c Pt):Zt K x qual st f (PySem.W.fnOf x qual (C4 st) (Ch st) (Ad st) .none kV doc pm an (.ref c) ct) c Pt:=⟨⟨oc,od,kV,doc,pm,an,ct,osl,rfl,l,cc⟩,k,oo,lc,hc⟩
end
def InC (cl:List (Str×Addr))(b:Addr):Prop:=∃ x,cl.lookup x=some b
open Classical in
noncomputable def Im (H:Hp) (cl:List (Str×Addr)):Hp:=fun b=>if InC cl b then none else H b
open Classical in
noncomputable def Iv (H:Hp) (h:Heap) (cl:List (Str×Addr)):Hp:=fun b=>if InC cl b then (h.get? b).map fun o=>.frz o (.own 0) else H b
theorem K1 {H:Hp}{cl:List (Str×Addr)}{b:Addr}(h:InC cl b):Im H cl b=none:=if_pos h
theorem Fx {H:Hp}{cl:List (Str×Addr)}{b:Addr}(h:¬ InC cl b):Im H cl b=H b:=if_neg h
theorem Mx {H:Hp}{h:Heap}{cl:List (Str×Addr)}{b:Addr}{o:Obj}(hb:InC cl b)(e:h.get? b=some o):Iv H h cl b=some (.frz o (.own 0)):=by
 unfold Iv
 rw [if_pos hb,e]
 rfl
theorem Cu {H:Hp}{h:Heap}{cl:List (Str×Addr)}{b:Addr}(hb:¬ InC cl b):Iv H h cl b=H b:=if_neg hb
theorem E3 {H:Hp}{cl:List (Str×Addr)}{b:Addr}(h:H b=none):Im H cl b=none:=by
 by_cases hb:InC cl b
 ·exact K1 hb
 ·rw [Fx hb];exact h
theorem cB {H:Hp}{cl:List (Str×Addr)}{b:Addr}{o:HO}(h:Im H cl b=some o):¬ InC cl b/\H b=some o:=by
 by_cases hb:InC cl b
 ·rw [K1 hb] at h;cases h
 ·rw [Fx hb] at h;exact ⟨hb,h⟩
theorem Zn {P:Program}{w:World}{H:Hp}{h:Heap}{cl:List (Str×Addr)}(hk:HOk P w H h)(hc:∀ b,InC cl b->∃ o u,H b=some (.frz o u)):HOk P w (Im H cl) h:=fun b o e=>by
 obtain ⟨hb,e⟩:=cB e
 refine (hk b o e).stay (fun _ _ _ q=>q) (fun c q=>?_) fun c xs q=>?_
 ·rw [Fx fun z=>?_]
  ·exact q
  ·obtain ⟨o,u,e⟩:=hc c z
   rw [q] at e;cases e
 ·rw [Fx fun z=>?_]
  ·exact q
  ·obtain ⟨o,u,e⟩:=hc c z
   rw [q] at e;cases e
theorem aL {P:Program}{w:World}{H:Hp}{h:Heap}{cl:List (Str×Addr)}(hk:HOk P w H h)(hn:∀ b,InC cl b->H b=none):HOk P w (Iv H h cl) h:=fun b o e=>by
 by_cases hb:InC cl b
 ·unfold Iv at e
  rw [if_pos hb] at e
  cases g:h.get? b with
  | none=>rw [g] at e;cases e
  | some ob =>
   rw [g] at e
   cases e
   exact ⟨g,_,g⟩
 ·rw [Cu hb] at e
  refine (hk b o e).stay (fun _ _ _ q=>q) (fun c q=>?_) fun c xs q=>?_
  ·rw [Cu fun z=>by rw [hn c z] at q;cases q];exact q
  ·rw [Cu fun z=>by rw [hn c z] at q;cases q];exact q
def Zg (P:Program)(w:World)(K:PySem.W.Frag)(mg:Str->Option Value)(base:Heap)(k:Nat)(H:Hp)(f:Addr)(dom:Int->Prop)(p:Int->Bool):Prop :=
 (∃ oc od fd sl u,H f=some (.frz ⟨oc,od,.func fd,sl⟩ u))/\∀ (A:Around) (outer:List Env) (s:Shared) (H1:Hp) (i:Int) (t:Tok),Dd k A->Th P w K mg base A outer s H1->Al H H1->dom i ->
  codeAny (model P w) A (.call (.ref f) ⟨[.int i t],[]⟩) (CR CX0 outer P w H1 s (fun v H2=>v=.bl (p i)/\Al H1 H2) E0) s
theorem Zg.same {P:Program}{w:World}{K:PySem.W.Frag}{mg:Str->Option Value}{base:Heap}{k:Nat}{H H':Hp}{f:Addr}{dom:Int->Prop}{p:Int->Bool}(a:Zg P w K mg base k H f dom p)(s:Al H H'):Zg P w K mg base k H' f dom p :=
 ⟨let ⟨oc,od,fd,sl,u,e⟩:=a.1;⟨oc,od,fd,sl,u,s _ _ e⟩,fun A outer st H1 i t hr e0 sm hd=>a.2 A outer st H1 i t hr e0 (fun b o e=>sm _ _ (s _ _ e)) hd⟩
section
variable {X:Cx} {x:Str} {i:Nat} {k:Nat} {a:Expr} {ta:TE} {q pos:Pos}
def xF (P:Program)(w:World)(K:PySem.W.Frag)(mg:Str->Option Value)(base:Heap)(k i:Nat)(ta:TE):TE:=fun σ H Q=>∃ (f:Addr) (dom:Int->Prop) (p:Int->Bool),σ[i]?=some (some (.ref f))/\Zg P w K mg base k H f dom p /\
 ta σ H fun v H1=>cU σ H1 fun vs H2=>∃ z:Int,v::vs=[.int z]/\Al H H2/\dom z/\∀ H3,Al H2 H3->Q (.bl (p z)) H3
theorem yE {P:Program}{w:World}{K:PySem.W.Frag}{mg:Str->Option Value}{base:Heap}{σ:St}{H:Hp}{Q:VK}(h:∃ (f:Addr) (dom:Int->Prop) (p:Int->Bool),σ[i]?=some (some (.ref f))/\Zg P w K mg base k H f dom p /\
 ta σ H fun v H1=>cU σ H1 fun vs H2=>∃ z:Int,v::vs=[.int z]/\Al H H2/\dom z/\∀ H3,Al H2 H3->Q (.bl (p z)) H3):xF P w K mg base k i ta σ H Q:=h
theorem uI (hr:Dd k X.A)(hN:X.N[i]?=some x)(hv:X.env.scope.names.lookup x=some .local)(ha:PE X a ta)(hdb:(x==("__debug__":Str))=false:=by decide)(hcd:(x==("__classdict__":Str))=false:=by decide)
  (he:starEach [a] X.env=[(false,eval a X.env)]:=by rfl) :
  PE X (.Call (.Name x q) [a] [] pos) (xF X.prog X.w X.K X.mg X.base k i ta):=by
 intro pins s σ H Q I ⟨f,dom,p,hσ,hA,h⟩
 have hn:PE X (.Name x q) (qA i):=lL hN (.inl hv) hdb hcd
 refine wpAny_Call_Name_kw (thn (hn pins s σ H (fun v H1=>v=.ref f/\H1=H) I ⟨_,hσ,rfl,rfl⟩) fun u s0 ⟨v0,H0,I0,r0,e0,e1⟩=>?_)
 subst e0 e1
 obtain rfl:u=Value.ref f:=r0
 have fnAt:∀ {s':Shared} {H':Hp},Inv X pins σ H' s'->Al H0 H'->PySem.W.FnAt f s'.heap:=fun I' sm=>by
  obtain ⟨oc,od,fd,sl,u,e⟩:=hA.1
  exact ⟨oc,od,fd,sl,(I'.hok _ _ (sm _ _ e)).1⟩
 have hp:PA X [a] (fI ta cU):=fE ha Aa he
 refine PySem.W.callWith_F (fnAt I0 (fun _ _ e=>e)) (thn (hp pos pins s0 σ H0 (fun vs H1=>∃ z:Int,vs=[.int z]/\Al H0 H1/\dom z/\∀ H3,Al H1 H3->Q (.bl (p z)) H3) I0 ?_) fun us s1 ⟨vs,H1,I1,r1,z,e1,sm,hz,q1⟩=>⟨fnAt I1 sm,?_⟩) he rfl
 ·exact h
 subst e1
 obtain ⟨u,rfl,t,rfl⟩:=Gc r1
 refine wpAny_call (codeAny_mono (hA.2 X.A X.stack s1 H1 z t hr I1.env0 sm hz) fun r s' hq=>?_)
 cases r with
 | error e=>exact hq.elim
 | ok fl =>
  cases fl with
  | ret u =>
   obtain ⟨v,H',os,bare,un,hok,r,e2,sm2⟩:=hq
   subst e2
   exact I1.after ⟨_,H',os,bare,un,hok,r,q1 _ sm2⟩
  | next=>exact False.elim hq
  | brk=>exact False.elim hq
  | cont=>exact False.elim hq
end
abbrev iQ (qual:Str)(scope:Scope)(cl:List (Str×Addr))(C f:Addr)(cd:Value):Env:=newEnv scope C mainGlobals cl (qual++Str.ofString ".<locals>.") (some f) cd none builtinsNs
def T8 (P:Program)(w:World)(K:PySem.W.Frag)(mg:Str->Option Value)(base:Heap)(N:List Str)(qual:Str)(scope:Scope)(cl:List (Str×Addr))(f:Addr)(cd:Value)(A:Around)(outer:List Env)(s:Shared)(H:Hp):Cx where
 prog:=P
 w:=w
 K:=K
 mg:=mg
 base:=base
 A:=A.deeper (iQ qual scope cl s.heap.objs.size f cd)
 N:=N
 s₀:=s
 H₀:=H
 env:=iQ qual scope cl s.heap.objs.size f cd
 outer:=outer
 stack:=iQ qual scope cl s.heap.objs.size f cd::outer
 ex:=[]
 fn:=fun _=>false
 calm:=true
 pn:=[]
 xe:=fun _ _=>False
section
variable {P:Program} {w:World} {K:PySem.W.Frag} {mg:Str->Option Value} {base:Heap}
theorem pK {N N₀:List Str}{sc₀ scope:Scope}{x:Str}{ix:List Nat}{qual:Str}{cl:List (Str×Addr)}{f:Addr}{cd:Value}{A:Around}{outer:List Env}{s:Shared}{H1:Hp}{σ:St}{h₁:Heap}{tk:Nat}{v0:V}{u0:Value}{k:Nat}
  (L:Bq N₀ sc₀ scope x N ix)(hr:Dd (k+1) A)(e0:Th P w K mg base A outer s H1)
  (hinj:∀ y z c,cl.lookup y=some c->cl.lookup z=some c->y=z)(hhas:∀ y,(y,NameKind.free)∈scope.names->∃ c,cl.lookup y=some c)
  (hcs:∀ y c,cl.lookup y=some c->∃ o v,H1 c=some (.frz o (.own 0))/\o.data=.cell v)
  (hval:∀ y j v,(y,j)∈N.tail.zip ix->σ[j]?=some (some v)->∃ c o u,cl.lookup y=some c/\H1 c=some (.frz o (.own 0))/\o.data=.cell (some u)/\Bk v u)
  (hr0:Bk v0 u0)(hns:h₁.Ns s.heap.objs.size fun z=>List.lookup z [(x,u0)].reverse)(hk:∀ b o,s.heap.get? b=some o->h₁.get? b=some o) :
  Inv (T8 P w K mg base N qual scope cl f cd A outer s (Im H1 cl)) [] (some v0::frV σ ix) (Im H1 cl) { s with heap:=h₁,toks:=tk }:=by
 have noA:∀ b:Addr,b∉(T8 P w K mg base N qual scope cl f cd A outer s (Im H1 cl)).ex:=fun b z=>absurd (show b∈([]:List Addr) from z) (by simp)
 have kf:∀ y,scope.names.lookup y≠some .cell:=fun y e=>L.nocell _ (PySem.mem_of_lookup e) rfl
 refine ⟨⟨e0.mod,L.kind,rfl,rfl,Nat.le_refl _,fun y z c h1 h2=>hinj y z c h1 h2,fun y hy=>?_,fun y c z _=>?_,fun _=>(hr.deeper _).hd,Around.frames_deeper e0.frames,.inr ⟨rfl,rfl⟩,fun b z=>absurd z (noA b),fun b o e=>⟨(e0.bs b o e).1,E3 (e0.bs b o e).2⟩,e0.bsz,fun b _ _=>noA b,fun b z=>absurd z (noA b),e0.funs,fun b hb=>E3 (e0.frf b hb)⟩,
  rfl,e0.bare,Un.kept hk,⟨_,hns,fun i y v h1 h2 h3=>?_⟩,fun y c e=>?_,E3 (e0.hok.fresh (Nat.le_refl _)),fun y c e=>K1 ⟨y,e⟩,fun p hp=>absurd (show p∈([]:List (Addr×Obj)) from hp) (by simp),?_,?_⟩
 ·have hy:scope.names.lookup y=some .cell\/scope.names.lookup y=some .free:=hy
  rcases hy with hy | hy
  ·exact absurd hy (kf y)
  ·exact hhas y (PySem.mem_of_lookup hy)
 ·cases (show false=true from z)
 ·cases i with
  | zero =>
   have h1:N[0]?=some y:=h1
   have h2:some (some v0)=some (some v):=h2
   cases h2
   have hx:N[0]?=some x:=by have:=L.hd;rwa [List.head?_eq_getElem?] at this
   rw [h1] at hx
   cases hx
   exact ⟨u0,hr0,.inl ⟨L.loc,by simp⟩⟩
  | succ j =>
   have h1:N[j+1]?=some y:=h1
   have h2:(frV σ ix)[j]?=some (some v):=h2
   unfold frV at h2
   rw [List.getElem?_map] at h2
   cases hj:ix[j]? with
   | none=>rw [hj] at h2;cases h2
   | some m =>
    rw [hj] at h2
    have h2:(σ[m]?).getD none=some v:=Option.some.inj h2
    have h2':σ[m]?=some (some v):=by
     cases e:σ[m]? with
     | none=>rw [e] at h2;cases h2
     | some z=>rw [e] at h2;exact congrArg some h2
    have ht:N.tail[j]?=some y:=by rw [List.getElem?_tail];exact h1
    have hz:(y,m)∈N.tail.zip ix:=List.mem_of_getElem? (i:=j) (by rw [List.getElem?_zip_eq_some];exact ⟨ht,hj⟩)
    obtain ⟨c,o,u,e1,e2,e3,r⟩:=hval y m v hz h2'
    exact ⟨u,r,.inr ⟨.inr (L.at_ _ hz).2,c,e1,o,hk _ _ (e0.hok _ _ e2).1,e3⟩⟩
 ·obtain ⟨o,v,e1,e2⟩:=hcs y c e
  exact ⟨v,o,hk _ _ (e0.hok _ _ e1).1,e2⟩
 ·exact (Zn e0.hok fun b ⟨y,e⟩=>let ⟨o,v,e1,_⟩:=hcs y b e;⟨o,_,e1⟩).kept hk
 ·show (some v0::frV σ ix).length=N.length
  rw [L.len]
  simp [frV]
theorem kY {N N₀:List Str}{sc₀ scope:Scope}{x:Str}{ix:List Nat}{qual:Str}{cl:List (Str×Addr)}{f c':Addr}{H:Hp}{σ:St}{k:Nat}{params:Arguments}{body:Expr}{pm ctv:Value}{oc:Obj}{te:TE}{dom:Int->Prop}{p:Int->Bool}
  (L:Bq N₀ sc₀ scope x N ix)(hco:scope.isCoroutine=false)(hgen:scope.isGenerator=false)
  (hinj:∀ y z c,cl.lookup y=some c->cl.lookup z=some c->y=z)(hhas:∀ y,(y,NameKind.free)∈scope.names->∃ c,cl.lookup y=some c)
  (hcs:∀ y c,cl.lookup y=some c->∃ o v,H c=some (.frz o (.own 0))/\o.data=.cell v)
  (hval:∀ y j v,(y,j)∈N.tail.zip ix->σ[j]?=some (some v)->∃ c o u,cl.lookup y=some c/\H c=some (.frz o (.own 0))/\o.data=.cell (some u)/\Bk v u)
  (hf:H f=some (.frz (PySem.W.kla_obj "<lambda>" qual params body scope cl pm c' ctv) (.own 0)))(hc':H c'=some (.frz oc (.own 0)))(hoc:X1 oc qual)
  (hbind:∀ (n:Int) (t:Tok),bindArgs (PySem.W.kla_fn "<lambda>" qual params body scope cl pm (.ref c') ctv) ⟨[.int n t],[]⟩=pure [(x,.int n t)])
  (hbody:∀ (A:Around) (outer:List Env) (s:Shared) (H1:Hp),Dd k (A.deeper (iQ qual scope cl s.heap.objs.size f (.ref c')))->PE (T8 P w K mg base N qual scope cl f (.ref c') A outer s H1) body te)
  (hte:∀ (i:Int) (H1:Hp),dom i->(∀ b u,¬ InC cl b->H b=some u->H1 b=some u)->te (some (.int i)::frV σ ix) H1 fun v H2=>v=.bl (p i)/\Al H1 H2):Zg P w K mg base (k+1) H f dom p:=by
 refine ⟨⟨_,_,_,_,_,hf⟩,fun A outer s H1 i t hr e0 sm hd=>?_⟩
 have hfo:s.heap.get? f=some (PySem.W.kla_obj "<lambda>" qual params body scope cl pm c' ctv):=(e0.hok _ _ (sm _ _ hf)).1
 have hco':s.heap.get? c'=some oc:=(e0.hok _ _ (sm _ _ hc')).1
 have lim:s.heap.NoLimit:=e0.mod.nolimit.keeps fun b o e=>(e0.bs b o e).1
 refine PySem.W.kla_callFunE hr.depth hfo rfl hco hgen rfl (let ⟨vs,t,e1,e2⟩:=hoc;⟨c',oc,vs,t,rfl,hco',e1,e2⟩) ?_
 rw [hbind]
 refine wpAny_pure (wpAny_newFunctionEnv L.nocell (fun y hy=>by cases List.mem_singleton.mp hy;exact L.loc) (fun h₁ hns hsb=>⟨lim.fresh _ hsb,?_⟩) L.kind)
 have hk₁:∀ b o,s.heap.get? b=some o->h₁.get? b=some o:=fun b o e=>hsb.extBut b o (Nat.ne_of_lt (Heap.lt_size e)) (Heap.get?_push_of_some _ e)
 have inH:∀ b,InC cl b->∃ o v,H1 b=some (.frz o (.own 0))/\o.data=.cell v:=fun b ⟨y,e⟩=>let ⟨o,v,e1,e2⟩:=hcs y b e;⟨o,v,sm _ _ e1,e2⟩
 have I':=pK (qual:=qual) (f:=f) (cd:=.ref c') (tk:=s.toks+[(x,Value.int i t)].length) (v0:=.int i) (u0:=.int i t) L hr e0 hinj hhas (fun y c e=>let ⟨o,v,e1,e2⟩:=hcs y c e;⟨o,v,sm _ _ e1,e2⟩)
  (fun y j v h1 h2=>let ⟨c,o,u,a1,a2,a3,a4⟩:=hval y j v h1 h2;⟨c,o,u,a1,sm _ _ a2,a3,a4⟩) ⟨t,rfl⟩ hns hk₁
 refine PySem.W.kla_codeExpr (wpAny_mono (hbody A outer s (Im H1 cl) (hr.deeper _) [] _ _ _ _ I' (hte i _ hd fun b u hb e=>by rw [Fx hb];exact sm _ _ e)) (fun v s' ⟨v',H2,I2,r,ev,sm2⟩=>?_) fun e s' z=>z.elim)
 have nfr:∀ b,InC cl b->b∉frs outer:=fun b hb z=>by
  obtain ⟨o,v,e1,_⟩:=inH b hb
  rw [e0.frf b z] at e1;cases e1
 have cell':∀ b o u,InC cl b->H1 b=some (.frz o u)->s'.heap.get? b=some o/\u=.own 0:=fun b o u hb e=>by
  obtain ⟨o2,v2,e1,_⟩:=inH b hb
  rw [e] at e1
  cases e1
  exact ⟨I2.base.keep b o (e0.hok _ _ e).1 (K1 hb) (nfr b hb) (by simp [T8]),rfl⟩
 have same':∀ b u,H1 b=some u->(∀ ps,u≠.tbl ps)\/True->Iv H2 s'.heap cl b=some u:=fun b u e _=>by
  by_cases hb:InC cl b
  ·obtain ⟨o,v,e1,_⟩:=inH b hb
   rw [e] at e1
   cases e1
   exact Mx hb (cell' b o _ hb e).1
  ·rw [Cu hb]
   exact sm2 _ _ (by rw [Fx hb];exact e)
 refine ⟨v',Iv H2 s'.heap cl,I2.os,I2.bare,⟨fun b o e n hf hx=>I2.base.keep b o e (E3 n) hf hx,fun b o e n hf hx=>I2.base.slot b o e (E3 n) hf hx,fun b o e n hx=>?_,fun b o e hx=>I2.base.there b o e hx,fun b xs e=>same' _ _ e (.inr trivial),fun b o u e=>same' _ _ e (.inr trivial),fun b ps e=>⟨#[],by rw [Array.append_empty];exact same' _ _ e (.inr trivial)⟩⟩,aL I2.hok fun b ⟨y,e⟩=>I2.freeC y b e,r,ev,fun b u e=>same' b u e (.inr trivial)⟩
 have hb:¬ InC cl b:=fun hb=>by
  obtain ⟨o,v,e1,_⟩:=inH b hb
  rw [n] at e1;cases e1
 rw [Cu hb]
 exact I2.base.free b o e (E3 n) hx
end
def M3 (P:Program)(w:World)(K:PySem.W.Frag)(mg:Str->Option Value)(base:Heap)(k:Nat):Sp:=fun vs H Q _=>∃ (lo hi:Int) (f:Addr) (p:Int->Bool),vs=[.int lo,.int hi,.ref f]/\lo<=hi/\Zg P w K mg base k H f (fun i=>lo<=i/\i<hi) p /\
 ∀ m H',lo<=m->m<=hi->(lo<m->p (m-1)=false)->(m<hi->p m=true)->Al H H'->Q (.int m) H'
def cL (Pt:Addr)(lpos:Pos)(qual:Str)(ix:List Nat)(te ta tb:TE):TE:=fun σ H Q=>ta σ H fun v H1=>tb σ H1 fun u H2=>∃ (lo hi:Int) (p:Int->Bool),v=.int lo/\u=.int hi/\lo<=hi/\Sh H2 Pt lpos qual /\
 (∀ (i:Int) (H3:Hp),lo<=i->i<hi->Ox Pt H2 H3->te (some (.int i)::frV σ ix) H3 fun v H4=>v=.bl (p i)/\Al H3 H4) /\
 ∀ (m:Int) (H':Hp),lo<=m->m<=hi->(lo<m->p (m-1)=false)->(m<hi->p m=true)->Ox Pt H2 H'->Sh H' Pt lpos qual->Q (.int m) H'
theorem pS {Pt:Addr}{lpos:Pos}{qual:Str}{ix:List Nat}{te ta tb:TE}{σ:St}{H:Hp}{Q:VK}(h:ta σ H fun v H1=>tb σ H1 fun u H2=>∃ (lo hi:Int) (p:Int->Bool),v=.int lo/\u=.int hi/\lo<=hi/\Sh H2 Pt lpos qual /\
 (∀ (i:Int) (H3:Hp),lo<=i->i<hi->Ox Pt H2 H3->te (some (.int i)::frV σ ix) H3 fun v H4=>v=.bl (p i)/\Al H3 H4) /\
 ∀ (m:Int) (H':Hp),lo<=m->m<=hi->(lo<m->p (m-1)=false)->(m<hi->p m=true)->Ox Pt H2 H'->Sh H' Pt lpos qual->Q (.int m) H'):cL Pt lpos qual ix te ta tb σ H Q:=h
section
variable {X:Cx}
theorem nQ {g x qual : Str}{a b body : Expr}{ta tb te : TE}{q pos lpos : Pos}{ff c Pt : Addr}{fd : FuncData}{ps N : List Str}{ix : List Nat}{kf k : Nat}{params : Arguments}{scope : Scope}
    (F : Ax X.prog X.w X.K X.mg X.base CX0 kf ff fd ps (M3 X.prog X.w X.K X.mg X.base (k + 1)))(hr : Dd kf X.A)(hg : Gl X g)(hm : X.mg g = some (.ref ff))(hkp : PySem.W.keepIn X.K (.ref ff) = true)(hb : Gp X.K fd ps [])
    (ha : PE X a ta)(hbb : PE X b tb)(hfn : X.fn = fun _ => true)
    (C : PySem.W.CodeHd X.base c Pt)(hB : X.base.BuiltinsAt X.mg Pt)(hcode : X.env.code = .ref c)(hq : X.env.qual ++ "<lambda>" = qual)
    (L : Bq X.N X.env.scope scope x N ix)(hco : scope.isCoroutine = false)(hgen : scope.isGenerator = false)(hdef : defaultsOf params X.env = ([], []))
    (hbind : ∀ (cl : List (Str × Addr)) (pm cv ctv : Value) (n : Int) (t : Tok), bindArgs (PySem.W.kla_fn "<lambda>" qual params body scope cl pm cv ctv) ⟨[.int n t], []⟩ = pure [(x, .int n t)])
    (hbody : ∀ (cl : List (Str × Addr)) (f c' : Addr) (A : Around) (outer : List Env) (s : Shared) (H1 : Hp), Dd k (A.deeper (iQ qual scope cl s.heap.objs.size f (.ref c')))->PE (T8 X.prog X.w X.K X.mg X.base N qual scope cl f (.ref c') A outer s H1) body te)
    (hdb : (g == ("__debug__" : Str)) = false := by decide)(he1 : starEach [a, b, .Lambda params body scope lpos] X.env = (false, eval a X.env) :: starEach [b, .Lambda params body scope lpos] X.env := by rfl)(he2 : starEach [b, .Lambda params body scope lpos] X.env = (false, eval b X.env) :: starEach [.Lambda params body scope lpos] X.env := by rfl)
    (he3 : starEach [.Lambda params body scope lpos] X.env = [(false, eval (.Lambda params body scope lpos) X.env)] := by rfl)(hpl : (backTo pos (starEach [b, .Lambda params body scope lpos] X.env)).any (·.1) = false := by rfl) :
    PE X (.Call (.Name g q) [a, b, .Lambda params body scope lpos] [] pos) (cL Pt lpos qual ix te ta tb) := by
  intro pins s σ H Q I h
  refine wpAny_Call_Name_kw (M8 I hg hm ?_ hdb)
  refine PySem.W.callWith_K (h₀ := X.base) I.ok.mod.kin hkp ?_ he1 hpl
  rw [he1]
  show wpAny _ _ (spliced ((false, eval a X.env) :: backTo pos (starEach [b, .Lambda params body scope lpos] X.env))) _ _ s
  refine Calls.spliced_cons (thn (ha pins s σ H _ I h) fun u1 s1 ⟨v1, H1, I1, r1, q1⟩ => ?_)
  rw [he2]
  show wpAny _ _ (spliced ((false, eval b X.env) :: backTo pos (starEach [.Lambda params body scope lpos] X.env))) _ _ s1
  refine Calls.spliced_cons (thn (hbb pins s1 σ H1 _ I1 q1) fun u2 s2 ⟨v2, H2, I2, r2, lo, hi, p, e1, e2, hle, hT, hbd, q2⟩ => ?_)
  subst e1 e2
  rw [he3]
  show wpAny _ _ (spliced [(false, eval (.Lambda params body scope lpos) X.env)]) _ _ s2
  have hfree : ∀ y ∈ scope.names, y.2 = .free->∃ c, X.env.cells.lookup y.1 = some c := fun y hy hf => I.ok.has y.1 (.inl (L.free y hy hf))
  have sub : ∀ y c, (Dv X.env scope.names []).lookup y = some c->X.env.cells.lookup y = some c := fun y c h => Io _ _ y c hfree (fun _ _ z => by simp at z) h
  refine Calls.spliced_cons (mG I2 hT C hB hcode (Hf hfree) hdef hq fun f c' oc pm ctv s3 H3 I3 hT3 sm hf0 hf hc' hoc => ?_)
  refine Calls.spliced_nil ?_
  generalize hcl : Dv X.env scope.names [] = cl at hf sub
  have inj : ∀ y z c, cl.lookup y = some c->cl.lookup z = some c->y = z := fun y z c h1 h2 => I.ok.inj y z c (sub y c h1) (sub z c h2)
  have n3 : ∀ b, InC cl b->H3 b = none := fun b ⟨y, e⟩ => I3.freeC y b (sub y b e)
  have cellAt : ∀ y c, cl.lookup y = some c->∃ o v, s3.heap.get? c = some o/\o.data = .cell v := fun y c e => let ⟨v, o, e1, e2⟩ := I3.cell y c (sub y c e); ⟨o, v, e1, e2⟩
  have nLoc : ∀ b, InC cl b->b ≠ X.env.locals := fun b ⟨y, e⟩ => I3.cne y b (sub y b e)
  have hab : ∀ b, InC cl b->X.s₀.heap.objs.size <= b := fun b ⟨y, e⟩ => I3.ok.cab y b (by rw [hfn]) (sub y b e)
  have nfr : ∀ b, InC cl b->b ∉ frs X.stack := fun b hb z => by
    rcases List.mem_cons.mp (I3.stkSub b z) with e | hz
    · exact nLoc b hb e
    · obtain ⟨_, o, ho, _⟩ := I3.ok.funs.mem hz
      exact absurd (Heap.lt_size ho) (Nat.not_lt.mpr (hab b hb))
  have e0 : Th X.prog X.w X.K X.mg X.base X.A X.stack s3 (Iv H3 s3.heap cl) := by
    have z := I3.env0
    refine ⟨z.frames, z.mod, fun b o e => ⟨(z.bs b o e).1, ?_⟩, z.bsz, z.funs, fun b hb => ?_, aL z.hok n3, z.bare⟩
    · rw [Cu fun hb => ?_]
      · exact (z.bs b o e).2
      · exact absurd (Heap.lt_size e) (Nat.not_lt.mpr (Nat.le_trans I3.ok.bsz (hab b hb)))
    · rw [Cu fun h => nfr b h hb]
      exact z.frf b hb
  have out : ∀ b u, H3 b = some u->Iv H3 s3.heap cl b = some u := fun b u e => by
    rw [Cu fun hb => by rw [n3 b hb] at e; cases e]; exact e
  have asks : Zg X.prog X.w X.K X.mg X.base (k + 1) (Iv H3 s3.heap cl) f (fun i => lo <= i/\i < hi) p := by
    refine kY (σ := σ) (te := te) L hco hgen inj (fun y hy => ?_) (fun y c e => ?_) (fun y j v hz hj => ?_) (out _ _ hf) (out _ _ hc') hoc (hbind _ _ _ _) (fun A outer s H1 hr => hbody _ _ _ A outer s H1 hr) fun i H4 hi k4 => ?_
    · rw [<- hcl]; exact Option.isSome_iff_exists.mp (Fb _ _ y hy)
    · obtain ⟨o, v, e1, e2⟩ := cellAt y c e
      exact ⟨o, v, Mx ⟨y, e⟩ e1, e2⟩
    · obtain ⟨b1, b2⟩ := L.at_ _ hz
      have hm := PySem.mem_of_lookup b2
      have hcell := L.free _ hm rfl
      obtain ⟨m', hn', hl'⟩ := I3.loc
      obtain ⟨u, r, lk⟩ := hl' j y v b1 hj (.inr (.inl hcell))
      rcases lk with lk | ⟨_, c2, e, o, z1, z2⟩
      · rw [show X.env.kindOf y = some .cell from hcell] at lk
        cases lk.1
      · obtain ⟨c3, e'⟩ := Option.isSome_iff_exists.mp (Fb (env := X.env) scope.names [] y hm)
        rw [hcl] at e'
        have e2 := sub y c3 e'
        rw [e] at e2
        cases e2
        exact ⟨c2, o, u, e', Mx ⟨y, e'⟩ z1, z2, r⟩
    · refine hbd i H4 hi.1 hi.2 fun b u hb e => ?_
      have e3 := sm b u hb e
      exact k4 b u (fun hc => by rw [n3 b hc] at e3; cases e3) (out b u e3)
  refine ⟨I3.kIn, ?_⟩
  show wpAny _ _ (call (.ref ff) [u1, u2, .ref f]) _ _ s3
  have rv : A6 [V.int lo, V.int hi, V.ref f] [u1, u2, .ref f] := .cons r1 (.cons r2 (.cons rfl .nil))
  have hl : ([u1, u2, Value.ref f] ++ []).length = ps.length := by
    have := F.len [.int lo, .int hi, .ref f] (Iv H3 s3.heap cl) (fun _ _ => True) E0 ⟨lo, hi, f, p, rfl, hle, asks, fun _ _ _ _ _ _ _ => trivial⟩
    exact this
  refine wpAny_call (codeAny_mono (F.run X.A X.stack s3 (Iv H3 s3.heap cl) ⟨[u1, u2, .ref f], []⟩ ([u1, u2, .ref f] ++ []) [.int lo, .int hi, .ref f] (fun v H' => ∃ m, v = .int m/\lo <= m/\m <= hi/\(lo < m->p (m - 1) = false)/\(m < hi->p m = true)/\Al (Iv H3 s3.heap cl) H') E0 hr e0 (hb s3 _ I3.kIn hl) (by simpa using rv)
    ⟨lo, hi, f, p, rfl, hle, asks, fun m H' a1 a2 a3 a4 a5 => ⟨m, rfl, a1, a2, a3, a4, a5⟩⟩) fun r s' hq => ?_)
  cases r with
  | error e => exact hq.elim
  | ok fl =>
    cases fl with
    | next => exact False.elim hq
    | brk => exact False.elim hq
    | cont => exact False.elim hq
    | ret u =>
      obtain ⟨v, H4, os, bare, un, hok, rr, m, ev, a1, a2, a3, a4, sm4⟩ := hq
      subst ev
      have c4 : ∀ b, InC cl b->∃ o, s3.heap.get? b = some o/\H4 b = some (.frz o (.own 0)) := fun b ⟨y, e⟩ => by
        obtain ⟨o, v, e1, _⟩ := cellAt y b e
        exact ⟨o, e1, sm4 _ _ (Mx ⟨y, e⟩ e1)⟩
      have sm5 : ∀ b u, H3 b = some u->Im H4 cl b = some u := fun b u e => by
        rw [Fx fun hb => by rw [n3 b hb] at e; cases e]
        exact sm4 _ _ (out _ _ e)
      have un2 : Un (frs X.stack) [] H3 (Im H4 cl) s3.heap s'.heap := by
        refine ⟨fun b o e n hf hx => ?_, fun b o e n hf hx => ?_, fun b o e n hx => ?_, fun b o e hx => un.there b o e hx, fun b xs e => sm5 _ _ e, fun b o u e => sm5 _ _ e, fun b ps e => ⟨#[], by rw [Array.append_empty]; exact sm5 _ _ e⟩⟩
        · by_cases hb : InC cl b
          · obtain ⟨o2, z1, z2⟩ := c4 b hb
            rw [e] at z1
            cases z1
            exact (hok _ _ z2).1
          · exact un.keep b o e (by rw [Cu hb]; exact n) hf hx
        · have hb : ¬ InC cl b := fun hb => nfr b hb hf
          exact un.slot b o e (by rw [Cu hb]; exact n) hf hx
        · by_cases hb : InC cl b
          · exact K1 hb
          · exact E3 (un.free b o e (by rw [Cu hb]; exact n) hx)
      have hok2 : HOk X.prog X.w (Im H4 cl) s'.heap := Zn hok fun b hb => let ⟨o, _, z⟩ := c4 b hb; ⟨o, _, z⟩
      refine I3.after ⟨_, Im H4 cl, os, bare, un2, hok2, rr, q2 m _ a1 a2 a3 a4 (fun b u hb e => sm5 _ _ (sm b u hb e)) ?_⟩
      obtain ⟨pps, t1, t2, t3⟩ := hT3
      exact ⟨pps, sm5 _ _ t1, t2, t3.imp id fun ⟨c2, oc2, z1, z2, z3⟩ => ⟨c2, oc2, z1, sm5 _ _ z2, z3⟩⟩
theorem vH {g x qual:Str}{a b body:Expr}{ta tb te:TE}{q pos lpos:Pos}{c Pt:Addr}{ps N:List Str}{ix:List Nat}{kf k:Nat}{params:Arguments}{scope:Scope}
  (F:Cal X.prog X.w X.K X.mg X.base g kf ps (M3 X.prog X.w X.K X.mg X.base (k+1)))(hr:Dd kf X.A)(ha:PE X a ta)(hbb:PE X b tb)(C:PySem.W.CodeHd X.base c Pt)(hB:X.base.BuiltinsAt X.mg Pt)(hcode:X.env.code=.ref c)(hq:X.env.qual++"<lambda>"=qual)
  (L:Bq X.N X.env.scope scope x N ix)(hbody:∀ (cl:List (Str×Addr)) (f c':Addr) (A:Around) (outer:List Env) (s:Shared) (H1:Hp),Dd k (A.deeper (iQ qual scope cl s.heap.objs.size f (.ref c')))->PE (T8 X.prog X.w X.K X.mg X.base N qual scope cl f (.ref c') A outer s H1) body te)
  (hfn:X.fn=fun _=>true:=by rfl)(hg:Gl X g:=by rfl)(hco:scope.isCoroutine=false:=by rfl)(hgen:scope.isGenerator=false:=by rfl)(hdef:defaultsOf params X.env=([],[]):=by rfl)
  (hbind:∀ (cl:List (Str×Addr)) (pm cv ctv:Value) (n:Int) (t:Tok),bindArgs (PySem.W.kla_fn "<lambda>" qual params body scope cl pm cv ctv) ⟨[.int n t],[]⟩=pure [(x,.int n t)]:=by intros;rfl)
  (hdb:(g==("__debug__":Str))=false:=by decide)(he1:starEach [a,b,.Lambda params body scope lpos] X.env=(false,eval a X.env)::starEach [b,.Lambda params body scope lpos] X.env:=by rfl)(he2:starEach [b,.Lambda params body scope lpos] X.env=(false,eval b X.env)::starEach [.Lambda params body scope lpos] X.env:=by rfl)
  (he3:starEach [.Lambda params body scope lpos] X.env=[(false,eval (.Lambda params body scope lpos) X.env)]:=by rfl)(hpl:(backTo pos (starEach [b,.Lambda params body scope lpos] X.env)).any (·.1)=false:=by rfl) :
  PE X (.Call (.Name g q) [a,b,.Lambda params body scope lpos] [] pos) (cL Pt lpos qual ix te ta tb):=by
 obtain ⟨f,fd,F,bb,hm,hk⟩:=F.ex
 exact nQ F hr hg hm hk bb ha hbb hfn C hB hcode hq L hco hgen hdef hbind hbody hdb he1 he2 he3 hpl
end
theorem Xf:typeLookup (.type "list") "keys"=pure none:=by rw [typeLookup_type,builtinLookup_eq_fast];kernel_rfl
theorem Vv:typeLookup (.type "list") "__getattr__"=pure none:=by rw [typeLookup_type,builtinLookup_eq_fast];kernel_rfl
theorem Zb (a:Addr)(vs:Array Value)(n:Nat)(u:Tok):Meets (Builtin.«object.__getattribute__» ⟨[.ref a,.str "keys" u],[]⟩) (fun A R s=>s.heap.get? a=some (seqObj "list" vs n)/\raisesAttr (.ref a) "keys" A R s) :=
 Meets.of_wp fun prog w A R s hs=>by
  obtain ⟨hp,g,d,tk,os⟩:=s
  obtain ⟨hx,hs⟩:=hs
  have hT:(⟨hp,g,d,tk,os⟩:Shared).TypeIs (.ref a) "list":=⟨_,hx,rfl⟩
  have f4:=Xf
  repeat (any_goals (first | assumption | with_reducible refine wpAny_loadPart_at hx ?_ | wp_step))
  exact wpAny_raiseAttrError hs.1 hs.2 (by decide +kernel)
section
variable {prog:Program} {w:World} {A:Around} {E:Value->Shared->Prop} {s:Shared}
theorem nL {a:Addr}{vs:Array Value}{n:Nat}{Q:Option Value->Shared->Prop}(hx:s.heap.get? a=some (seqObj "list" vs n))(hA:A.handled=none)(q:∀ h' tk,(∀ b o,s.heap.get? b=some o->h'.get? b=some o)->Q none { s with heap:=h',toks:=tk }) :
  wpAny (model prog w) A (getAttr? (.ref a) "keys") Q E s:=by
 obtain ⟨hp,g,d,tk,os⟩:=s
 have hT:∀ tk',(⟨hp,g,d,tk',os⟩:Shared).TypeIs (.ref a) "list":=fun _=>⟨_,hx,rfl⟩
 have f1:=sub_AttributeError
 have f3:=PySem.F.slot_list_getattribute.lookup
 have f4:=PySem.F.slot_list_getattribute.bind (.ref a)
 have f5:=Vv
 unfold getAttr? getAttrBy? getAttrBy
 repeat (any_goals (first | assumption | exact hT _ | ((with_reducible show wpAny _ _ (call (Value.builtin "list.__getattribute__") _ _) _ _ _);refine call_meets PySem.F.slot_list_getattribute (hT _) PySem.F.entry_list_ga (PySem.F.args_list_getattribute_2 _ _) (Zb a vs n _) ⟨hx,hA,fun h' tk' e hx'=>?_⟩) | wp_step))
 obtain ⟨t',u',he⟩:=hx'.there
 show wpAny _ _ (getattributeRaised _ _ _ _ _ _ _) _ _ _
 unfold getattributeRaised
 repeat (any_goals (first | assumption | wp_step))
 exact q _ _ hx'.keeps
end
def bC (h:Heap)(T:Addr)(x y:Value):Prop:=∃ o n,h.get? T=some o/\o.cls=.type "tuple"/\o.data=.seq #[x,y] n
theorem bC.keep {h h':Heap}{T:Addr}{x y:Value}(p:bC h T x y)(k:∀ o,h.get? T=some o->h'.get? T=some o):bC h' T x y:=let ⟨o,n,e,r⟩:=p;⟨o,n,k o e,r⟩
section
variable {prog:Program} {w:World} {A:Around} {E:Value->Shared->Prop} {R:Result->Shared->Prop}
theorem Zl {s:Shared}{T:Addr}{x y:Value}{Q:List Value->Shared->Prop}(hT:bC s.heap T x y)(h:Q [x,y] s):wpAny (model prog w) A (Builtin.Dict.pairItems (.ref T)) Q E s:=by
 obtain ⟨o,n,e,c,d⟩:=hT
 have ty:s.TypeIs (.ref T) "tuple":=⟨_,e,c⟩
 unfold Builtin.Dict.pairItems
 refine wpAny_bind (wpAny_typeOf ty ?_)
 rw [if_pos (by decide)]
 exact wpAny_bind (wpAny_seqItems e d (wpAny_pure h))
theorem pZ {d it l:Addr}{items:Array Value}{ys:List Value}{ks:List Int}(hdi:d≠it)(hli:l≠it)(hld:l≠d)(hh:A.handled=none):∀ (m i:Nat) (s:Shared) (tk:Tok) (vs:List (Key×Value)),items.size-i=m->i<=items.size ->
   (∀ (j:Nat) x,items[j]?=some x->∃ n t y T,ks[j]?=some n/\ys[j]?=some y/\x=Value.ref T/\T≠it/\T≠d/\bC s.heap T (.int n t) y)->ks.length=items.size->ys.length=items.size ->
   s.heap.IsListIter it l i->s.heap.IsList l items->s.heap.DictOf (Gz prog w) d vs->vs.length+(items.size-i)<=sizeLine ->
   (∀ h' k vs',h'.DictOf (Gz prog w) d vs'->vs'=Z2 vs (ks.drop i) (ys.drop i)->(∀ b o,b≠it->b≠d->s.heap.get? b=some o->h'.get? b=some o)->R (.ok (.ret .none)) { s with heap:=h',toks:=k }) ->
   codeAny (model prog w) A (.builtin "dict.update.loop" ⟨[.ref d,.ref it,.int i tk,.none],[]⟩) R s:=by
 intro m
 induction m with
 | zero =>
  intro i s tk vs hm hi hp hk hy h1 hl hd hsz q
  refine codeAny_builtin Kk ?_
  rw [Around.under_plainId Fe _]
  show wpAny _ A.in1 (pyNext (.ref it) >>= _) _ _ s
  refine wpAny_bind (wpAny_pyNext_list_end (by exact hh) h1 hl (Array.getElem?_eq_none (by omega)) fun h' kp=>?_)
  show wpAny _ A.in1 (Builtin.Dict.addKeywords d [] >>= _) _ _ _
  refine wpAny_bind (wpAny_pure (wpAny_pure ?_))
  obtain ⟨o,es,ep,ho,r⟩:=hd
  exact q h' s.toks vs ⟨o,es,ep,kp _ _ hdi ho,r⟩ (by rw [List.drop_of_length_le (l:=ys) (by omega),mB]) fun b o b1 _ e=>kp b o b1 e
 | succ m ih =>
  intro i s tk vs hm hi hp hk hy h1 hl hd hsz q
  obtain ⟨x,hx⟩:∃ x,items[i]?=some x:=⟨_,Array.getElem?_eq_getElem (show i<items.size by omega)⟩
  obtain ⟨n,t,y,T,hn,hyi,rfl,hTi,hTd,hT⟩:=hp i x hx
  refine codeAny_builtin Kk ?_
  rw [Around.under_plainId Fe _]
  show wpAny _ A.in1 (pyNext (.ref it) >>= _) _ _ s
  refine wpAny_bind (wpAny_pyNext_list_item h1 hl hx fun h' h1' sb=>?_)
  have kp:∀ b o,b≠it->s.heap.get? b=some o->h'.get? b=some o:=fun b o hb e=>(sb.2 b hb).trans e
  have hd':h'.DictOf (Gz prog w) d vs:=by
   obtain ⟨o,es,ep,ho,r⟩:=hd
   exact ⟨o,es,ep,kp _ _ hdi ho,r⟩
  show wpAny _ A.in1 (holding _ _ >>= _) _ _ _
  refine wpAny_bind (wpAny_holding (wpAny_bind (wpAny_tryCatch (Zl (hT.keep fun o e=>kp _ _ hTi e) ?_))))
  show wpAny _ A.in1 (holding _ (dictSet d (.int n t) y)) _ _ _
  refine wpAny_holding (wpAny_dictSet_pairs (knd:=Gz prog w) (k:=.inl n) (bK prog w n t) hd' (fun h2 dd' hs=>?_) (by omega))
  have k2:∀ b o,b≠it->b≠d->s.heap.get? b=some o->h2.get? b=some o:=fun b o b1 b4 e=>(hs.2 b b4).trans (kp b o b1 e)
  have hln:=stored_length_le vs (Sum.inl n:Key) y
  refine wpAny_pure ⟨plainId_quiet Fe _,?_⟩
  refine ih (i+1) _ _ _ (by omega) (by omega) (fun j x hx=>?_) hk hy (h1'.at fun o e=>(hs.2 _ hdi.symm).trans e) (hl.at fun o e=>k2 _ o hli hld e) dd' (by omega) fun h3 k vs' hd3 e3 kp3=>?_
  ·obtain ⟨n,t,y,T,a1,a2,a3,a4,a5,a6⟩:=hp j x hx
   exact ⟨n,t,y,T,a1,a2,a3,a4,a5,a6.keep fun o e=>k2 _ _ a4 a5 e⟩
  ·exact q h3 k vs' hd3 (by rw [e3,oR hn hyi]) fun b o b1 b4 e=>kp3 b o b1 b4 (k2 b o b1 b4 e)
theorem Pi {s:Shared}{l:Addr}{items:Array Value}{n0:Nat}{ys:List Value}{ks:List Int}{Q:Value->Shared->Prop}(hh:A.handled=none)(hl:s.heap.get? l=some (seqObj "list" items n0))(hk:ks.length=items.size)(hy:ys.length=items.size)(hsz:items.size<=sizeLine)
  (hp:∀ (j:Nat) x,items[j]?=some x->∃ n t y T,ks[j]?=some n/\ys[j]?=some y/\x=Value.ref T/\bC s.heap T (.int n t) y)
  (q:∀ h' k vs',h'.DictOf (Gz prog w) s.heap.objs.size vs'->vs'=Z2 [] ks ys->(∀ b o,s.heap.get? b=some o->h'.get? b=some o)->Q (.ref s.heap.objs.size) { s with heap:=h',toks:=k }) :
  wpAny (model prog w) A (call (.type "dict") [.ref l]) Q E s:=by
 refine callType_codes (Q₁:=fun obj s₁=>obj=.ref s.heap.objs.size/\s₁={ s with heap:=s.heap.push { cls:=.type "dict",data:=.dict #[] } }) PySem.F.kt_called_dict (PySem.F.kt_typeCall_dict_1 _) PySem.F.entry_dict_init (kt_code_dict_new _ ⟨rfl,rfl⟩) ?_
 rintro obj s₁ ⟨rfl,rfl⟩
 have hnew:(s.heap.push { cls:=.type "dict",data:=.dict #[] }).DictOf (Gz prog w) s.heap.objs.size []:=Heap.DictOf.new s.heap
 have up:∀ b o,s.heap.get? b=some o->(s.heap.push { cls:=.type "dict",data:=.dict #[] }).get? b=some o:=fun b o e=>Heap.get?_push_of_some _ e
 have lt:∀ {c o},s.heap.get? c=some o->c≠s.heap.objs.size:=fun e=>Nat.ne_of_lt (Heap.lt_size e)
 refine ⟨hnew.typeIs,PySem.F.args_dict_init_2 _ _,?_⟩
 unfold Builtin.«dict.__init__»
 refine wpAny_bind ?_
 unfold Builtin.Dict.selfAndRest
 refine wpAny_bind (wpAny_notOrdered_dict hnew.typeIs ?_)
 show wpAny _ _ (pure (s.heap.objs.size,[Value.ref l])) _ _ _
 refine wpAny_pure ?_
 show wpAny _ _ (Builtin.Dict.updateFrom "dict.__init__" s.heap.objs.size (.ref l) [] .none) _ _ _
 unfold Builtin.Dict.updateFrom
 have hl':=up _ _ hl
 refine wpAny_bind (wpAny_typeOf (T:="list") ⟨_,hl',rfl⟩ ?_)
 rw [if_pos (by decide)]
 refine wpAny_bind (nL hl' (by exact hh) fun h' tk kp=>?_)
 rw [if_pos (by rfl)]
 have hli:h'.IsList l items:=⟨_,kp _ _ hl',rfl,_,rfl⟩
 refine wpAny_bind (wpAny_rule (wpAny_bind (wpAny_pyIter_list hli ?_)))
 have up2:∀ b o,s.heap.get? b=some o->h'.get? b=some o:=fun b o e=>kp _ _ (up b o e)
 obtain ⟨od,esd,epd,hod,rd⟩:=hnew
 have hd2:=kp _ _ hod
 have nI:∀ {c o},h'.get? c=some o->c≠h'.objs.size:=fun e=>Nat.ne_of_lt (Heap.lt_size e)
 refine wpAny_pure ⟨plainId_quiet Fe _,?_⟩
 refine pZ (ks:=ks) (ys:=ys) (l:=l) (items:=items) (nI hd2) (nI (kp _ _ hl')) (lt hl) (by exact hh) _ 0 _ _ [] rfl (Nat.zero_le _) (fun j x hx=>?_) hk hy ⟨_,Heap.get?_push_size _ rfl,rfl,rfl⟩ ⟨_,Heap.get?_push_of_some _ (kp _ _ hl'),rfl,_,rfl⟩ ⟨od,esd,epd,Heap.get?_push_of_some _ hd2,rd⟩ (by simpa using hsz) fun h3 k vs' hd3 e3 kp3=>?_
 ·obtain ⟨n,t,y,T,a1,a2,a3,a4⟩:=hp j x hx
  exact ⟨n,t,y,T,a1,a2,a3,(by obtain ⟨o,_,e,_⟩:=a4;exact nI (up2 _ _ e)),(by obtain ⟨o,_,e,_⟩:=a4;exact lt e),a4.keep fun o e=>Heap.get?_push_of_some _ (up2 _ _ e)⟩
 ·exact ⟨rfl,q h3 k vs' hd3 (by simpa using e3) fun b o e=>kp3 b o (nI (up2 _ _ e)) (lt e) (Heap.get?_push_of_some _ (up2 _ _ e))⟩
end
def rM (H:Hp)(as:List Addr)(ks:List Int)(ys:List V):Prop:=as.length=ks.length/\as.length=ys.length/\∀ (i:Nat) a k y,as[i]?=some a->ks[i]?=some k->ys[i]?=some y->H a=some (.tup [.int k,y])
def tG:List V->Hp->VK->Prop:=fun xs H Q=>∃ (l:Addr) (as:List Addr) (ks:List Int) (ys:List V),xs=[.ref l]/\H l=some (.lst (as.map V.ref))/\rM H as ks ys/\(U6 [] ks ys).length<=ks.length/\∀ p,H p=none->Q (.ref p) (upd H p (.dK (U6 [] ks ys)))
theorem Us:∀ {as:List Addr}{us:List Value},A6 (as.map V.ref) us->us=as.map Value.ref
 | [],_,h=>by cases h;rfl
 | a::as,_,h=>by
  cases h with
  | cons h1 h2=>rw [show _=Value.ref a from h1,Us h2];rfl
theorem fH:∀ {ys:List V}(f:Nat->Value),(∀ (i:Nat) y,ys[i]?=some y->Bk y (f i))->A6 ys ((List.range ys.length).map f)
 | [],_,_=>.nil
 | y::ys,f,h=>by
  rw [List.length_cons,List.range_succ_eq_map,List.map_cons,List.map_map]
  exact .cons (h 0 y rfl) (fH (fun i=>f (i+1)) fun i z e=>h (i+1) z e)
theorem dC {X:Cx}(hcal:X.calm=true):Fo X (.type "dict") tG:=by
 intro pins s σ H xs us Q I r h
 obtain ⟨l,as,ks,ys,rfl,hl,⟨h1,h2,hp⟩,hml,q⟩:=h
 obtain ⟨u,rfl,ru⟩:=Gc r
 cases ru
 obtain ⟨hz,its,n0,rv,hit⟩:=I.hok l _ hl
 obtain rfl:=Us rv
 rw [List.length_map] at hz
 have pr:∀ i:Nat,∃ u:Value,∀ a k y,as[i]?=some a->ks[i]?=some k->ys[i]?=some y->Bk y u/\∃ t,bC s.heap a (.int k t) u:=fun i=>by
  by_cases hi:i<as.length
  ·have e:=hp i _ _ _ (List.getElem?_eq_getElem hi) (List.getElem?_eq_getElem (by omega)) (List.getElem?_eq_getElem (by omega))
   obtain ⟨_,its,rv,o,e1,e2,n,e3⟩:=I.hok _ _ e
   obtain ⟨u1,u2,rfl,r1,r3⟩:=Sm rv
   obtain ⟨t,rfl⟩:=r1
   refine ⟨u2,fun a k y a1 a2 a3=>?_⟩
   rw [List.getElem?_eq_getElem hi] at a1
   rw [List.getElem?_eq_getElem (by omega)] at a2 a3
   cases a1;cases a2;cases a3
   exact ⟨r3,t,o,n,e1,e2,e3⟩
  ·exact ⟨.none,fun a k y a1 _ _=>absurd (List.getElem?_eq_some_iff.mp a1).1 hi⟩
 let f:Nat->Value:=fun i=>(pr i).choose
 have hf:∀ i a k y,as[i]?=some a->ks[i]?=some k->ys[i]?=some y->Bk y (f i)/\∃ t,bC s.heap a (.int k t) (f i):=fun i=>(pr i).choose_spec
 have hy:A6 ys ((List.range ys.length).map f):=fH f fun i y e=>by
  have hi:=(List.getElem?_eq_some_iff.mp e).1
  exact (hf i _ _ y (List.getElem?_eq_getElem (by omega)) (List.getElem?_eq_getElem (by omega)) e).1
 refine Pi (ks:=ks) (ys:=(List.range ys.length).map f) (I.ok.hd hcal) hit (by simp;omega) (by simp;omega) (by simpa using hz) (fun j x hx=>?_) fun h' k vs' d2 ev kp=>?_
 ·have hj:j<as.length:=by have:=(Array.getElem?_eq_some_iff.mp hx).1;simpa using this
  have ex:x=Value.ref as[j]:=by
   have:(as.map Value.ref)[j]?=some x:=by simpa using hx
   rw [List.getElem?_map,List.getElem?_eq_getElem hj] at this
   exact (Option.some.inj this).symm
  obtain ⟨_,t,hpr⟩:=hf j _ _ _ (List.getElem?_eq_getElem hj) (List.getElem?_eq_getElem (by omega:j<ks.length)) (List.getElem?_eq_getElem (by omega:j<ys.length))
  exact ⟨_,t,f j,as[j],List.getElem?_eq_getElem (by omega),by rw [List.getElem?_map,List.getElem?_range (by omega)];rfl,ex,hpr⟩
 ·have hk:KV (U6 [] ks ys) vs':=by rw [ev];exact oN .nil hy
  refine ⟨.ref s.heap.objs.size,_,I.laid (o:=.dK (U6 [] ks ys)) (t':=k) kp (Nat.le_refl _) ⟨by omega,?_,vs',hk,d2⟩,rfl,q _ (I.hok.fresh (Nat.le_refl _))⟩
  exact beq_eq_false_iff_ne.mpr (Ne.symm (Nat.ne_of_lt (rD I)))
theorem Ti:bootBuiltins "reversed"=some (.type "reversed"):=by decide +kernel
end L2
end
section
namespace HD
open PySem PySem.W PySem.Calls PyProof.Rows
def Hl (tb:String->Option Builtin)(p:Program)(w:World)(m:Nat)(ann:Option Value):Nat->SharedT->Thread->Option SharedT
 | 0,_,_=>none
 | n+1,s,t=>match through t with
  | true=>some s
  | false=>match stepOk m ann t with
   | false=>none
   | true=>match stepT (denote tb) p w s t with
    | some (s',t')=>Hl tb p w m ann n s' t'
    | none=>none
theorem U3 {tb:String->Option Builtin}{p:Program}{w:World}{m:Nat}{ann:Option Value}:∀ {n:Nat} {s s':SharedT} {t:Thread},Hl tb p w m ann n s t=some s'->topRun tb p w m ann n s.abs t=some s'.abs
 | 0,_,_,_,h=>by cases h
 | n+1,s,s',t,h=>by
  unfold Hl at h
  unfold topRun
  cases he:through t with
  | true=>rw [he] at h;cases h;rfl
  | false =>
   rw [he] at h
   cases hk:stepOk m ann t with
   | false=>rw [hk] at h;cases h
   | true =>
    rw [hk] at h
    cases hs:stepT (denote tb) p w s t with
    | none=>rw [hs] at h;cases h
    | some r=>obtain ⟨s₂,t₂⟩:=r;rw [hs] at h;rw [stepT_spec hs];exact U3 h
def nU:List Obj->Nat->BT->BT
 | [],_,t=>t
 | o::l,n,t=>nU l (n+1) (t.ins n o)
noncomputable def Sn (P:Params):BT:=nU (boot_heap P).objs.toList 0 .nil
def bootSize:Nat:=11
noncomputable def bootT (w:World) (os:OsState):SharedT:=⟨Sn w.params,bootSize,(boot_heap w.params).life,#[],boot_drawn,boot_toks,os⟩
def cD {α:Type}(Yf:Shared->α)(h0:Heap)(p q:Program)(loose:List Str)(s:Shared) :=
 (staticsOk (importedModules p.main.body) h0 s.heap&&namesBound p s.heap&&gensDone s&&laidKept h0 s.heap,
  openSeen q loose (importedModules p.main.body) (fun _=>true) true s,Yf s)
def bothT {α:Type}(Yf:Shared->α)(s0:SharedT)(h0:Heap)(m:Nat)(p q:Program)(loose:List Str)(M:Nat)(w:World) :=
 (Hl treeTable p w m (some (.ref 6)) M s0 (topStub p)).map fun s=>cD Yf h0 p q loose s.abs
theorem mC (P:Params):absHeap (Sn P) bootSize (boot_heap P).life=boot_heap P:=by kernel_rfl
theorem iL (P:Params):((boot_heap P).isNs mainGlobals&&(#[]:Array GenState).size==0,(boot_heap P).objs.size,(boot_heap P).nsMap mainGlobals "__annotations__")=(true,bootSize,some (.ref 6)):=by kernel_rfl
theorem qS {p q:Program}{loose:List Str}{α:Type}{Yf:Shared->α}{Ya:World->α}{M N:Nat}(e:opening p=plainProg p.main.scope.names)(f:∀ s,fenceModules? p s=some s)(hN:Nat.ble 600 N=true)(le:Nat.ble M N=true)
  (Tp:∀ w:World,(fun os=>bothT Yf (bootT w os) (boot_heap w.params) bootSize p q loose M w)=fun _=>some (true,openGood q loose,Ya w)) :
  LeftO p q loose (fun _=>true) Yf Ya N:=fun w=>by
 obtain ⟨⟨h,gs,d,k,os⟩,e1,e'⟩:=Option.map_eq_some_iff.mp (boot_open e hN f w)
 obtain ⟨rfl,rfl,rfl,rfl⟩:h=boot_heap w.params/\gs=Array.mk []/\d=boot_drawn/\k=boot_toks:=by simpa using e'
 have b:=congrFun (Tp w) os
 unfold bothT at b
 obtain ⟨s,r,l⟩:=Option.map_eq_some_iff.mp b
 have r2:=U3 r
 have r3:=topRun_mono (N-M) _ _ _ _ r2
 rw [show M+(N-M)=N by have:=Nat.le_of_ble_eq_true le;omega] at r3
 have eb:(bootT w os).abs=⟨boot_heap w.params,Array.mk [],boot_drawn,boot_toks,os⟩:=by
  show Shared.mk (absHeap (Sn w.params) bootSize (boot_heap w.params).life) (Array.mk []) boot_drawn boot_toks os=_
  rw [mC]
 rw [eb] at r3
 obtain ⟨z1,z2,z3⟩:_/\_/\_:=by simpa only [Prod.mk.injEq] using iL w.params
 obtain ⟨l1,l2,l3⟩:_/\_/\_:=by simpa only [cD,Prod.mk.injEq] using l
 have t:topFrom treeTable p w N ⟨boot_heap w.params,Array.mk [],boot_drawn,boot_toks,os⟩=some s.abs:=by
  unfold topFrom
  dsimp only
  rw [z1,z2,z3,r3]
  show (match staticsOk (importedModules p.main.body) (boot_heap w.params) s.abs.heap&&namesBound p s.abs.heap&&gensDone s.abs&&laidKept (boot_heap w.params) s.abs.heap with | true=>_ | false=>_)=_
  rw [l1]
 unfold openEnds
 rw [e1]
 show (topFrom treeTable p w N _).map _=_
 rw [t]
 exact congrArg some (Prod.ext l2 l3)
def recOf:Stmt->DefRec
 | .FunctionDef n a b _ _ _ sc _ _ pos=>⟨n,a,b,sc,pos⟩
 | _=>⟨"",default,[],default,default⟩
end HD
lay_quick HD.bothT
end
section
namespace L2
open PySem PySem.Spec PyProof.Rows
theorem Ut {X:Cx}:wU X (vJ X.K):=by
 intro pins s σ H x y v u Q I rx ry h
 obtain ⟨p,xs,i,z,rfl,rfl,hq,he,q⟩:=h
 cases rx
 obtain ⟨t,rfl⟩:=ry
 obtain ⟨its,r,pl,hz⟩:=I.list hq
 obtain ⟨j,h1,h2,h3,h4,h5⟩:=Vo he
 obtain ⟨w,ew,rw'⟩:=r.get h2
 have hl:=r.length
 have hn:=Kr
 have fin:EP X pins σ Q w s:=⟨z,H,I,rw',q⟩
 by_cases h0:0<=i
 ·have hj:i.toNat=j:=by
   rw [seqIndex_of h0 h5] at h1
   exact Option.some.inj h1
  exact wpAny_getItem_list pl.isList h0 (by omega) (by rw [hj];simpa using ew) fin
 ·have hj:(i+(its.toArray.size:Int)).toNat=j:=by
   rw [seqIndex_neg (by omega) h4] at h1
   rw [List.size_toArray,<- hl]
   exact Option.some.inj h1
  exact wpAny_getItem_list_neg pl.isList (by omega) (by rw [List.size_toArray]<;>omega) (by omega) (by rw [hj];simpa using ew) fin
section
variable {to ti te:TE} {tget:V->V->Hp->VK->Prop} {tip:TIp} {tset:qD} {D:Ja} {σ:St} {H:Hp}
theorem vA (h:to σ H fun o H1=>ti σ H1 fun i H2=>tget o i H2 fun x H3=>te σ H3 fun y H4=>tip x y H4 fun z H5=>tset o i z H5 fun H6=>D.nx σ H6):sM to ti te tget tip tset D σ H:=h
end
open Builtin.Str (occurrences partsBetween)
section
variable {X:Cx}
def pN:V->List V->Hp->VK->Prop:=fun x vs H Q=>∃ z y,x=.str z/\vs=[.str y]/\(y.length==0)=false/\z.length<=100000/\∀ D,H D=none->Q (.ref D) (upd H D (.lst ((Txt.split z y).map V.str)))
theorem iB:MtM X "str.split" pN:=by
 intro pins s σ H x vs v us Q I rx rv h
 obtain ⟨z,y,rfl,rfl,hy,hz,q⟩:=h
 obtain ⟨t,rfl⟩:=rx
 obtain ⟨u,rfl,ru⟩:=rv.one
 obtain ⟨t',rfl⟩:=ru
 have sl:200000<=sizeLine:=by decide
 have fin:∀ (l:List (Str×Tok)) (n tk:Nat),l.map (·.1)=Txt.split z y->EP X pins σ Q (.ref s.heap.objs.size) { s with heap:=s.heap.push { cls:=.type "list",data:=.seq (strValues l).toArray n },toks:=tk }:=fun l n tk e=>by
  have hl:=len_le_of_split e
  refine ⟨.ref s.heap.objs.size,upd H s.heap.objs.size (.lst ((l.map (·.1)).map V.str)),I.laid (fun b o w=>Heap.get?_push_of_some _ w) (Nat.le_refl _) ⟨?_,strValues l,n,lM l,Heap.get?_push_size _ rfl⟩,rfl,e▸q _ (I.hok.fresh (Nat.le_refl _))⟩
  rw [List.length_map,List.length_map]
  omega
 cases h1:(decide (z.length<y.length)||decide (Builtin.Str.strKind z<Builtin.Str.strKind y))
 ·cases hf:(occurrences z y 0 z.length (z.length+1)).isEmpty
  ·have hp:(partsBetween z (occurrences z y 0 z.length (z.length+1)) y.length).length<=sizeLine:=by
    rw [len_partsBetween]
    have:=StrLaws.occ_length_le z y 0 z.length (z.length+1)
    omega
   refine call_meets F.slot_str_split (typeIs_str _ _ _) F.entry_str_split (F.args_str_split_2 _ _) (meets_str_split_sep z y t t' h1 hy hf (by omega) hp) ?_
   show wants _ _ _ { s with toks:=_,heap:=s.heap.push { cls:=.type "list",data:=.seq (strsFrom s.toks (partsBetween z (occurrences z y 0 z.length (z.length+1)) y.length)).toArray } }
   rw [strsFrom_eq]
   exact fin (numbered s.toks _) _ _ ((numbered_texts _ _).trans ((if_neg (ne_true_of_eq_false h1)).trans (if_neg (ne_true_of_eq_false hf))).symm)
  ·exact call_meets F.slot_str_split (typeIs_str _ _ _) F.entry_str_split (F.args_str_split_2 _ _) (meets_str_split_not_found z y t t' h1 hy hf) (fin [(z,t)] _ _ ((if_neg (ne_true_of_eq_false h1)).trans (if_pos hf)).symm)
 ·exact call_meets F.slot_str_split (typeIs_str _ _ _) F.entry_str_split (F.args_str_split_2 _ _) (meets_str_split_cannot_occur z y t t' h1) (fin [(z,t)] _ _ (if_pos h1).symm)
end
end L2
end
section
namespace TW
open PySem PySem.StrLaws PySem.Builtin.Str
theorem Vp (x:Str)(c:Nat):∀ (m a:Nat) (st:Array Nat×Nat),st.2<=a->st.1.size<=a->a+m<=x.length+1 ->
  (forIn (List.range' a m) st (occBody x ⟨#[c]⟩ x.length (x.length+1))).run.fst.toList=st.1.toList++(List.range' a m).filter fun i=>x.cps.toList[i]?==some c
 | 0,a,st,_,_,_=>by
  rw [List.range'_zero,List.filter_nil,List.append_nil]
  rfl
 | m+1,a,st,h1,h2,h3=>by
  rw [List.range'_succ,List.forIn_cons]
  unfold occBody
  by_cases hc:x.cps.toList[a]?=some c
  ·have hs:=(subAt_one x c a).mpr hc
   rw [if_pos ⟨⟨⟨by omega,h1⟩,hs.1⟩,hs.2⟩]
   have ih:=Vp x c m (a+1) (st.1.push a,a+1) (Nat.le_refl _) (by simp;omega) (by omega)
   refine Eq.trans ih ?_
   rw [List.filter_cons_of_pos (by simp [hc])]
   simp
  ·rw [if_neg (fun h=>hc ((subAt_one x c a).mp ⟨h.1.2,h.2⟩))]
   have ih:=Vp x c m (a+1) st (by omega) (by omega) (by omega)
   refine Eq.trans ih ?_
   rw [List.filter_cons_of_neg (by simpa using hc)]
theorem pI (x:Str)(c:Nat):occurrences x ⟨#[c]⟩ 0 x.length (x.length+1)=(List.range' 0 (x.length+1)).filter fun i=>x.cps.toList[i]?==some c:=by
 rw [occ_eq]
 exact Vp x c (x.length+1) 0 (#[],0) (Nat.le_refl _) (Nat.le_refl _) (by omega)
def grC (ns:List Nat):List Nat:=(ns.map fun n=>List.replicate n 49++[48]).flatten
def cE:Nat->List Nat->List Nat
 | _,[]=>[]
 | a,n::r=>(a+n)::cE (a+n+1) r
theorem Zi (L:List Nat):∀ (n a:Nat),(∀ i,a<=i->i<a+n->L[i]?=some 49)->(List.range' a n).filter (fun i=>L[i]?==some 48)=[]
 | 0,_,_=>rfl
 | n+1,a,h=>by
  rw [List.range'_succ,List.filter_cons_of_neg (by rw [h a (Nat.le_refl _) (by omega)];simp)]
  exact Zi L n (a+1) fun i h1 h2=>h i (by omega) (by omega)
theorem bN:∀ (ns pre:List Nat),(List.range' pre.length ((grC ns).length+1)).filter (fun i=>(pre++grC ns)[i]?==some 48)=cE pre.length ns
 | [],pre=>by
  show (List.range' pre.length 1).filter _=[]
  rw [show List.range' pre.length 1=[pre.length] from rfl,List.filter_cons_of_neg]
  ·rfl
  ·rw [List.getElem?_eq_none (by simp [grC])]
   simp
 | n::r,pre=>by
  have e:grC (n::r)=List.replicate n 49++(48::grC r):=by
   show List.replicate n 49++[48]++grC r=_
   rw [List.append_assoc]
   rfl
  have el:(grC (n::r)).length+1=n+(1+((grC r).length+1)):=by rw [e];simp;omega
  rw [el,<- List.range'_append_1,List.filter_append,<- List.range'_append_1,List.filter_append]
  have h1:∀ i,pre.length<=i->i<pre.length+n->(pre++grC (n::r))[i]?=some 49:=fun i h1 h2=>by
   rw [e,List.getElem?_append_right h1,List.getElem?_append_left (by simp;omega),List.getElem?_replicate,if_pos (by omega)]
  rw [Zi _ n _ h1,List.nil_append]
  have h2:(pre++grC (n::r))[pre.length+n]?=some 48:=by
   rw [e,List.getElem?_append_right (by omega),List.getElem?_append_right (by simp)]
   simp
  rw [show List.range' (pre.length+n) 1=[pre.length+n] from rfl,List.filter_cons_of_pos (by rw [h2];rfl)]
  have ih:=bN r (pre++List.replicate n 49++[48])
  have el2:(pre++List.replicate n 49++[48]).length=pre.length+n+1:=by simp;omega
  have el3:pre++List.replicate n 49++[48]++grC r=pre++grC (n::r):=by rw [e];simp
  rw [el2,el3] at ih
  show (pre.length+n)::(List.filter _ [])++_=_
  rw [List.filter_nil]
  show (pre.length+n)::List.filter _ _=(pre.length+n)::cE (pre.length+n+1) r
  rw [ih]
theorem Rm:∀ (ns pre:List Nat)(x:Str),x.cps.toList=pre++grC ns->partsFrom x 1 pre.length (cE pre.length ns)=(ns.map fun n=>(⟨(List.replicate n 49).toArray⟩:Str))++[⟨#[]⟩]
 | [],pre,x,h=>by
  show [strSub x pre.length x.length]=[_]
  congr 1
  apply Str.ext'
  apply Array.toList_inj.mp
  rw [strSub_toList,h]
  simp [grC]
 | n::r,pre,x,h=>by
  have e:grC (n::r)=List.replicate n 49++(48::grC r):=by
   show List.replicate n 49++[48]++grC r=_
   rw [List.append_assoc]
   rfl
  have ih:=Rm r (pre++List.replicate n 49++[48]) x (by rw [h,e];simp)
  have el2:(pre++List.replicate n 49++[48]).length=pre.length+n+1:=by simp;omega
  rw [el2] at ih
  show strSub x pre.length (pre.length+n)::partsFrom x 1 (pre.length+n+1) (cE (pre.length+n+1) r)=(⟨(List.replicate n 49).toArray⟩:Str)::((r.map fun n=>(⟨(List.replicate n 49).toArray⟩:Str))++[⟨#[]⟩])
  rw [ih]
  congr 1
  apply Str.ext'
  apply Array.toList_inj.mp
  rw [strSub_toList,h,e]
  simp
theorem Za (ns:List Nat):Txt.split (⟨(grC ns).toArray⟩:Str) ⟨#[48]⟩=(ns.map fun n=>(⟨(List.replicate n 49).toArray⟩:Str))++[⟨#[]⟩]:=by
 have p:=Rm ns [] ⟨(grC ns).toArray⟩ (by simp)
 have f:=bN ns []
 have o:=pI ⟨(grC ns).toArray⟩ 48
 rw [show (⟨(grC ns).toArray⟩:Str).length=(grC ns).length from by simp [Str.length]] at o
 have o2:occurrences (⟨(grC ns).toArray⟩:Str) ⟨#[48]⟩ 0 (grC ns).length ((grC ns).length+1)=cE 0 ns:=by
  rw [o]
  exact f
 cases ns with
 | nil=>rfl
 | cons n r =>
  have hl:(⟨(grC (n::r)).toArray⟩:Str).length=(grC (n::r)).length:=by simp [Str.length]
  have h1:1<=(grC (n::r)).length:=by
   show 1<=(List.replicate n 49++[48]++grC r).length
   simp
   omega
  have k1:∀ x:Str,1<=PySem.Builtin.Str.strKind x:=fun x=>by unfold PySem.Builtin.Str.strKind;split;omega;split<;>omega
  unfold Txt.split
  rw [if_neg,hl,o2,if_neg,partsBetween_eq]
  ·exact p
  ·simp [cE]
  ·rw [hl]
   have:=k1 ⟨(grC (n::r)).toArray⟩
   have e2:PySem.Builtin.Str.strKind (⟨#[48]⟩:Str)=1:=by simp [PySem.Builtin.Str.strKind]
   rw [e2]
   simp
   have e3:(⟨#[48]⟩:Str).length=1:=rfl
   omega
end TW
end
section
namespace TW
def Gd:Nat->List Nat->Prop
 | h,[]=>h=0
 | h,n::r=>0<h/\Gd (h+n-1) r
end TW
namespace TW
end TW
end
section
namespace TW
theorem cC {ds:List Nat}(h:Dok ds){k:Nat}(hk:k<ds.length):eld ds k<k:=by
 by_cases e:eld ds k=-1
 ·omega
 ·obtain ⟨v,e1,e2,_⟩:=Dx h hk e
  omega
def Ay (ds:List Nat)(k:Nat)(v:Int):List Nat:=(List.range k).filter fun j=>decide (eld ds j=v)
theorem fZ (ds:List Nat)(k:Nat)(v:Int):(Ay ds k v).length<=k:=by
 unfold Ay
 exact Nat.le_trans (List.length_filter_le ..) (by rw [List.length_range];exact Nat.le_refl _)
theorem Ct {ds:List Nat}{k:Nat}{v:Int}(h:eld ds k=v):Ay ds (k+1) v=Ay ds k v++[k]:=by
 unfold Ay
 rw [List.range_succ,List.filter_append,List.filter_cons_of_pos (by simpa using h)]
 rfl
theorem G3 {ds:List Nat}{k:Nat}{v:Int}(h:eld ds k≠v):Ay ds (k+1) v=Ay ds k v:=by
 unfold Ay
 rw [List.range_succ,List.filter_append,List.filter_cons_of_neg (by simpa using h)]
 simp
theorem Gi {ds:List Nat}{k j:Nat}{v:Int}:j∈Ay ds k v↔j<k/\eld ds j=v:=by
 unfold Ay
 rw [List.mem_filter,List.mem_range]
 simp
theorem T3 {ds:List Nat}(h:Dok ds){k v:Nat}(hk:k<=ds.length)(hv:k<=v+1):Ay ds k v=[]:=by
 apply List.eq_nil_iff_forall_not_mem.mpr
 intro j hj
 obtain ⟨h1,h2⟩:=Gi.mp hj
 have:=cC h (k:=j) (by omega)
 omega
end TW
namespace TW
def gsC (ds:List Nat):List Nat:=(Ay ds ds.length (-1)).length::(List.range ds.length).map fun v:Nat=>(Ay ds ds.length v).length
end TW
namespace TW
theorem G2 (ds:List Nat):(gsC ds).length=ds.length+1:=by unfold gsC;rw [List.length_cons,List.length_map,List.length_range]
theorem dL {ds:List Nat}{k:Nat}(hk:k<ds.length):(gsC ds)[k+1]?=some (Ay ds ds.length k).length:=by
 unfold gsC
 rw [List.getElem?_cons_succ,List.getElem?_map,List.getElem?_range hk]
 rfl
def Kg (ds:List Nat)(k:Nat)(v:Int):Nat:=((List.range ds.length).filter fun j=>decide (k<=j)&&decide (eld ds j=v)).length
theorem Ur {ds:List Nat}{k:Nat}(hk:k<ds.length)(v:Int):Kg ds k v=Kg ds (k+1) v+if eld ds k=v then 1 else 0:=by
 have hs:List.range ds.length=List.range k++(k::(List.range (ds.length-k-1)).map (k+1 + ·)):=by
  rw [show ds.length=k+(1+(ds.length-k-1)) by omega,List.range_add,List.range_add]
  simp [List.map_map,Function.comp_def,Nat.add_assoc]
 unfold Kg
 rw [hs,List.filter_append,List.filter_append,List.length_append,List.length_append]
 have n1:(List.range k).filter (fun j=>decide (k<=j)&&decide (eld ds j=v))=[]:=List.filter_eq_nil_iff.mpr fun j hj=>by
  have:=List.mem_range.mp hj
  simp
  omega
 have n2:(List.range k).filter (fun j=>decide (k+1<=j)&&decide (eld ds j=v))=[]:=List.filter_eq_nil_iff.mpr fun j hj=>by
  have:=List.mem_range.mp hj
  simp
  omega
 have n3:((List.range (ds.length-k-1)).map (k+1 + ·)).filter (fun j=>decide (k<=j)&&decide (eld ds j=v))=((List.range (ds.length-k-1)).map (k+1 + ·)).filter (fun j=>decide (k+1<=j)&&decide (eld ds j=v)):=List.filter_congr fun j hj=>by
  obtain ⟨i,hi,rfl⟩:=List.mem_map.mp hj
  rw [decide_eq_true (show k<=k+1+i by omega),decide_eq_true (show k+1<=k+1+i by omega)]
 rw [n1,n2,List.filter_cons_of_neg (p:=fun j=>decide (k+1<=j)&&decide (eld ds j=v)) (by simp;omega)]
 by_cases e:eld ds k=v
 ·rw [List.filter_cons_of_pos (by simp [e]),n3,if_pos e,List.length_cons]
  omega
 ·rw [List.filter_cons_of_neg (by simp [e]),n3,if_neg e]
  omega
theorem gZ {ds:List Nat}(h:Dok ds)(k:Nat):Kg ds (k+1) k=(Ay ds ds.length k).length:=by
 unfold Kg Ay
 congr 1
 refine List.filter_congr fun j hj=>?_
 have hj:=List.mem_range.mp hj
 have hl:=cC h hj
 rw [Bool.eq_iff_iff]
 simp only [Bool.and_eq_true,decide_eq_true_eq]
 omega
theorem iT {ds:List Nat}(v:Int):Kg ds 0 v=(Ay ds ds.length v).length:=by
 unfold Kg Ay
 congr 1
theorem eV {ds:List Nat}(h:Dok ds){k:Nat}(hk:k<ds.length):∀ j,k<j->j<=ds.length->∀ (p:Nat) (x:Int),(way ds j)[p]?=some x->x<k->p<=dAt ds k/\(way ds k)[p]?=some x
 | 0,hj,_,_,_,_,_=>by cases hj
 | j+1,hj,hl,p,x,e,hx=>by
  have e:((way ds j).take (dAt ds j+1)++[(j:Int)])[p]?=some x:=e
  have hwl:=Co h j (by omega)
  have hd:=h j (by omega)
  have hl2:((way ds j).take (dAt ds j+1)).length=dAt ds j+1:=by rw [List.length_take];omega
  by_cases hp:p<dAt ds j+1
  ·rw [List.getElem?_append_left (by omega),List.getElem?_take_of_lt hp] at e
   by_cases ej:j=k
   ·subst ej
    exact ⟨by omega,e⟩
   ·exact eV h hk j (by omega) (by omega) p x e hx
  ·rw [List.getElem?_append_right (by omega),hl2] at e
   have e0:p-(dAt ds j+1)=0:=by
    have:=(List.getElem?_eq_some_iff.mp e).1
    simp only [List.length_cons,List.length_nil] at this
    omega
   rw [e0] at e
   have e:=Option.some.inj e
   omega
theorem kW {ds:List Nat}(h:Dok ds){k p:Nat}{x:Int}(hk:k<ds.length)(e:(way ds k)[p]?=some x)(hp:dAt ds k<p):Kg ds k x=0:=by
 unfold Kg
 rw [List.length_eq_zero_iff,List.filter_eq_nil_iff]
 intro j hj
 have hj:=List.mem_range.mp hj
 simp only [Bool.and_eq_true,decide_eq_true_eq]
 rintro ⟨h1,h2⟩
 have ej:=Ie h hj
 rw [h2] at ej
 have hxk:x<k:=by
  cases p with
  | zero=>cases hp
  | succ p =>
   obtain ⟨v,v1,v2,_⟩:=Ol h k p x (by omega) e
   omega
 have e2:(way ds k)[dAt ds j]?=some x/\dAt ds j<=dAt ds k:=by
  by_cases ejk:j=k
  ·subst ejk
   exact ⟨ej,Nat.le_refl _⟩
  ·obtain ⟨a,b⟩:=eV h hk j (by omega) (by omega) _ x ej hxk
   exact ⟨b,a⟩
 have:=R8 h k (dAt ds j) p x x (by omega) (by omega) e2.1 e
 omega
end TW
namespace TW
end TW
namespace TW
end TW
end
section
namespace L2
open PySem PySem.Spec PyProof.Rows
theorem rC {K:PySem.W.Frag}{J:It}{H1:Hp}{fr:St}{tc:TT}{te:TE}{Q:VK}(n:Nat)(f1 f2:Nat->V)(Pv:Addr->Nat->List V->Hp->Prop)(h0:∀ D H,H1 D=none->Al H1 H->Pv D 0 [] H)
  (stab:∀ D i ys H xs o,H D=some (.lst xs)->Pv D i ys H->Pv D i ys (upd H D o))(hz:∀ D i ys H,i<n->Pv D i ys H->ys.length<sizeLine)(psame:∀ D i ys H H',Al H H'->Pv D i ys H->Pv D i ys H')
  (hgo:∀ i H,i<n->Al H1 H->J.go i H)(hy:∀ i H v H',i<n->Al H1 H->J.yld i H v H'->∃ a,v=.ref a/\SqT K H' a [f1 i,f2 i]/\Al H H')(hst:∀ H,Al H1 H->J.stop n H)
  (turn:∀ D i ys H (A:VK) (R:Hp->Prop),i<n->Al H1 H->H1 D=none->H D=some (.lst ys)->Pv D i ys H->(∀ y H',Al H H'->Pv D (i+1) (ys++[y]) H'->A y H') ->
   tc (some (f1 i)::some (f2 i)::fr) H fun b H3=>if b=true then te (some (f1 i)::some (f2 i)::fr) H3 A else R H3)
  (fin:∀ D ys H,H1 D=none->Al H1 H->Pv D n ys H->H D=some (.lst ys)->Q (.ref D) H):P7 K J H1 fr tc te Q:=by
 intro D hD
 refine ⟨fun i m H=>i<=n/\m=n-i/\Al H1 H/\∃ ys,H D=some (.lst ys)/\Pv D i ys H,⟨n,Nat.zero_le _,rfl,Ah hD,[],Ac,h0 D _ hD (Ah hD)⟩,?_⟩
 rintro i m H ⟨hi,rfl,sm,ys,hl,hp⟩
 by_cases h:i=n
 ·subst h
  exact .inl ⟨hst H sm,fin D ys H hD sm hp hl⟩
 ·have hlt:i<n:=Nat.lt_of_le_of_ne hi h
  refine .inr ⟨hgo i H hlt sm,fun v H' hyl=>?_⟩
  obtain ⟨a,rfl,ht,s2⟩:=hy i H v H' hlt sm hyl
  refine ⟨a,_,_,rfl,ht,turn D i ys H' _ _ hlt (sm.trans s2) hD (s2 _ _ hl) (psame _ _ _ _ _ s2 hp) (fun y H4 s4 hp4=>?_)⟩
  refine ⟨ys,s4 _ _ (s2 _ _ hl),hz D i ys _ hlt hp,n-(i+1),by omega,by omega,rfl,fun b u e=>?_,ys++[y],Ac,stab _ _ _ _ _ _ (s4 _ _ (s2 _ _ hl)) hp4⟩
  rw [Ap (Ar e hD)]
  exact s4 _ _ (s2 _ _ (sm _ _ e))
theorem eR {K:PySem.W.Frag}{a b:Addr}{xs ys:List V}{H1:Hp}{fr:St}{tc:TT}{te:TE}{Q:VK}(ha:SqL K H1 a xs)(hb:SqL K H1 b ys)(Pv:Addr->Nat->List V->Hp->Prop)(h0:∀ D H,H1 D=none->Al H1 H->Pv D 0 [] H)
  (stab:∀ D i zs H us o,H D=some (.lst us)->Pv D i zs H->Pv D i zs (upd H D o))(hz:∀ D i zs H,i<min xs.length ys.length->Pv D i zs H->zs.length<sizeLine)(psame:∀ D i zs H H',Al H H'->Pv D i zs H->Pv D i zs H')
  (turn:∀ D (i:Nat) zs x y H (A:VK) (R:Hp->Prop),xs[i]?=some x->ys[i]?=some y->Al H1 H->H1 D=none->H D=some (.lst zs)->Pv D i zs H->(∀ y H',Al H H'->Pv D (i+1) (zs++[y]) H'->A y H') ->
   tc (some x::some y::fr) H fun b H3=>if b=true then te (some x::some y::fr) H3 A else R H3)
  (fin:∀ D zs H,H1 D=none->Al H1 H->Pv D (min xs.length ys.length) zs H->H D=some (.lst zs)->Q (.ref D) H):P7 K (Itz K a b) H1 fr tc te Q:=by
 refine rC (min xs.length ys.length) (fun i=>xs.getD i .non) (fun i=>ys.getD i .non) Pv h0 stab hz psame (fun i H hi sm=>⟨xs,ys,xs[i]'(by omega),ys[i]'(by omega),sm.seq ha,sm.seq hb,by simp,by simp⟩) (fun i H v H' hi sm h=>?_)
  (fun H sm=>⟨xs,ys,sm.seq ha,sm.seq hb,rfl⟩) (fun D i zs H A R hi sm=>turn D i zs _ _ H A R (by simp [show i<xs.length by omega]) (by simp [show i<ys.length by omega]) sm) fin
 obtain ⟨t,x,y,hn,rfl,h1,h2,rfl⟩:=h
 have e1:=h1 xs (sm.seq ha)
 have e2:=h2 ys (sm.seq hb)
 refine ⟨t,rfl,?_,Ah hn⟩
 simp only [List.getD,e1,e2,Option.getD_some]
 exact SqT.of Ac
section
variable {X:Cx}
def nO (ta:TA):TE:=fun σ H Q=>ta σ H fun vs H1=>∃ j k:Nat,vs=[.int 0,.int j,.int k]/\j<=100000/\0<k/\k<=100000/\∀ p,H1 p=none->Q (.ref p) (upd H1 p (.lst ((List.range ((j+k-1)/k)).map fun t:Nat=>V.int (t*k:Nat))))
theorem Sd {a b c:Expr}{ta:TA}{p q pos pos2:Pos}(hcal:X.calm=true)(hg:Gl X "list")(hm:X.mg "list"=none)(hg2:Gl X "range")(hm2:X.mg "range"=none)(ha:PA X [a,b,c] ta)
  (hs:starEach [a,b,c] X.env=[(false,eval a X.env),(false,eval b X.env),(false,eval c X.env)]:=by rfl)(hs2:starEach [b,c] X.env=[(false,eval b X.env),(false,eval c X.env)]:=by rfl)
  (hs3:starEach [Expr.Call (.Name "range" q) [a,b,c] [] pos2] X.env=[(false,eval (.Call (.Name "range" q) [a,b,c] [] pos2) X.env)]:=by rfl) :
  PE X (.Call (.Name "list" p) [.Call (.Name "range" q) [a,b,c] [] pos2] [] pos) (nO ta):=by
 intro pins s σ H Q I h
 refine wpAny_Call_Name_kw (Ei I hg hm Kl (PyProof.Rows.callWith_type1 ?_ hs3 rfl) (by decide) (by decide))
 rw [hs3]
 refine Calls.spliced_cons ?_
 show wpAny _ _ (eval (Expr.Call (.Name "range" q) [a,b,c] [] pos2) X.env) _ _ _
 refine wpAny_Call_Name_kw (Ei I hg2 hm2 boot_range (PyProof.Rows.callWith_type1 (thn (ha pos2 pins s σ H _ I h) fun us s1 ⟨vs,H1,I1,r1,q1⟩=>?_) (by rw [hs,hs2]) (by rw [hs2];rfl)) (by decide) (by decide))
 obtain ⟨j,k,e,hj,hk,hk2,q⟩:=q1
 subst e
 cases r1 with
 | cons r rr =>
  cases rr with
  | cons r' rr =>
   cases rr with
   | cons r'' rr =>
    cases rr
    obtain ⟨t,rfl⟩:=r
    obtain ⟨t',rfl⟩:=r'
    obtain ⟨t'',rfl⟩:=r''
    refine call_range_3 (by omega) (Calls.spliced_nil ?_) (.inl (PyProof.noPylong_small (by omega)))
    have e2:Builtin.Range.rangeSize (0:Int) (j:Int) (k:Int)=(((j+k-1)/k:Nat):Int):=by
     unfold Builtin.Range.rangeSize
     rw [if_pos (by omega)]
     by_cases hj0:j=0
     ·subst hj0
      rw [if_neg (by omega),Nat.div_eq_of_lt (by omega)]
      rfl
     ·rw [if_pos (by omega),show ((j:Int)-0-1)=((j-1:Nat):Int) by omega,<- Int.natCast_ediv,show j+k-1=j-1+k by omega,Nat.add_div_right _ hk]
      rfl
    have hn:(j+k-1)/k<=j:=by
     by_cases hj0:j=0
     ·subst hj0
      rw [Nat.div_eq_of_lt (by omega)]
      exact Nat.le_refl _
     ·rw [show j+k-1=j-1+k by omega,Nat.add_div_right _ hk]
      have:=Nat.div_le_self (j-1) k
      omega
    generalize (j+k-1)/k=m at *
    have hsm:Builtin.Range.small (0:Int) (j:Int) (k:Int)=true:=by
     unfold Builtin.Range.small
     rw [e2,if_pos (by omega)]
     simp only [Builtin.Range.rangeFitsLong,Bool.and_eq_true,Bool.or_eq_true,decide_eq_true_eq,beq_iff_eq]
     refine ⟨⟨⟨⟨?_,?_⟩,?_⟩,?_⟩,.inr ?_⟩<;>omega
    refine call_list_range (I1.ok.hd hcal) (IsRange.new ..) hsm e2 (by omega) fun h' tk acc c kp ho it=>?_
    have hv:A6 ((List.range (m)).map fun t:Nat=>V.int (t*k:Nat)) acc.toList:=J2 (by rw [List.length_map,List.length_range,Array.length_toList,it.1]) fun i x u e1 e3=>by
     have hi:i<m:=by have:=(List.getElem?_eq_some_iff.mp e1).1;simpa using this
     rw [List.getElem?_map,List.getElem?_range hi] at e1
     cases e1
     have e4:acc[i]?=some u:=by rw [<- Array.getElem?_toList];exact e3
     obtain ⟨t,e5⟩:=it.2 i u e4
     exact ⟨t,by rw [e5,show (0:Int)+(i:Int)*(k:Int)=((i*k:Nat):Int) by rw [Int.zero_add,Int.natCast_mul]]⟩
    have up:∀ b o,s1.heap.get? b=some o->h'.get? b=some o:=fun b o e=>kp _ _ (Heap.get?_push_of_some _ e)
    have hle:s1.heap.objs.size<=(s1.heap.push { cls:=.type "range",data:=.fields #[.int 0 t,.int j t',.int k t''] }).objs.size:=by rw [Heap.size_push];omega
    refine ⟨.ref _,_,I1.laid (t':=tk) (o:=.lst _) up hle ⟨?_,acc.toList,c,hv,ho⟩,rfl,q _ (I1.hok.fresh hle)⟩
    rw [List.length_map,List.length_range]
    exact Nat.le_of_lt (Nat.lt_of_le_of_lt (show m<=100000 by omega) (by decide))
theorem qC {σ:St}{H:Hp}{Q:VK}{ta:TA}(h:ta σ H fun vs H1=>∃ j k:Nat,vs=[.int 0,.int j,.int k]/\j<=100000/\0<k/\k<=100000/\∀ p,H1 p=none->Q (.ref p) (upd H1 p (.lst ((List.range ((j+k-1)/k)).map fun t:Nat=>V.int (t*k:Nat))))):nO ta σ H Q:=h
end
section
variable {X:Cx}
theorem Sq (K:PySem.W.Frag){X:Cx}(hc:X.calm=true)(h:X.K=K:=by rfl):Fo X (.builtin "min") (sD K):=by
 subst h
 exact Uw hc
theorem dQ (K:PySem.W.Frag){X:Cx}(hc:X.calm=true)(h:X.K=K:=by rfl):Fo X (.builtin "max") (rZ K):=by
 subst h
 exact jC hc
theorem vF (K:PySem.W.Frag){X:Cx}{T name id:String}{r:V->List V->Hp->VK->Prop}{o e:Expr}{es:List Expr}{to:TE}{t:TA}{apos cpos:Pos}(pa:PlainAttrs T)(slot:Slot T name id)(hty:typeOf (.builtin id)=pure (.type "method_descriptor"))(hm:MtR X id r)(ho:PE X o to)(ha:PA X (e::es) t)(h:X.K=K:=by rfl)
  (hbase:attributeBase o name X.env (eval o X.env)=eval o X.env:=by rfl)
  (hfew:((backTo cpos (starEach (e::es) X.env)).all (fun x=>!x.1)&&(backToKw cpos (keywordEach [] X.env)).all (fun x=>x.1.isSome)
   && decide ((e::es).length+([]:List Keyword).length+(if ([]:List Keyword).isEmpty then 0 else 1)<30))=true:=by rfl)
  (hline:(apos.endLine==cpos.line)=true:=by rfl)(hs:starEach (e::es) X.env=(false,eval e X.env)::starEach es X.env:=by rfl)(hplain:(backTo cpos (starEach es X.env)).any (·.1)=false:=by rfl) :
  PE X (.Call (.Attribute o name apos) (e::es) [] cpos) (tBM K T r to t):=by
 subst h
 exact Eg pa slot hty hm ho ha hbase hfew hline hs hplain
end
theorem lN {K:PySem.W.Frag}{a:Addr}{xs:List V}{H1:Hp}{fr:St}{tc:TT}{te:TE}{Q:VK}(hl:SqL K H1 a xs)(Pv:Nat->List V->Hp->Prop)(h0:∀ H,Al H1 H->Pv 0 [] H)
  (stab:∀ i ys H D zs o,H D=some (.lst zs)->Pv i ys H->Pv i ys (upd H D o))(hz:∀ i ys H,i<xs.length->Pv i ys H->ys.length<sizeLine)
  (turn:∀ (i:Nat) ys x H (A:VK) (R:Hp->Prop),xs[i]?=some x->Al H1 H->Pv i ys H->(∀ y H',Al H H'->Pv (i+1) (ys++[y]) H'->A y H')->tc (some x::fr) H fun b H3=>if b=true then te (some x::fr) H3 A else R H3)
  (fin:∀ D ys H,H1 D=none->Al H1 H->Pv xs.length ys H->H D=some (.lst ys)->Q (.ref D) H):S3 (Itl K a) H1 fr tc te Q:=by
 refine mJ xs.length (fun i=>xs.getD i .non) Pv h0 stab hz (fun i H hi sm=>⟨xs,xs[i],sm.seq hl,by simp [hi]⟩) (fun i H x H' hi sm h=>⟨?_,h.1⟩) (fun H sm=>⟨xs,sm.seq hl,Nat.le_refl _⟩) (fun i ys H A R hi sm=>turn i ys _ H A R (by simp [hi]) sm) fin
 have:=h.2 xs (sm.seq hl)
 simp [List.getD,this]
open PySem.W
structure tX (P:Program) (w:World) (K:PySem.W.Frag) (mg:Str->Option Value) (base:Heap) (x m:Str) (k:Nat) (ps:List Str) (sp:Sp):Prop where
 ex:∃ (W f:Addr) (fd:FuncData),Ax P w K mg base CX0 k f fd ps sp/\Gp K fd ps []/\mg x=some (.ref W)/\specialIn K (.ref W) "__getattribute__"=some (some (.builtin "type.__getattribute__")) /\
  readsIn K W (.type "type")=true/\findCls K (.ref W) (.type "type") m=some (.val (.ref f))/\keepIn K (.ref f)=true
section
variable {X:Cx} {x m:Str} {k:Nat} {ps:List Str} {sp:Sp} {np apos pos:Pos} {e:Expr} {es:List Expr} {t:TA} {pl:Sem Bool}
theorem xS (M:tX X.prog X.w X.K X.mg X.base x m k ps sp)(hr:Dd k X.A)(hg:Gl X x)(ha:PA X (e::es) t)(hdb:(x==("__debug__":Str))=false:=by decide)
  (hst:starEach (e::es) X.env=(false,eval e X.env)::starEach es X.env:=by rfl)(hpl:(backTo pos (starEach es X.env)).any (·.1)=false:=by rfl)
  (ht:eval (.Call (.Attribute (.Name x np) m apos) (e::es) [] pos) X.env=(do
   let ov <- eval (.Name x np) X.env
   standAt apos.atName
   let (f,first) <- holding [ov] (getMethod ov m pl)
   callWith pos f first (backTo pos (starEach (e::es) X.env)) (backToKw pos (keywordEach [] X.env))):=by rfl) :
  PE X (.Call (.Attribute (.Name x np) m apos) (e::es) [] pos) (fQ sp [] E0 t):=by
 obtain ⟨W,f,fd,F,hb,hm,ga,rd,ini,kp⟩:=M.ex
 intro pins s σ H Q I h
 refine methodCall_KW (M8 I hg hm ?_ hdb) ht
 refine method_cls I.kIn ga (cls_value I.kIn rd ini rfl ?_)
 refine PySem.W.callWith_K (h₀:=X.base) I.ok.mod.kin kp (thn (ha pos pins _ σ H _ (I.tok (s.toks+1)) h) fun us s1 ⟨vs,H1,I1,r,q⟩=>⟨I1.kIn,?_⟩) hst hpl
 exact Xv F hr hb .nil aJ I1 r q
end
theorem lZ {K:PySem.W.Frag}{J:It}{H1:Hp}{fr:St}{tc:TT}{te:TE}{Q:VK}(n:Nat)(f1 f2:Nat->V)(Pv:Addr->Nat->List V->Hp->Prop)(h0:∀ D H,H1 D=none->Al H1 H->Pv D 0 [] H)
  (stab:∀ D i ys H xs o,H D=some (.lst xs)->Pv D i ys H->Pv D i ys (upd H D o))(hz:∀ D i ys H,i<n->Pv D i ys H->ys.length<sizeLine)(psame:∀ D i ys H H',Al H H'->Pv D i ys H->Pv D i ys H')
  (hgo:∀ i H,i<n->Al H1 H->J.go i H)(hy:∀ i H v H',i<n->Al H1 H->J.yld i H v H'->∃ a,v=.ref a/\SqT K H' a [f1 i,f2 i]/\Al H H')(hst:∀ H,Al H1 H->J.stop n H)
  (turn:∀ D i ys H (A:VK) (R:Hp->Prop),i<n->Al H1 H->H1 D=none->H D=some (.lst ys)->Pv D i ys H->(∀ H',Al H H'->Pv D (i+1) ys H'->R H')->(∀ y H',Al H H'->Pv D (i+1) (ys++[y]) H'->A y H') ->
   tc (some (f1 i)::some (f2 i)::fr) H fun b H3=>if b=true then te (some (f1 i)::some (f2 i)::fr) H3 A else R H3)
  (fin:∀ D ys H,H1 D=none->Al H1 H->Pv D n ys H->H D=some (.lst ys)->Q (.ref D) H):P7 K J H1 fr tc te Q:=by
 intro D hD
 refine ⟨fun i m H=>i<=n/\m=n-i/\Al H1 H/\∃ ys,H D=some (.lst ys)/\Pv D i ys H,⟨n,Nat.zero_le _,rfl,Ah hD,[],Ac,h0 D _ hD (Ah hD)⟩,?_⟩
 rintro i m H ⟨hi,rfl,sm,ys,hl,hp⟩
 by_cases h:i=n
 ·subst h
  exact .inl ⟨hst H sm,fin D ys H hD sm hp hl⟩
 ·have hlt:i<n:=Nat.lt_of_le_of_ne hi h
  refine .inr ⟨hgo i H hlt sm,fun v H' hyl=>?_⟩
  obtain ⟨a,rfl,ht,s2⟩:=hy i H v H' hlt sm hyl
  refine ⟨a,_,_,rfl,ht,turn D i ys H' _ _ hlt (sm.trans s2) hD (s2 _ _ hl) (psame _ _ _ _ _ s2 hp) (fun H3 s3 hp3=>?_) (fun y H4 s4 hp4=>?_)⟩
  ·exact ⟨n-(i+1),by omega,by omega,rfl,(sm.trans s2).trans s3,ys,s3 _ _ (s2 _ _ hl),hp3⟩
  refine ⟨ys,s4 _ _ (s2 _ _ hl),hz D i ys _ hlt hp,n-(i+1),by omega,by omega,rfl,fun b u e=>?_,ys++[y],Ac,stab _ _ _ _ _ _ (s4 _ _ (s2 _ _ hl)) hp4⟩
  rw [Ap (Ar e hD)]
  exact s4 _ _ (s2 _ _ (sm _ _ e))
theorem jN {K:PySem.W.Frag}{a:Addr}{xs:List V}{H1:Hp}{fr:St}{tc:TT}{te:TE}{Q:VK}(ha:SqL K H1 a xs)(Pv:Addr->Nat->List V->Hp->Prop)(h0:∀ D H,H1 D=none->Al H1 H->Pv D 0 [] H)
  (stab:∀ D i zs H us o,H D=some (.lst us)->Pv D i zs H->Pv D i zs (upd H D o))(hz:∀ D i zs H,i<xs.length->Pv D i zs H->zs.length<sizeLine)(psame:∀ D i zs H H',Al H H'->Pv D i zs H->Pv D i zs H')
  (turn:∀ D (i:Nat) zs x H (A:VK) (R:Hp->Prop),xs[i]?=some x->Al H1 H->H1 D=none->H D=some (.lst zs)->Pv D i zs H->(∀ H',Al H H'->Pv D (i+1) zs H'->R H')->(∀ y H',Al H H'->Pv D (i+1) (zs++[y]) H'->A y H') ->
   tc (some (.int i)::some x::fr) H fun b H3=>if b=true then te (some (.int i)::some x::fr) H3 A else R H3)
  (fin:∀ D zs H,H1 D=none->Al H1 H->Pv D xs.length zs H->H D=some (.lst zs)->Q (.ref D) H):P7 K (Ite K a) H1 fr tc te Q:=by
 refine lZ xs.length (fun i=>.int i) (fun i=>xs.getD i .non) Pv h0 stab hz psame (fun i H hi sm=>⟨xs,xs[i]'(by omega),sm.seq ha,by simp⟩) (fun i H v H' hi sm h=>?_)
  (fun H sm=>⟨xs,sm.seq ha,rfl⟩) (fun D i zs H A R hi sm=>turn D i zs _ H A R (by simp [hi]) sm) fin
 obtain ⟨t,x,hn,rfl,h1,rfl⟩:=h
 have e1:=h1 xs (sm.seq ha)
 refine ⟨t,rfl,?_,Ah hn⟩
 simp only [List.getD,e1,Option.getD_some]
 exact SqT.of Ac
end L2
end
section
namespace HD
open PySem PySem.W PySem.Calls PyProof.Rows
def oneA (s0:SharedT)(h0:Heap)(m:Nat)(p:Program)(M:Nat)(w:World) :=
 (Hl treeTable p w m (some (.ref 6)) M s0 (topStub p)).map fun s=>staticsOk (importedModules p.main.body) h0 s.abs.heap&&namesBound p s.abs.heap&&gensDone s.abs&&laidKept h0 s.abs.heap
def oneB (s0:SharedT)(m:Nat)(p q:Program)(loose:List Str)(M:Nat)(w:World) :=
 (Hl treeTable p w m (some (.ref 6)) M s0 (topStub p)).map fun s=>openSeen q loose (importedModules p.main.body) (fun _=>true) true s.abs
def nK {α:Type}(Yf:Shared->α)(s0:SharedT)(m:Nat)(p:Program)(M:Nat)(w:World) :=
 (Hl treeTable p w m (some (.ref 6)) M s0 (topStub p)).map fun s=>Yf s.abs
theorem yF {α:Type}{Yf:Shared->α}{s0:SharedT}{h0:Heap}{m:Nat}{p q:Program}{loose:List Str}{M:Nat}{w:World}{a:α}
  (hA:oneA s0 h0 m p M w=some true)(hB:oneB s0 m p q loose M w=some (openGood q loose))(hC:nK Yf s0 m p M w=some a) :
  bothT Yf s0 h0 m p q loose M w=some (true,openGood q loose,a):=by
 unfold oneA at hA
 unfold oneB at hB
 unfold nK at hC
 unfold bothT cD
 obtain ⟨s,r,l⟩:=Option.map_eq_some_iff.mp hA
 rw [r] at hB hC ⊢
 have hB:=Option.some.inj hB
 have hC:=Option.some.inj hC
 exact congrArg some (Prod.ext l (Prod.ext hB hC))
theorem left_of3 {p q:Program}{loose:List Str}{α:Type}{Yf:Shared->α}{Ya:World->α}{M N:Nat}(e:opening p=plainProg p.main.scope.names)(f:∀ s,fenceModules? p s=some s)(hN:Nat.ble 600 N=true)(le:Nat.ble M N=true)
  (hA:∀ w:World,(fun os=>oneA (bootT w os) (boot_heap w.params) bootSize p M w)=fun _=>some true)(hB:∀ w:World,(fun os=>oneB (bootT w os) bootSize p q loose M w)=fun _=>some (openGood q loose))
  (hC:∀ w:World,(fun os=>nK Yf (bootT w os) bootSize p M w)=fun _=>some (Ya w)):LeftO p q loose (fun _=>true) Yf Ya N :=
 qS e f hN le fun w=>funext fun os=>yF (congrFun (hA w) os) (congrFun (hB w) os) (congrFun (hC w) os)
def bJ (s:SharedT)(a:Nat):Option Obj:=match Nat.blt a s.n with
 | true=>(match s.tree.get a with
  | some o=>alive o
  | none=>none)
 | false=>none
theorem lJ {s:SharedT}{a:Nat}{o:Obj}(h:bJ s a=some o):s.abs.heap.get? a=some o:=by
 unfold bJ at h
 cases hb:Nat.blt a s.n with
 | false=>rw [hb] at h;cases h
 | true =>
  rw [hb] at h
  cases hg:s.tree.get a with
  | none=>rw [hg] at h;cases h
  | some u =>
   rw [hg] at h
   have hlt:a<s.n:=by
    have:=Nat.le_of_ble_eq_true hb
    omega
   exact (abs_get hlt hg).trans h
theorem Sf {s:SharedT}:∀ {as:List Nat} {L:List (Option Obj)},(∀ x∈L,x.isSome=true)->as.map (bJ s)=L->as.map s.abs.heap.get?=L
 | [],L,_,e=>e
 | a::as,[],_,e=>by cases e
 | a::as,x::L,h,e=>by
  obtain ⟨e1,e2⟩:=List.cons.inj e
  obtain ⟨o,ho⟩:=Option.isSome_iff_exists.mp (h x List.mem_cons_self)
  subst ho
  show s.abs.heap.get? a::as.map s.abs.heap.get?=_
  rw [lJ e1,Sf (fun y hy=>h y (List.mem_cons_of_mem _ hy)) e2]
def oneP (as ts:List Addr)(s0:SharedT)(m:Nat)(p:Program)(M:Nat)(w:World) :=
 (Hl treeTable p w m (some (.ref 6)) M s0 (topStub p)).map fun s=>(as.map (bJ s),ts.map (bJ s))
theorem hC_km {K:Params->Frag}{as:List Addr}{e:∀ P,as=(K P).map (·.1)}{ts:List Addr}{p:Program}{M:Nat}
  (h:∀ w:World,(fun os=>oneP as ts (bootT w os) bootSize p M w)=fun _=>some ((K w.params).map fun q=>some q.2,ts.map fun _=>some (tabObj #[]))) :
  ∀ w:World,(fun os=>nK (kmHook K as e ts).obs (bootT w os) bootSize p M w)=fun _=>some ((kmHook K as e ts).val w):=fun w=>funext fun os=>by
 have h:=congrFun (h w) os
 unfold oneP at h
 unfold nK
 obtain ⟨s,r,l⟩:=Option.map_eq_some_iff.mp h
 obtain ⟨l1,l2⟩:=Prod.mk.inj l
 rw [r]
 show some (as.map s.abs.heap.get?,ts.map s.abs.heap.get?)=some ((K w.params).map fun q=>some q.2,ts.map fun _=>some (tabObj #[]))
 rw [Sf (fun x hx=>by obtain ⟨q,_,rfl⟩:=List.mem_map.mp hx;rfl) l1,Sf (fun x hx=>by obtain ⟨q,_,rfl⟩:=List.mem_map.mp hx;rfl) l2]
end HD
lay_quick HD.oneP
theorem HD.oneP_eq:@HD.oneP=@PySem.W.Fast.tw13831889492591282369:=PySem.W.Fast.te13831889492591282369
lay_quick HD.oneA
lay_quick HD.oneB
theorem HD.oneA_eq:@HD.oneA=@PySem.W.Fast.tw6247638121477898359:=PySem.W.Fast.te6247638121477898359
theorem HD.oneB_eq:@HD.oneB=@PySem.W.Fast.tw4394042064226896843:=PySem.W.Fast.te4394042064226896843
end
section
namespace L2
open PySem PySem.Spec PyProof.Rows
theorem cP:typeLookup (.type "zip") "__len__"=pure none:=by rw [typeLookup_type,builtinLookup_eq_fast];kernel_rfl
theorem Z4:typeLookup (.type "zip") "__length_hint__"=pure none:=by rw [typeLookup_type,builtinLookup_eq_fast];kernel_rfl
def Oe (h:Heap)(lo:Nat)(xs ys acc:Array Value):Prop:=(∀ (j:Nat) v,acc[j]?=some v->∃ T x y,v=Value.ref T/\lo<=T/\xs[j]?=some x/\ys[j]?=some y/\IsPair h T x y)/\∀ (j k:Nat) v,acc[j]?=some v->acc[k]?=some v->j=k
theorem Oe.keep {h h':Heap}{lo:Nat}{xs ys acc:Array Value}(p:Oe h lo xs ys acc)(k:∀ b o,lo<=b->h.get? b=some o->h'.get? b=some o):Oe h' lo xs ys acc:=⟨fun j v e=>by
 obtain ⟨T,x,y,e1,e2,e3,e4,e5⟩:=p.1 j v e
 exact ⟨T,x,y,e1,e2,e3,e4,k _ _ e2 e5⟩,p.2⟩
theorem Oe.push {h:Heap}{lo T:Nat}{x y:Value}{xs ys acc:Array Value}(p:Oe h lo xs ys acc)(hn:∀ j:Nat,acc[j]?≠some (.ref T))(hT:lo<=T)(hx:xs[acc.size]?=some x)(hy:ys[acc.size]?=some y)(hp:IsPair h T x y):Oe h lo xs ys (acc.push (.ref T)):=by
 refine ⟨fun j v e=>?_,fun j k v e1 e2=>?_⟩
 ·rw [Array.getElem?_push] at e
  by_cases hj:j=acc.size
  ·rw [if_pos hj] at e
   cases e
   rw [hj]
   exact ⟨T,x,y,rfl,hT,hx,hy,hp⟩
  ·rw [if_neg hj] at e
   exact p.1 j v e
 ·rw [Array.getElem?_push] at e1 e2
  by_cases hj:j=acc.size
  ·by_cases hk:k=acc.size
   ·rw [hj,hk]
   ·rw [if_pos hj] at e1
    rw [if_neg hk] at e2
    cases e1
    exact absurd e2 (hn k)
  ·by_cases hk:k=acc.size
   ·rw [if_neg hj] at e1
    rw [if_pos hk] at e2
    cases e2
    exact absurd e1 (hn j)
   ·rw [if_neg hj] at e1
    rw [if_neg hk] at e2
    exact p.2 j k v e1 e2
theorem Oe.below {h:Heap}{lo:Nat}{xs ys acc:Array Value}(p:Oe h lo xs ys acc)(j:Nat):acc[j]?≠some (.ref h.objs.size):=fun e=>by
 obtain ⟨T,x,y,e1,_,_,_,e5⟩:=p.1 j _ e
 cases e1
 exact Nat.lt_irrefl _ (Heap.lt_size e5)
section
variable {prog:Program} {w:World} {A:Around} {E:Value->Shared->Prop} {R:Result->Shared->Prop}
abbrev lK (acc:Array Value)(c:Nat):Obj:={ cls:=.type "list",dict:=none,data:=.seq acc c,slots:=#[] }
theorem tI {S z TI TO i1 i2 l1 l2 T lo:Addr}{xs ys:Array Value}(D:DzA S z TI TO i1 i2 l1 l2)(hTz:T≠z)(hT1:T≠i1)(hT2:T≠i2)(hTS:T≠S)(hlo:z<lo/\i1<lo/\i2<lo/\S<lo)(hh:A.handled=none)(he:xs.size=ys.size)(hsz:xs.size<=sizeLine) :
  ∀ (m i:Nat) (s:Shared) (c:Bool) (acc:Array Value) (n:Nat) (oT:Obj),xs.size-i=m->i<=xs.size->Nn s.heap z TI TO T c->s.heap.get? T=some oT->IsPair s.heap TI (.ref i1) (.ref i2) ->
   s.heap.IsListIter i1 l1 i->s.heap.IsListIter i2 l2 i->s.heap.IsList l1 xs->s.heap.IsList l2 ys->s.heap.get? S=some (lK acc n)->acc.size=i->Oe s.heap lo xs ys acc->lo<=s.heap.objs.size ->
   (∀ h' acc' n',h'.get? S=some (lK acc' n')->acc'.size=xs.size->Oe h' lo xs ys acc'->(∀ b o,b≠z->b≠i1->b≠i2->b≠S->s.heap.get? b=some o->h'.get? b=some o)->R (.ok (.ret .none)) { s with heap:=h' }) ->
   codeAny (model prog w) A (.builtin "list.extend.loop" ⟨[.ref S,.ref z,.none],[]⟩) R s:=by
 have far:∀ b,lo<=b->b≠z/\b≠i1/\b≠i2/\b≠S:=fun b hb=>⟨Nat.ne_of_gt (Nat.lt_of_lt_of_le hlo.1 hb),Nat.ne_of_gt (Nat.lt_of_lt_of_le hlo.2.1 hb),Nat.ne_of_gt (Nat.lt_of_lt_of_le hlo.2.2.1 hb),Nat.ne_of_gt (Nat.lt_of_lt_of_le hlo.2.2.2 hb)⟩
 intro m
 induction m with
 | zero =>
  intro i s c acc n oT hm hi hz hT hTI h1 h2 hl1 hl2 hS hac hp hls q
  refine codeAny_builtin PySem.F.entry_extend_loop ?_
  rw [Around.under_plainId PySem.F.plain_extend_loop _]
  show wpAny _ A.in1 (pyNext (.ref z) >>= _) _ _ s
  refine wpAny_bind (mY (by exact hh) D.za hz hT hTI h1 hl1 (Array.getElem?_eq_none (by omega)) fun h' kp=>?_)
  refine wpAny_pure ?_
  exact q h' acc n (kp _ _ D.dz D.d1 D.d2 hS) (by omega) (hp.keep fun b o hb e=>kp b o (far b hb).1 (far b hb).2.1 (far b hb).2.2.1 e) fun b o b1 b2 b3 _ e=>kp b o b1 b2 b3 e
 | succ m ih =>
  intro i s c acc n oT hm hi hz hT hTI h1 h2 hl1 hl2 hS hac hp hls q
  obtain ⟨x,hx⟩:∃ x,xs[i]?=some x:=⟨_,Array.getElem?_eq_getElem (show i<xs.size by omega)⟩
  obtain ⟨y,hy⟩:∃ y,ys[i]?=some y:=⟨_,Array.getElem?_eq_getElem (show i<ys.size by omega)⟩
  refine codeAny_builtin PySem.F.entry_extend_loop ?_
  rw [Around.under_plainId PySem.F.plain_extend_loop _]
  show wpAny _ A.in1 (pyNext (.ref z) >>= _) _ _ s
  refine wpAny_bind (iV D.za hz hT hTI h1 h2 hl1 hl2 hx hy fun h' hz' h1' h2' hpr hsz' kp=>?_)
  have hS':=kp _ _ D.dz D.d1 D.d2 hS
  show wpAny _ A.in1 (updateSeq S (·.push (.ref s.heap.objs.size)) >>= _) _ _ _
  refine wpAny_bind ?_
  have oth:∀ b o,b≠S->h'.get? b=some o->(h'.update S (Obj.mapSeq (·.push (.ref s.heap.objs.size)))).get? b=some o:=fun b o hb e=>(Heap.get?_update_other _ _ (Ne.symm hb)).trans e
  have k2:∀ b o,b≠z->b≠i1->b≠i2->b≠S->s.heap.get? b=some o->(h'.update S (Obj.mapSeq (·.push (.ref s.heap.objs.size)))).get? b=some o:=fun b o b1 b2 b3 b4 e=>oth b o b4 (kp b o b1 b2 b3 e)
  refine wpAny_updateSeq hS' rfl (wpAny_pure ⟨plainId_quiet PySem.F.plain_extend_loop _,?_⟩) (by rw [hac];omega) (by show (acc.push _).size<=sizeLine+1;rw [Array.size_push,hac];omega)
  refine ih (i+1) _ true (acc.push (.ref s.heap.objs.size)) _ oT (by omega) (by omega) (oth _ _ D.dz.symm hz') (k2 _ _ hTz hT1 hT2 hTS hT) (k2 _ _ D.za.TIz D.za.TIi1 D.za.TIi2 D.dI.symm hTI) (h1'.at fun o e=>oth _ o D.d1.symm e) (h2'.at fun o e=>oth _ o D.d2.symm e)
   (hl1.at fun o e=>k2 _ o D.za.l1z D.za.l1i1 D.za.l1i2 D.dl.symm e) (hl2.at fun o e=>k2 _ o D.za.l2z D.za.l2i1 D.za.l2i2 D.dm.symm e) (Heap.get?_update_self _ hS' rfl) (by rw [Array.size_push,hac]) ?_ (by rw [Heap.size_update,hsz'];exact Nat.le_succ_of_le hls) fun h3 acc' n' hS3 hac3 hp3 kp3=>?_
  ·have far1:=far _ hls
   refine ((hp.keep fun b o hb e=>kp b o (far b hb).1 (far b hb).2.1 (far b hb).2.2.1 e).push hp.below hls (by rw [hac];exact hx) (by rw [hac];exact hy) hpr).keep fun b o hb e=>oth b o (far b hb).2.2.2 e
  ·exact q h3 acc' n' hS3 hac3 hp3 fun b o b1 b2 b3 b4 e=>kp3 b o b1 b2 b3 b4 (k2 b o b1 b2 b3 b4 e)
theorem iD {s:Shared}{S z TI TO i1 i2 l1 l2 lo:Addr}{a b:Value}{xs ys:Array Value}{n:Nat}(D:DzA S z TI TO i1 i2 l1 l2)(hlo:z<lo/\i1<lo/\i2<lo/\S<lo/\TO<lo)(hh:A.handled=none)(he:xs.size=ys.size)(hsz:xs.size<=sizeLine)
  (hz:IsZip s.heap z TI TO .none)(hTO:IsPair s.heap TO a b)(hTI:IsPair s.heap TI (.ref i1) (.ref i2))(h1:s.heap.IsListIter i1 l1 0)(h2:s.heap.IsListIter i2 l2 0)(hl1:s.heap.IsList l1 xs)(hl2:s.heap.IsList l2 ys)(hS:s.heap.get? S=some (lK #[] n))(hls:lo<=s.heap.objs.size)
  (q:∀ h' acc' n',h'.get? S=some (lK acc' n')->acc'.size=xs.size->Oe h' lo xs ys acc'->(∀ b o,b≠z->b≠TO->b≠i1->b≠i2->b≠S->s.heap.get? b=some o->h'.get? b=some o)->R (.ok (.ret .none)) { s with heap:=h' }) :
  codeAny (model prog w) A (.builtin "list.extend.loop" ⟨[.ref S,.ref z,.none],[]⟩) R s:=by
 have far:∀ b,lo<=b->b≠z/\b≠i1/\b≠i2/\b≠S/\b≠TO:=fun b hb=>⟨Nat.ne_of_gt (Nat.lt_of_lt_of_le hlo.1 hb),Nat.ne_of_gt (Nat.lt_of_lt_of_le hlo.2.1 hb),Nat.ne_of_gt (Nat.lt_of_lt_of_le hlo.2.2.1 hb),Nat.ne_of_gt (Nat.lt_of_lt_of_le hlo.2.2.2.1 hb),Nat.ne_of_gt (Nat.lt_of_lt_of_le hlo.2.2.2.2 hb)⟩
 refine codeAny_builtin PySem.F.entry_extend_loop ?_
 rw [Around.under_plainId PySem.F.plain_extend_loop _]
 show wpAny _ A.in1 (pyNext (.ref z) >>= _) _ _ s
 rcases Nat.eq_zero_or_pos xs.size with h0 | h0
 ·refine wpAny_bind (wpAny_pyNext_zip_end (by exact hh) D.za hz hTI hTO h1 h2 hl1 hl2 (.inl (Array.getElem?_eq_none (by omega))) fun h' kp=>?_)
  refine wpAny_pure ?_
  exact q h' #[] n (kp _ _ D.dz D.dO D.d1 D.d2 hS) (by rw [h0];rfl) ⟨fun j v e=>by simp at e,fun j k v e=>by simp at e⟩ fun b o b1 b2 b3 b4 _ e=>kp b o b1 b2 b3 b4 e
 ·obtain ⟨x,hx⟩:∃ x,xs[0]?=some x:=⟨_,Array.getElem?_eq_getElem h0⟩
  obtain ⟨y,hy⟩:∃ y,ys[0]?=some y:=⟨_,Array.getElem?_eq_getElem (show 0<ys.size by omega)⟩
  refine wpAny_bind (wpAny_pyNext_zip_item D.za hz hTI hTO h1 h2 hl1 hl2 hx hy fun h' hz' _ h1' h2' hpr hsz' kp=>?_)
  have hS':=kp _ _ D.dz D.dO D.d1 D.d2 hS
  have lt:∀ {c o},s.heap.get? c=some o->s.heap.objs.size≠c:=fun e=>Nat.ne_of_gt (Heap.lt_size e)
  show wpAny _ A.in1 (updateSeq S (·.push (.ref s.heap.objs.size)) >>= _) _ _ _
  refine wpAny_bind ?_
  have oth:∀ b o,b≠S->h'.get? b=some o->(h'.update S (Obj.mapSeq (·.push (.ref s.heap.objs.size)))).get? b=some o:=fun b o hb e=>(Heap.get?_update_other _ _ (Ne.symm hb)).trans e
  have k2:∀ b o,b≠z->b≠TO->b≠i1->b≠i2->b≠S->s.heap.get? b=some o->(h'.update S (Obj.mapSeq (·.push (.ref s.heap.objs.size)))).get? b=some o:=fun b o b1 b2 b3 b5 b4 e=>oth b o b4 (kp b o b1 b2 b3 b5 e)
  refine wpAny_updateSeq hS' rfl (wpAny_pure ⟨plainId_quiet PySem.F.plain_extend_loop _,?_⟩) (by show (#[]:Array Value).size<=_;exact Nat.zero_le _) (by show ((#[]:Array Value).push _).size<=sizeLine+1;rw [Array.size_push];exact Nat.succ_le_succ (Nat.zero_le _))
  refine tI (T:=s.heap.objs.size) D (lt hz) (by obtain ⟨_,e,_⟩:=h1;exact lt e) (by obtain ⟨_,e,_⟩:=h2;exact lt e) (lt hS) ⟨hlo.1,hlo.2.1,hlo.2.2.1,hlo.2.2.2.1⟩ hh he hsz _ 1 _ false ((#[]:Array Value).push (.ref s.heap.objs.size)) _ _ rfl h0 (oth _ _ D.dz.symm hz') (oth _ _ (lt hS) hpr) (k2 _ _ D.za.TIz D.za.TITO D.za.TIi1 D.za.TIi2 D.dI.symm hTI) (h1'.at fun o e=>oth _ o D.d1.symm e) (h2'.at fun o e=>oth _ o D.d2.symm e)
   (hl1.at fun o e=>k2 _ o D.za.l1z D.za.l1TO D.za.l1i1 D.za.l1i2 D.dl.symm e) (hl2.at fun o e=>k2 _ o D.za.l2z D.za.l2TO D.za.l2i1 D.za.l2i2 D.dm.symm e) (Heap.get?_update_self _ hS' rfl) rfl ?_ (by rw [Heap.size_update,hsz'];exact Nat.le_succ_of_le hls) fun h3 acc' n' hS3 hac3 hp3 kp3=>?_
  ·refine (Oe.push (acc:=#[]) ⟨fun j v e=>by simp at e,fun j k v e=>by simp at e⟩ (fun j e=>by simp at e) hls hx hy hpr).keep fun b o hb e=>oth b o (far b hb).2.2.2.1 e
  ·exact q h3 acc' n' hS3 hac3 hp3 fun b o b1 b2 b3 b5 b4 e=>kp3 b o b1 b3 b5 b4 (k2 b o b1 b2 b3 b5 b4 e)
theorem Tj {s:Shared}{z TI TO i1 i2 l1 l2:Addr}{a b:Value}{xs ys:Array Value}{Q:Value->Shared->Prop}(D:ZipApart z TI TO i1 i2 l1 l2)(hh:A.handled=none)(he:xs.size=ys.size)(hsz:xs.size<=sizeLine)
  (hz:IsZip s.heap z TI TO .none)(hTO:IsPair s.heap TO a b)(hTI:IsPair s.heap TI (.ref i1) (.ref i2))(h1:s.heap.IsListIter i1 l1 0)(h2:s.heap.IsListIter i2 l2 0)(hl1:s.heap.IsList l1 xs)(hl2:s.heap.IsList l2 ys)
  (q:∀ h' acc' n',h'.get? s.heap.objs.size=some (lK acc' n')->acc'.size=xs.size->Oe h' (s.heap.objs.size+1) xs ys acc'->(∀ b o,b≠z->b≠TO->b≠i1->b≠i2->s.heap.get? b=some o->h'.get? b=some o)->Q (.ref s.heap.objs.size) { s with heap:=h' }) :
  wpAny (model prog w) A (call (.type "list") [.ref z]) Q E s:=by
 refine callType_codes (Q₁:=fun obj s₁=>obj=.ref s.heap.objs.size/\s₁={ s with heap:=s.heap.push { cls:=.type "list",data:=.seq #[] } }) PySem.F.called_list (PySem.F.typeCall_list_1 _) PySem.F.entry_list_init (code_list_new _ ⟨rfl,rfl⟩) ?_
 rintro obj s₁ ⟨rfl,rfl⟩
 have hS:(s.heap.push { cls:=.type "list",data:=.seq #[] }).get? s.heap.objs.size=some { cls:=.type "list",data:=.seq #[] }:=Heap.get?_push_size _ rfl
 have up:∀ b o,s.heap.get? b=some o->(s.heap.push { cls:=.type "list",data:=.seq #[] }).get? b=some o:=fun b o e=>Heap.get?_push_of_some _ e
 have lt:∀ {c o},s.heap.get? c=some o->s.heap.objs.size≠c:=fun e=>Nat.ne_of_gt (Heap.lt_size e)
 refine ⟨⟨_,hS,rfl⟩,PySem.F.args_list_init_2 _ _,?_⟩
 show wpAny _ _ (do let old <- Builtin.List.listItems (.ref s.heap.objs.size);Builtin.List.listUpdate (.ref s.heap.objs.size) (fun _=>#[]);letGo old.toList.reverse;Builtin.List.listExtendWith (.ref s.heap.objs.size) (.ref z) .none) _ _ _
 refine wpAny_bind ?_
 unfold Builtin.List.listItems
 refine wpAny_bind (wpAny_seqItems hS rfl (wpAny_pure ?_))
 show wpAny _ _ (updateSeq s.heap.objs.size (fun _=>#[]) >>= fun _=>letGo (#[]:Array Value).toList.reverse >>= fun _=>Builtin.List.listExtendWith (.ref s.heap.objs.size) (.ref z) .none) _ _ _
 refine wpAny_bind (wpAny_updateSeq hS rfl ?_)
 have hS₂:=Heap.get?_update_self (Obj.mapSeq (fun _=>(#[]:Array Value))) hS rfl
 have oth:∀ b o,s.heap.get? b=some o->((s.heap.push { cls:=.type "list",data:=.seq #[] }).update s.heap.objs.size (Obj.mapSeq (fun _=>(#[]:Array Value)))).get? b=some o :=
  fun b o e=>(Heap.get?_update_other _ _ (lt e)).trans (up b o e)
 refine wpAny_bind (wpAny_letGo ?_)
 unfold Builtin.List.listExtendWith
 have hzT:=oth _ _ hz
 refine wpAny_bind (wpAny_typeOf (T:="zip") ⟨_,hzT,rfl⟩ ?_)
 have g1:Builtin.List.listSameRef (.ref s.heap.objs.size) (.ref z)=false:=by simp [Builtin.List.listSameRef,lt hz]
 have g2:(Value.type "zip"==Value.type "list")=false:=by decide
 have g3:(Value.type "zip"==Value.type "tuple")=false:=by decide
 simp only [g1,g2,g3,Bool.or_false,Bool.false_eq_true,if_false]
 refine wpAny_bind (wpAny_pyIter_zip hzT ?_)
 refine wpAny_bind (wpAny_holding ?_)
 unfold Builtin.List.listLengthHint
 refine wpAny_bind (wpAny_specialOf (T:="zip") ⟨_,hzT,rfl⟩ cP ?_)
 show wpAny _ _ (specialOf (Value.ref z) (Str.ofString "__length_hint__") >>= _) _ _ _
 refine wpAny_bind (wpAny_specialOf (T:="zip") ⟨_,hzT,rfl⟩ Z4 ?_)
 refine wpAny_pure ?_
 show wpAny _ _ (rule "list.extend.makes-room" >>= fun _=>Builtin.List.listTouch (.ref s.heap.objs.size) >>= fun _ =>
  again (.builtin "list.extend.loop" ⟨[.ref s.heap.objs.size,.ref z,.none],[]⟩)) _ _ _
 refine wpAny_bind (wpAny_rule ?_)
 refine wpAny_bind ?_
 show wpAny _ _ (updateSeq s.heap.objs.size (·.push .none) >>= fun _=>updateSeq s.heap.objs.size (·.pop)) _ _ _
 refine wpAny_bind (wpAny_updateSeq hS₂ rfl ?_)
 have hS₃:=Heap.get?_update_self (Obj.mapSeq (·.push Value.none)) hS₂ rfl
 refine wpAny_updateSeq (hz:=by seq_fits) hS₃ rfl ?_
 have hS₄:=Heap.get?_update_self (Obj.mapSeq (·.pop)) hS₃ rfl
 have up2:∀ b o,s.heap.get? b=some o->((((s.heap.push { cls:=.type "list",data:=.seq #[] }).update s.heap.objs.size (Obj.mapSeq (fun _=>(#[]:Array Value)))).update s.heap.objs.size (Obj.mapSeq (·.push Value.none))).update s.heap.objs.size (Obj.mapSeq (·.pop))).get? b=some o :=
  fun b o e=>(Heap.get?_update_other _ _ (lt e)).trans ((Heap.get?_update_other _ _ (lt e)).trans (oth b o e))
 have ltS:∀ {c o},s.heap.get? c=some o->c<s.heap.objs.size+1:=fun e=>Nat.lt_succ_of_lt (Heap.lt_size e)
 refine wpAny_pure ⟨plainId_quiet PySem.F.plain_extend_loop _,?_⟩
 refine iD (a:=a) (b:=b) (lo:=s.heap.objs.size+1) (xs:=xs) (ys:=ys) ⟨D,lt hz,lt hTI,lt hTO,?_,?_,?_,?_⟩ ⟨ltS hz,?_,?_,Nat.lt_succ_self _,ltS hTO⟩ (by exact hh) he hsz (up2 _ _ hz) (up2 _ _ hTO) (up2 _ _ hTI) (h1.at fun o e=>up2 _ o e) (h2.at fun o e=>up2 _ o e) (hl1.at fun o e=>up2 _ o e) (hl2.at fun o e=>up2 _ o e) hS₄ ?_ fun h3 acc' n' hS3 hac3 hp3 kp3=>?_
 ·obtain ⟨_,e,_⟩:=h1;exact lt e
 ·obtain ⟨_,e,_⟩:=h2;exact lt e
 ·obtain ⟨_,e,_⟩:=hl1;exact lt e
 ·obtain ⟨_,e,_⟩:=hl2;exact lt e
 ·obtain ⟨_,e,_⟩:=h1;exact ltS e
 ·obtain ⟨_,e,_⟩:=h2;exact ltS e
 ·rw [Heap.size_update,Heap.size_update,Heap.size_update,Heap.size_push]
  exact Nat.le_refl _
 ·exact ⟨rfl,q h3 acc' n' hS3 hac3 hp3 fun b o b1 b2 b3 b4 e=>kp3 b o b1 b2 b3 b4 (lt e).symm (up2 _ _ e)⟩
end
def O4 (N H:Hp):Hp:=fun b=>match N b with | some o=>some o | none=>H b
theorem Od {N H:Hp}{b:Addr}{o:HO}(h:N b=some o):O4 N H b=some o:=by unfold O4;rw [h]
theorem Om {N H:Hp}{b:Addr}(h:N b=none):O4 N H b=H b:=by unfold O4;rw [h]
theorem Sc {N H:Hp}(h:∀ b o,N b=some o->H b=none):Al H (O4 N H):=fun b o e=>by
 cases hN:N b with
 | none=>rw [Om hN];exact e
 | some u=>rw [h b u hN] at e;cases e
theorem Inv.laidN {X:Cx}{pins:List (Addr×Obj)}{σ:St}{H N:Hp}{s:Shared}{h':Heap}{t':Nat}(I:Inv X pins σ H s)(k:∀ b u,s.heap.get? b=some u->h'.get? b=some u)(hp:∀ b o,N b=some o->s.heap.objs.size<=b)
  (new:∀ b o,N b=some o->Eh X.prog X.w (O4 N H) h' b o):Inv X pins σ (O4 N H) { s with heap:=h',toks:=t' }:=by
 have hn:∀ b o,N b=some o->H b=none:=fun b o e=>I.hok.fresh (hp b o e)
 have sm:=Sc hn
 have old:∀ b u,s.heap.get? b=some u->N b=none:=fun b u e=>by
  cases hN:N b with
  | none=>rfl
  | some o=>exact absurd (Heap.lt_size e) (Nat.not_lt.mpr (hp b o hN))
 refine I.un ⟨fun b u q _ _ _=>k b u q,fun b u q _ _ _=>⟨u.slots,k b u q⟩,fun b u q n _=>by rw [Om (old b u q)];exact n,fun b u q _=>⟨u,k b u q⟩,fun b xs q=>sm _ _ q,fun b u xs q=>sm _ _ q,fun b ps q=>⟨#[],by rw [sm _ _ q];simp⟩⟩ fun b o e=>?_
 cases hN:N b with
 | some u =>
  rw [Od hN] at e
  cases e
  exact new b _ hN
 | none =>
  rw [Om hN] at e
  exact (I.hok b o e).stay (fun c v _ q=>k c v q) (fun c q=>sm _ _ q) fun c xs q=>sm _ _ q
def yV:Value->Addr
 | .ref a=>a
 | _=>0
def uG (H1 H':Hp)(as:List Addr)(xs ys:List V):Prop:=as.length=xs.length/\∀ (i:Nat) t x y,as[i]?=some t->xs[i]?=some x->ys[i]?=some y->H1 t=none/\H' t=some (.tup [x,y])
def aD:List Addr->List V->List V->Hp
 | t::as,x::xs,y::ys=>fun b=>if b=t then some (.tup [x,y]) else aD as xs ys b
 | _,_,_=>fun _=>none
theorem gF:∀ {as:List Addr}{xs ys:List V},(∀ (j k:Nat) t,as[j]?=some t->as[k]?=some t->j=k)->∀ (i:Nat) t x y,as[i]?=some t->xs[i]?=some x->ys[i]?=some y->aD as xs ys t=some (.tup [x,y])
 | [],_,_,_,_,_,_,_,e,_,_=>by cases e
 | _::_,[],_,_,_,_,_,_,_,e,_=>by cases e
 | _::_,_::_,[],_,_,_,_,_,_,_,e=>by cases e
 | t::as,x::xs,y::ys,inj,i,t',x',y',e1,e2,e3=>by
  show (if t'=t then some (HO.tup [x,y]) else aD as xs ys t')=_
  cases i with
  | zero =>
   cases e1;cases e2;cases e3
   rw [if_pos rfl]
  | succ i =>
   have hne:t'≠t:=fun h=>by
    have:=inj (i+1) 0 t' e1 (by rw [h];rfl)
    cases this
   rw [if_neg hne]
   exact gF (fun j k u h1 h2=>by have:=inj (j+1) (k+1) u h1 h2;omega) i t' x' y' e1 e2 e3
theorem Vr:∀ {as:List Addr}{xs ys:List V}{b:Addr}{o:HO},aD as xs ys b=some o->∃ (i:Nat) (x y:V),as[i]?=some b/\xs[i]?=some x/\ys[i]?=some y/\o=.tup [x,y]
 | [],_,_,_,_,e=>by cases e
 | _::_,[],_,_,_,e=>by cases e
 | _::_,_::_,[],_,_,e=>by cases e
 | t::as,x::xs,y::ys,b,o,e=>by
  have e:(if b=t then some (HO.tup [x,y]) else aD as xs ys b)=some o:=e
  by_cases h:b=t
  ·rw [if_pos h] at e
   cases e
   exact ⟨0,x,y,by rw [h];rfl,rfl,rfl,rfl⟩
  ·rw [if_neg h] at e
   obtain ⟨i,x',y',a1,a2,a3,a4⟩:=Vr e
   exact ⟨i+1,x',y',a1,a2,a3,a4⟩
section
variable {X:Cx}
def sN (K:PySem.W.Frag)(ta:TA):TE:=fun σ H Q=>ta σ H fun vs H1=>∃ a b xs ys,vs=[.ref a,.ref b]/\SqL K H1 a xs/\SqL K H1 b ys/\xs.length=ys.length/\∀ p as H',Al H1 H'->H1 p=none->H' p=some (.lst (as.map V.ref))->uG H1 H' as xs ys->Q (.ref p) H'
theorem pW {a b:Expr}{ta:TA}{p q pos pos2:Pos}(hcal:X.calm=true)(hg:Gl X "list")(hm:X.mg "list"=none)(hg2:Gl X "zip")(hm2:X.mg "zip"=none)(ha:PA X [a,b] ta)
  (hs:starEach [a,b] X.env=[(false,eval a X.env),(false,eval b X.env)]:=by rfl)(hs2:starEach [b] X.env=[(false,eval b X.env)]:=by rfl)
  (hs3:starEach [Expr.Call (.Name "zip" q) [a,b] [] pos2] X.env=[(false,eval (.Call (.Name "zip" q) [a,b] [] pos2) X.env)]:=by rfl) :
  PE X (.Call (.Name "list" p) [.Call (.Name "zip" q) [a,b] [] pos2] [] pos) (sN X.K ta):=by
 intro pins s σ H Q I h
 refine wpAny_Call_Name_kw (Ei I hg hm Kl (PyProof.Rows.callWith_type1 ?_ hs3 rfl) (by decide) (by decide))
 rw [hs3]
 refine Calls.spliced_cons ?_
 show wpAny _ _ (eval (Expr.Call (.Name "zip" q) [a,b] [] pos2) X.env) _ _ _
 refine wpAny_Call_Name_kw (Ei I hg2 hm2 rK (PyProof.Rows.callWith_type1 (thn (ha pos2 pins s σ H _ I h) fun us s1 ⟨vs,H1,I1,r1,q1⟩=>?_) (by rw [hs,hs2]) (by rw [hs2];rfl)) (by decide) (by decide))
 obtain ⟨a,b,xs,ys,e,hx,hy,hl,q⟩:=q1
 subst e
 obtain ⟨u,v,rfl,ru,rv⟩:=Sm r1
 cases ru
 cases rv
 obtain ⟨its,rv,p,hz⟩:=I1.list hx
 obtain ⟨its2,rv2,p2,hz2⟩:=I1.list hy
 have l1:=rv.length
 have l2:=rv2.length
 refine call_zip_2 p.isList p2.isList fun h' g1 g2 g3 g4 g5 hsz kk=>?_
 refine Calls.spliced_nil ?_
 have A1:h'.IsList a its.toArray:=p.isList.at fun o e=>kk _ o e
 have A2:h'.IsList b its2.toArray:=p2.isList.at fun o e=>kk _ o e
 have D:=cK (Rh _) (⟨g1,g2,⟨_,_,g3⟩,g4,g5⟩:StZ _ _ _ _ _ a b 0 h') A1 A2
 refine Tj (s:={ s1 with heap:=h' }) D (I1.ok.hd hcal) (by simp;omega) (by simp;omega) g1 g3 g2 g4 g5 A1 A2 fun h2 acc n hS hac hp kp=>?_
 have hle:s1.heap.objs.size<=h'.objs.size:=by omega
 have hac:acc.size=xs.length:=by rw [hac];simp;omega
 have kp1:∀ b o,s1.heap.get? b=some o->h2.get? b=some o:=fun b o e=>by
  have lt:=Heap.lt_size e
  have ne:∀ c,s1.heap.objs.size<=c->b≠c:=fun c hc z=>Nat.lt_irrefl _ (Nat.lt_of_lt_of_le lt (z▸hc))
  exact kp b o (ne _ (Nat.le_add_right _ _)) (ne _ (Nat.le_add_right _ _)) (ne _ (Nat.le_refl _)) (ne _ (Nat.le_add_right _ _)) (kk _ _ e)
 obtain ⟨as,has⟩:∃ as,as=acc.toList.map yV:=⟨_,rfl⟩
 have hasl:as.length=xs.length:=by rw [has,List.length_map,Array.length_toList,hac]
 have hat:∀ (i:Nat) t,as[i]?=some t->∃ x y,acc[i]?=some (Value.ref t)/\h'.objs.size+1<=t/\its[i]?=some x/\its2[i]?=some y/\IsPair h2 t x y:=fun i t e=>by
  rw [has,List.getElem?_map] at e
  cases hv:acc.toList[i]? with
  | none=>rw [hv] at e;cases e
  | some v =>
   rw [hv] at e
   have hv2:acc[i]?=some v:=by rw [<- Array.getElem?_toList];exact hv
   obtain ⟨T,x,y,e1,e2,e3,e4,e5⟩:=hp.1 i v hv2
   subst e1
   obtain rfl:T=t:=Option.some.inj e
   exact ⟨x,y,hv2,e2,by simpa using e3,by simpa using e4,e5⟩
 have inj:∀ (j k:Nat) t,as[j]?=some t->as[k]?=some t->j=k:=fun j k t h1 h2=>by
  obtain ⟨_,_,a1,_⟩:=hat j t h1
  obtain ⟨_,_,a2,_⟩:=hat k t h2
  exact hp.2 j k _ a1 a2
 let N:Hp:=fun b=>if b=h'.objs.size then some (.lst (as.map V.ref)) else aD as xs ys b
 have hN0:N h'.objs.size=some (.lst (as.map V.ref)):=if_pos rfl
 have hNt:∀ (i:Nat) t x y,as[i]?=some t->xs[i]?=some x->ys[i]?=some y->N t=some (.tup [x,y]):=fun i t x y e1 e2 e3=>by
  obtain ⟨_,_,_,hlt,_⟩:=hat i t e1
  show (if t=h'.objs.size then _ else _)=_
  rw [if_neg (Nat.ne_of_gt hlt)]
  exact gF inj i t x y e1 e2 e3
 have hNp:∀ b o,N b=some o->s1.heap.objs.size<=b:=fun b o e=>by
  have e:(if b=h'.objs.size then some (HO.lst (as.map V.ref)) else aD as xs ys b)=some o:=e
  by_cases hb:b=h'.objs.size
  ·rw [hb];exact hle
  ·rw [if_neg hb] at e
   obtain ⟨i,x,y,e1,_⟩:=Vr e
   obtain ⟨_,_,_,hlt,_⟩:=hat i b e1
   exact Nat.le_trans hle (Nat.le_of_succ_le hlt)
 have hNn:∀ b o,N b=some o->H1 b=none:=fun b o e=>I1.hok.fresh (hNp b o e)
 have I2:Inv X pins σ (O4 N H1) { s1 with heap:=h2 }:=by
  refine I1.laidN (t':=s1.toks) kp1 hNp fun b o e=>?_
  have e:(if b=h'.objs.size then some (HO.lst (as.map V.ref)) else aD as xs ys b)=some o:=e
  by_cases hb:b=h'.objs.size
  ·rw [if_pos hb] at e
   cases e
   subst hb
   refine ⟨by rw [List.length_map];omega,acc.toList,n,?_,hS⟩
   refine J2 (by rw [List.length_map,hasl,<- hac];exact (Array.length_toList (xs:=acc)).symm) fun i v u e1 e2=>?_
   rw [List.getElem?_map] at e1
   cases ht:as[i]? with
   | none=>rw [ht] at e1;cases e1
   | some t =>
    rw [ht] at e1
    cases e1
    obtain ⟨_,_,a1,_⟩:=hat i t ht
    rw [<- Array.getElem?_toList,e2] at a1
    exact Option.some.inj a1
  ·rw [if_neg hb] at e
   obtain ⟨i,x,y,e1,e2,e3,rfl⟩:=Vr e
   obtain ⟨u,v,_,_,e4,e5,e6⟩:=hat i b e1
   obtain ⟨u',hu,ru⟩:=rv.get e2
   obtain ⟨v',hv,rv'⟩:=rv2.get e3
   rw [e4] at hu
   rw [e5] at hv
   cases hu
   cases hv
   exact ⟨Nat.le_of_lt (Nat.lt_of_le_of_lt (show 2<=2 from Nat.le_refl 2) (by decide)),[u,v],.cons ru (.cons rv' .nil),_,e6,rfl,_,rfl⟩
 refine ⟨.ref h'.objs.size,_,I2,rfl,q _ as _ (Sc hNn) (hNn _ _ hN0) (Od hN0) ⟨hasl,fun i t x y e1 e2 e3=>⟨hNn _ _ (hNt i t x y e1 e2 e3),Od (hNt i t x y e1 e2 e3)⟩⟩⟩
theorem sR {σ:St}{H:Hp}{Q:VK}{ta:TA}{K:PySem.W.Frag}(h:ta σ H fun vs H1=>∃ a b xs ys,vs=[.ref a,.ref b]/\SqL K H1 a xs/\SqL K H1 b ys/\xs.length=ys.length/\∀ p as H',Al H1 H'->H1 p=none->H' p=some (.lst (as.map V.ref))->uG H1 H' as xs ys->Q (.ref p) H'):sN K ta σ H Q:=h
end
def pU (K:PySem.W.Frag)(a:Addr)(n:Nat):It :=
 ⟨fun i H=>∃ xs x,SqL K H a xs/\i<n/\xs[n-1-i]?=some x,fun i H x H'=>H'=H/\∀ xs,SqL K H a xs->xs[n-1-i]?=some x,fun i _=>i=n⟩
theorem dE {P:Program}{w:World}{K:PySem.W.Frag}{tg:Expr}(a it:Addr)(n:Nat):Mq P w K tg (pU K a n) [it] it (fun i h=>h.IsRevIter it a ((n:Int)-1-(i:Int))) where
 mem:=by simp
 obj:=fun i h st b hb=>by
  have e:b=it:=by simpa using hb
  subst e
  obtain ⟨o,e,c,d⟩:=st
  exact ⟨o,e,fun v z=>by rw [d] at z;cases z⟩
 keep:=fun i h h' st k=>st.at fun o e=>k it (by simp) o e
 item:=by
  intro X hP hw hK hc i pins s σ H E I hf st hg
  subst hP hw hK
  obtain ⟨xs,x,hq,hi,hx⟩:=hg
  obtain ⟨its,rv,p,hz⟩:=I.list hq
  obtain ⟨u,hu,ru⟩:=rv.get hx
  obtain ⟨f0,f1,f2,f3,f4,f5⟩:=hf it (by simp)
  have e:(n:Int)-1-(i:Int)=((n-1-i:Nat):Int):=by omega
  have st1:=st
  rw [e] at st1
  refine wpAny_pyNext_rev_item st1 p.isList (x:=u) (by simpa using hu) fun h' st' sb=>?_
  have e2:((n-1-i:Nat):Int)-1=(n:Int)-1-((i+1:Nat):Int):=by omega
  rw [e2] at st'
  have I1:Inv X pins σ H { s with heap:=h' }:=I.turned (t':=s.toks) (fun b o hb e=>(sb.2 b hb).trans e) f0 f1 f3 f4 f5
  obtain ⟨o,e,c,d⟩:=id st'
  exact ⟨u,rfl,Uo (s:={ s with heap:=h' }) e c d (by decide) ⟨x,H,I1,ru,⟨rfl,fun ys hy=>by rw [I.list_inj hy hq];exact hx⟩,st',fun b hb=>(hf b hb).1⟩⟩
 done:=by
  intro X hP hw hK hc i pins s σ H E I hf st hg
  subst hP hw hK
  have hg:i=n:=hg
  subst hg
  obtain ⟨f0,f1,f2,f3,f4,f5⟩:=hf it (by simp)
  have e:(i:Int)-1-(i:Int)=-1:=by omega
  rw [e] at st
  exact wpAny_pyNext_rev_end (I.ok.hd hc) st fun h' eb=>⟨rfl,I.turned (t':=s.toks) (fun b o hb e=>eb b o hb e) f0 f1 f3 f4 f5⟩
 self:=fun _ _ _ _ _ st h=>wpAny_pyIter_revIter st h
section
variable {X:Cx} {tg:Expr}
def rE (K:PySem.W.Frag)(tl:TE):TI:=fun σ H R=>tl σ H fun x H1=>∃ a xs,x=.ref a/\SqL K H1 a xs/\R (pU K a xs.length) H1
theorem tV {K:PySem.W.Frag}{tl:TE}{σ:St}{H:Hp}{R:It->Hp->Prop}(h:tl σ H fun x H1=>∃ a xs,x=.ref a/\SqL K H1 a xs/\R (pU K a xs.length) H1):rE K tl σ H R:=h
theorem qI {l:Expr}{tl:TE}{p pos:Pos}(hg:Gl X "reversed")(hm:X.mg "reversed"=none)(hl:PE X l tl)(hs3:starEach [l] X.env=[(false,eval l X.env)]:=by rfl):PI X tg (.Call (.Name "reversed" p) [l] [] pos) (rE X.K tl):=by
 intro pins s σ H R I h
 refine Call_ (Ei I hg hm Ti (PyProof.Rows.callWith_type1 ?_ hs3 rfl))
 rw [hs3]
 refine Calls.spliced_cons ?_
 refine thn (hl pins s σ H _ I h) fun v s1 ⟨x,H1,I1,r1,q1⟩=>?_
 obtain ⟨a,xs,e,hq,q⟩:=q1
 subst e
 cases r1
 obtain ⟨its,rv,p,hz⟩:=I1.list hq
 refine Calls.spliced_nil ?_
 refine call_reversed_list p.isList ?_
 have hn:((its.toArray.size:Nat):Int)-1=((xs.length:Nat):Int)-1-((0:Nat):Int):=by have:=rv.length;simp;omega
 refine wpAny_pyIter_revIter (i:=((xs.length:Nat):Int)-1-((0:Nat):Int)) (l:=a) ⟨_,Heap.get?_push_size _ rfl,rfl,by rw [<- hn];rfl⟩ ?_
 refine ⟨s1.heap.objs.size,[s1.heap.objs.size],_,_,H1,rfl,I1.kept (t':=s1.toks) fun b o e=>Heap.get?_push_of_some _ e,dE a _ xs.length,⟨_,Heap.get?_push_size _ rfl,rfl,by rw [<- hn];rfl⟩,fun b hb=>?_,q⟩
 have e:b=s1.heap.objs.size:=by simpa using hb
 subst e
 exact I1.fpOk (Nat.le_refl _) (I1.hok.fresh (Nat.le_refl _))
end
theorem iY {K:PySem.W.Frag}{a:Addr}{as:List Addr}{xs ys:List V}{i1 i2:Nat}{tb:TS}{D:Ja}{σ:St}{H:Hp}(hx:as.length=xs.length)(hy:as.length=ys.length)(Pv:Nat->St->Hp->Prop)(h0:Pv 0 σ H)
  (hl:∀ i σ H,i<=as.length->Pv i σ H->SqL K H a (as.map V.ref))(ht:∀ (i:Nat) t x y σ H,as[i]?=some t->xs[i]?=some x->ys[i]?=some y->Pv i σ H->H t=some (.tup [x,y]))
  (step:∀ (i:Nat) x y σ H,xs[i]?=some x->ys[i]?=some y->Pv i σ H->tb { D with nx:=Pv (i+1),ct:=Pv (i+1),bk:=D.nx } ((σ.set i1 (some x)).set i2 (some y)) H)
  (fin:∀ σ H,Pv as.length σ H->D.nx σ H):iK (Itl K a) (eJ K 2 (Jf (Fa i1) (Jf (Fa i2) cX))) tb D σ H:=by
 refine ⟨fun i m σ H=>i<=as.length/\m=as.length-i/\Pv i σ H,⟨_,Nat.zero_le _,rfl,h0⟩,?_⟩
 rintro i m σ H ⟨hi,rfl,hp⟩
 by_cases h:i=as.length
 ·exact .inl ⟨⟨_,hl i σ H hi hp,by rw [List.length_map];omega⟩,fin σ H (h▸hp)⟩
 ·have hlt:i<as.length:=Nat.lt_of_le_of_ne hi h
  refine .inr ⟨⟨_,.ref as[i],hl i σ H hi hp,by rw [List.getElem?_map,List.getElem?_eq_getElem hlt];rfl⟩,Pv (i+1),fun σ' H' q=>⟨as.length-(i+1),by omega,hlt,rfl,q⟩,fun v H' hyl=>?_⟩
  obtain ⟨rfl,hv⟩:=hyl
  have hv:=hv _ (hl i σ H' hi hp)
  rw [List.getElem?_map,List.getElem?_eq_getElem hlt] at hv
  obtain rfl:=Option.some.inj hv
  exact Lj (SqT.of (ht i _ _ _ σ H' (List.getElem?_eq_getElem hlt) (List.getElem?_eq_getElem (by omega)) (List.getElem?_eq_getElem (by omega)) hp)) (step i _ _ σ H' (List.getElem?_eq_getElem (by omega)) (List.getElem?_eq_getElem (by omega)) hp)
theorem eH {K:PySem.W.Frag}{a:Addr}{as:List Addr}{xs ys:List V}{i1 i2:Nat}{tb:TS}{D:Ja}{σ:St}{H:Hp}(hx:as.length=xs.length)(hy:as.length=ys.length)(Pv:Nat->St->Hp->Prop)(h0:Pv 0 σ H)
  (hl:∀ i σ H,i<=as.length->Pv i σ H->SqL K H a (as.map V.ref))(ht:∀ (i j:Nat) t x y σ H,as[j]?=some t->xs[j]?=some x->ys[j]?=some y->Pv i σ H->H t=some (.tup [x,y]))
  (step:∀ (i:Nat) x y σ H,i<as.length->xs[as.length-1-i]?=some x->ys[as.length-1-i]?=some y->Pv i σ H->tb { D with nx:=Pv (i+1),ct:=Pv (i+1),bk:=D.nx } ((σ.set i1 (some x)).set i2 (some y)) H)
  (fin:∀ σ H,Pv as.length σ H->D.nx σ H):iK (pU K a as.length) (eJ K 2 (Jf (Fa i1) (Jf (Fa i2) cX))) tb D σ H:=by
 refine ⟨fun i m σ H=>i<=as.length/\m=as.length-i/\Pv i σ H,⟨_,Nat.zero_le _,rfl,h0⟩,?_⟩
 rintro i m σ H ⟨hi,rfl,hp⟩
 by_cases h:i=as.length
 ·exact .inl ⟨h,fin σ H (h▸hp)⟩
 ·have hlt:i<as.length:=Nat.lt_of_le_of_ne hi h
  have hj:as.length-1-i<as.length:=by omega
  refine .inr ⟨⟨_,.ref as[as.length-1-i],hl i σ H hi hp,hlt,by rw [List.getElem?_map,List.getElem?_eq_getElem hj];rfl⟩,Pv (i+1),fun σ' H' q=>⟨as.length-(i+1),by omega,hlt,rfl,q⟩,fun v H' hyl=>?_⟩
  obtain ⟨rfl,hv⟩:=hyl
  have hv:=hv _ (hl i σ H' hi hp)
  rw [List.getElem?_map,List.getElem?_eq_getElem hj] at hv
  obtain rfl:=Option.some.inj hv
  exact Lj (SqT.of (ht i _ _ _ _ σ H' (List.getElem?_eq_getElem hj) (List.getElem?_eq_getElem (by omega)) (List.getElem?_eq_getElem (by omega)) hp)) (step i _ _ σ H' hlt (List.getElem?_eq_getElem (by omega)) (List.getElem?_eq_getElem (by omega)) hp)
theorem eD (n:Nat):sliceRange (sliceBounds none none (some (-1)) n).1 (sliceBounds none none (some (-1)) n).2.1 (sliceBounds none none (some (-1)) n).2.2=(List.range n).map fun k=>n-1-k:=by
 have e:sliceBounds none none (some (-1)) n=((n:Int)-1,-1,-1):=by simp [sliceBounds]
 rw [e]
 unfold sliceRange
 dsimp only
 rw [if_neg (by decide)]
 have e2:(if (n:Int)-1 > -1 then ((n:Int)-1 - -1 - -1-1) / - -1 else 0).toNat=n:=by
  split
  ·rw [show (- -1:Int)=1 by decide,Int.ediv_one]
   omega
  ·omega
 rw [e2]
 refine List.map_congr_left fun k hk=>?_
 have:=List.mem_range.mp hk
 omega
theorem S1 {α:Type}(l:List α):∀ n,n<=l.length->((List.range n).map fun k=>n-1-k).filterMap (l[·]?)=(l.take n).reverse
 | 0,_=>by simp
 | n+1,h=>by
  have hl:n<l.length:=h
  rw [List.range_succ_eq_map,List.map_cons,List.map_map,List.filterMap_cons]
  have e:((fun k=>n+1-1-k) ∘ Nat.succ)=fun k=>n-1-k:=by
   funext k
   show n+1-1-(k+1)=n-1-k
   omega
  rw [e,show n+1-1-0=n by omega,List.getElem?_eq_getElem hl]
  dsimp only
  rw [S1 l n (by omega),List.take_add_one,List.getElem?_eq_getElem hl,Option.toList_some,List.reverse_append]
  rfl
theorem lD:∀ {xs:List V}{us:List Value},A6 xs us->A6 xs.reverse us.reverse:=fun {xs us} h=>by
 have key:∀ (xs:List V) (us:List Value) (ys:List V) (vs:List Value),A6 xs us->A6 ys vs->A6 (xs.reverse++ys) (us.reverse++vs):=fun xs=>by
  induction xs with
  | nil=>intro us ys vs h1 h2;cases h1;exact h2
  | cons x xs ih =>
   intro us ys vs h1 h2
   cases h1 with
   | cons r t =>
    rw [List.reverse_cons,List.reverse_cons,List.append_assoc,List.append_assoc]
    exact ih _ _ _ t (.cons r h2)
 have:=key xs us [] [] h .nil
 rwa [List.append_nil,List.append_nil] at this
def rQ (K:PySem.W.Frag)(te:TE):TE:=fun σ H Q=>te σ H fun x H1=>∃ a xs,x=.ref a/\SqL K H1 a xs/\∀ p,H1 p=none->Q (.ref p) (upd H1 p (.lst xs.reverse))
section
variable {X:Cx} {e:Expr} {te:TE} {pos p1 p2 p3:Pos}
theorem pF {x1}(he:PE X e te):PE X (.Subscript e (.Slice none none (some (.UnaryOp .USub (.Constant (.int 1) x1 p1) p2)) p3) pos) (rQ X.K te):=by
 intro pins s σ H Q I h
 refine Subscript_ (thn (he pins s σ H _ I h) fun v s1 ⟨x,H1,I1,r1,q1⟩=>?_)
 obtain ⟨a,xs,rfl,hq,q⟩:=q1
 obtain rfl:v=Value.ref a:=r1
 refine wpAny_Slice ?_
 rw [evalPart_none]
 refine wpAny_pure (wpAny_pure ?_)
 rw [evalPart_some]
 have hm:PE X (.UnaryOp .USub (.Constant (.int 1) x1 p1) p2) (tUn (rU fun i=>.int (-i)) (tC (.int 1))):=Gh Dy Ag
 refine thn (hm pins s1 σ H1 (fun y H2=>y=.int (-1)/\H2=H1) I1 ⟨1,rfl,rfl,rfl⟩) fun w s2 ⟨y,H2,I2,r2,e2,e3⟩=>?_
 subst e2 e3
 obtain ⟨t,rfl⟩:=r2
 have I4:Inv X pins σ H2 { s2 with heap:=s2.heap.push { cls:=.type "slice",data:=.fields #[.none,.none,.int (-1) t] } }:=I2.kept (t':=s2.toks) fun b ob q=>Heap.get?_push_of_some _ q
 obtain ⟨its,r,pl,hz⟩:=I4.list hq
 have e1:=r.length
 show wpAny (model X.prog X.w) X.A (subscriptTail e (.Slice none none (some (.UnaryOp .USub (.Constant (.int 1) x1 p1) p2)) p3) (.ref a) (.ref s2.heap.objs.size)) (EP X pins σ Q) X.xe { s2 with heap:=s2.heap.push { cls:=.type "slice",data:=.fields #[.none,.none,.int (-1) t] } }
 refine tail_any (ops:=[.ref a,.ref s2.heap.objs.size]) pl.isList.typeIs list_getitem_lookup ?_ (by with_unfolding_all rfl)
 refine wpAny_getItem_list_slice pl.isList (Heap.IsSliceOf.new ..) .none .none (.int (-1) t) (by intro z;have:=Option.some.inj z;omega) ?_ (by rw [List.size_toArray];omega)
 have hp:slicePick its.toArray none none (some (-1))=its.reverse.toArray:=by
  have:=S1 its its.length (Nat.le_refl _)
  rw [List.take_of_length_le (Nat.le_refl _)] at this
  rw [<- this,<- eD its.length]
  unfold slicePick
  simp
 rw [hp]
 exact ⟨.ref _,_,I4.lnew (t':=s2.toks) (lD r) (by rw [List.length_reverse];exact hz),rfl,q _ (I4.hok.fresh (Nat.le_refl _))⟩
theorem tZ {K:PySem.W.Frag}{σ:St}{H:Hp}{Q:VK}(h:te σ H fun x H1=>∃ a xs,x=.ref a/\SqL K H1 a xs/\∀ p,H1 p=none->Q (.ref p) (upd H1 p (.lst xs.reverse))):rQ K te σ H Q:=h
end
open PySem.W
def GD (K:Frag)(x:Str)(st:Stmt):Prop:=∃ (f:Addr) (fd:FuncData),Fun K x x st f fd/\nsIn K mainGlobals x=some (some (.ref f))
def MD (K:Frag)(C:Addr)(x q:Str)(st:Stmt):Prop:=∃ (f:Addr) (fd:FuncData),Fun K x q st f fd/\findIn K (.ref C) x=some (some (.ref f))/\isFn K (.ref f)=true
def BD (K:Frag)(C:Addr)(x q:Str)(st:Stmt):Prop:=∃ (f:Addr) (fd:FuncData),Fun K x q st f fd/\findCls K (.ref C) (.type "type") x=some (.val (.ref f))
structure CD (K:Frag) (C:Addr) (x:Str):Prop where
 a:nsIn K mainGlobals x=some (some (.ref C))
 ma:makesIn K C=true
 kc:keepIn K (.ref C)=true
structure BC (K:Frag) (C:Addr) (x:Str):Prop where
 a:nsIn K mainGlobals x=some (some (.ref C))
 bg:specialIn K (.ref C) "__getattribute__"=some (some (.builtin "type.__getattribute__"))
 br:readsIn K C (.type "type")=true
def noB:Option (Option Value)->Bool
 | some none=>true
 | _=>false
structure FD (K:Frag) (C:Addr) (fs:List Str):Prop where
 cl:Cls K C
 al:(fs.all fun f=>noB (findIn K (.ref C) f))=true
section
variable {P:Program} {w:World} {K:Frag} {mg:Str->Option Value} {base h:Heap} {x q:Str} {st:Stmt} {f C:Addr} {oc:Value} {od an:Option Addr} {osl:Array (Option Value)} {kV doc pm cdv ct:Value} {fs ps:List Str} {k:Nat} {sp:Sp}
theorem gD (a:nsIn K mainGlobals x=some (some (.ref f)))(l:K.lookup f=some ⟨oc,od,.func (fnOf x x (C4 st) (Ch st) (Ad st) .none kV doc pm an cdv ct),osl⟩)(c:codeIn K cdv x=true)(k:keepIn K (.ref f)=true):GD K x st:=⟨f,_,bY l c k,a⟩
theorem mD (a:findIn K (.ref C) x=some (some (.ref f)))(i:isFn K (.ref f)=true)(l:K.lookup f=some ⟨oc,od,.func (fnOf x q (C4 st) (Ch st) (Ad st) .none kV doc pm an cdv ct),osl⟩)(c:codeIn K cdv q=true)(k:keepIn K (.ref f)=true):MD K C x q st:=⟨f,_,bY l c k,a,i⟩
theorem bD (a:findCls K (.ref C) (.type "type") x=some (.val (.ref f)))(l:K.lookup f=some ⟨oc,od,.func (fnOf x q (C4 st) (Ch st) (Ad st) .none kV doc pm an cdv ct),osl⟩)(c:codeIn K cdv q=true)(k:keepIn K (.ref f)=true):BD K C x q st:=⟨f,_,bY l c k,a⟩
theorem fD (pg:plainGet K C Str.empty=true)(hd:hasDictIn K C=true)(po:plainOver K C=true)(sa:findIn K (.ref C) "__setattr__"=some (some (.builtin "object.__setattr__")))(al:(fs.all fun f=>noB (findIn K (.ref C) f))=true):FD K C fs:=⟨⟨pg,hd,po,sa⟩,al⟩
theorem FD.no (D:FD K C fs)(i:Nat){g:Str}(h:fs[i]?=some g:=by rfl):Bv K C g:=by
 have:=List.all_eq_true.mp D.al g (List.mem_of_getElem? h)
 show findIn K (.ref C) g=some none
 cases e:findIn K (.ref C) g with
 | none=>rw [e] at this;cases this
 | some o =>
  cases o with
  | none=>rfl
  | some v=>rw [e] at this;cases this
def Cur:Nat->(List Value->Prop)->Prop
 | 0,P=>P []
 | n+1,P=>∀ a,Cur n fun l=>P (a::l)
theorem Cur.all:∀ {n:Nat}{P:List Value->Prop},Cur n P->∀ us:List Value,us.length=n->P us
 | 0,_,h,[],_=>h
 | n+1,_,h,a::l,e=>Cur.all (n:=n) (h a) l (Nat.succ.inj e)
abbrev La (x q:Str)(st:Stmt)(ps:List Str):Prop:=∀ (kV doc pm:Value) (an:Option Addr) (cdv ct:Value),Cur ps.length fun us=>bindArgs (fnOf x q (C4 st) (Ch st) (Ad st) .none kV doc pm an cdv ct) ⟨us,[]⟩=pure (ps.zip us)
theorem Fun.bd {fd:FuncData}(F:Fun K x q st f fd)(hb:La x q st ps):Gp K fd ps []:=F.binds fun a b c d e g=>(hb a b c d e g).all
theorem GD.cal (X:K.In h)(G:h.Ns mainGlobals mg)(g:GD K x st)(ok:∀ {f fd},Fun K x x st f fd->Ax P w K mg base CX0 k f fd ps sp)
  (hb:La x x st ps:=by (repeat intro _);rfl):Cal P w K mg base x k ps sp :=
 let ⟨f,fd,F,a⟩:=g
 ⟨⟨f,fd,ok F,F.bd hb,mg_of X G a,F.kp⟩⟩
theorem MD.mth (c:Cls K C)(g:MD K C x q st)(ok:∀ {f fd},Fun K x q st f fd->Ax P w K mg base CX0 k f fd ps sp)
  (hb:La x q st ps:=by (repeat intro _);rfl):Mth P w K mg base C x k ps sp :=
 let ⟨f,fd,F,a,i⟩:=g
 ⟨⟨f,fd,ok F,F.bd hb,⟨a,i,F.kp⟩⟩,c⟩
theorem MD.mkr {y:Str}(X:K.In h)(G:h.Ns mainGlobals mg)(c:CD K C y)(g:MD K C "__init__" q st)(ok:∀ {f fd},Fun K "__init__" q st f fd->Ax P w K mg base CX0 k f fd ps sp)
  (hb:La "__init__" q st ps:=by (repeat intro _);rfl):Mkr P w K mg base y C k ps sp :=
 let ⟨f,fd,F,a,i⟩:=g
 ⟨⟨f,fd,ok F,F.bd hb,⟨c.ma,a,i,c.kc⟩,mg_of X G c.a⟩⟩
theorem BD.calC {y:Str}(X:K.In h)(G:h.Ns mainGlobals mg)(c:BC K C y)(g:BD K C x q st)(ok:∀ {f fd},Fun K x q st f fd->Ax P w K mg base CX0 k f fd ps sp)
  (hb:La x q st ps:=by (repeat intro _);rfl):tX P w K mg base y x k ps sp :=
 let ⟨f,fd,F,a⟩:=g
 ⟨⟨C,f,fd,ok F,F.bd hb,mg_of X G c.a,c.bg,c.br,a,F.kp⟩⟩
end
end L2
end
section
namespace TW
theorem fB {ds:List Nat}{v:Nat}:∀ {i j:Nat},v<j->j<=i->(v:Int)∈way ds i->(v:Int)∈way ds j
 | 0,j,h1,h2,_=>by omega
 | i+1,j,h1,h2,h=>by
  by_cases e:j=i+1
  ·rw [e];exact h
  ·have h:(v:Int)∈(way ds i).take (dAt ds i+1)++[(i:Int)]:=h
   rcases List.mem_append.mp h with h | h
   ·exact fB h1 (by omega) (List.mem_of_mem_take h)
   ·have:=List.mem_singleton.mp h
    omega
theorem Jy {ds:List Nat}(h:Dok ds){i j:Nat}{v:Int}(hi:i<ds.length)(e:eld ds i=v)(h1:v<j)(h2:j<i):v<=eld ds j:=by
 by_cases hv:v=-1
 ·rw [hv];exact E2 h (by omega)
 obtain ⟨w,hw,hwi,_⟩:=Dx h hi (by rw [e];exact hv)
 have hwv:v=(w:Int):=by rw [<- e,hw]
 subst hwv
 have hm:(w:Int)∈way ds i:=by rw [<- e];exact List.mem_of_getElem? (Ie h hi)
 have hm2:(w:Int)∈(way ds j).take (dAt ds j+1)++[(j:Int)]:=fB (i:=i) (j:=j+1) (by omega) (by omega) hm
 rcases List.mem_append.mp hm2 with hm3 | hm3
 ·obtain ⟨a,ha⟩:=List.getElem?_of_mem hm3
  have hlt:=(List.getElem?_eq_some_iff.mp ha).1
  rw [List.length_take] at hlt
  rw [List.getElem?_take_of_lt (by omega)] at ha
  have hea:=Ie h (show j<ds.length by omega)
  by_cases hd:a=dAt ds j
  ·rw [hd,hea] at ha
   have:=Option.some.inj ha
   omega
  ·have:=R8 h j a (dAt ds j) _ _ (by omega) (by omega) ha hea
   omega
 ·have:=List.mem_singleton.mp hm3
  omega
def bP (ds:List Nat)(k:Nat):Nat->Nat->Nat
 | 0,j=>j
 | m+1,j=>if (k:Int)<=eld ds j then bP ds k m (j+1) else j
def Aq (ds:List Nat)(k:Nat):Nat:=bP ds k (ds.length-(k+1)) (k+1)
theorem gI (ds:List Nat)(k:Nat):∀ m j,k<j->(∀ i,k<i->i<j->(k:Int)<=eld ds i)->j<=bP ds k m j/\bP ds k m j<=j+m/\(∀ i,k<i->i<bP ds k m j->(k:Int)<=eld ds i)/\(bP ds k m j<j+m->eld ds (bP ds k m j)<k)
 | 0,j,h1,h2=>⟨Nat.le_refl _,Nat.le_refl _,h2,fun h=>absurd h (Nat.lt_irrefl _)⟩
 | m+1,j,h1,h2=>by
  unfold bP
  by_cases h:(k:Int)<=eld ds j
  ·rw [if_pos h]
   obtain ⟨a,b,c,d⟩:=gI ds k m (j+1) (by omega) (fun i h3 h4=>by
    by_cases e:i=j
    ·rw [e];exact h
    ·exact h2 i h3 (by omega))
   exact ⟨by omega,by omega,c,fun h5=>d (by omega)⟩
  ·rw [if_neg h]
   exact ⟨Nat.le_refl _,by omega,h2,fun _=>by omega⟩
theorem Bj {ds:List Nat}{k:Nat}(hk:k<ds.length):k<Aq ds k/\Aq ds k<=ds.length/\(∀ i,k<i->i<Aq ds k->(k:Int)<=eld ds i)/\(Aq ds k<ds.length->eld ds (Aq ds k)<k):=by
 obtain ⟨a,b,c,d⟩:=gI ds k (ds.length-(k+1)) (k+1) (by omega) (fun i h1 h2=>by omega)
 unfold Aq
 exact ⟨by omega,by omega,c,fun h=>d (by omega)⟩
theorem X3 {ds:List Nat}(h:Dok ds){k i:Nat}(hk:k<ds.length)(h1:Aq ds k<=i)(h2:i<ds.length):eld ds i<k\/(Aq ds k:Int)<=eld ds i:=by
 obtain ⟨a,b,c,d⟩:=Bj (ds:=ds) hk
 by_cases e:i=Aq ds k
 ·left;rw [e];exact d (by omega)
 ·by_cases z:eld ds i<k
  ·exact .inl z
  ·right
   by_cases y:(Aq ds k:Int)<=eld ds i
   ·exact y
   ·have:=Jy h h2 rfl (show eld ds i<(Aq ds k:Nat) by omega) (by omega)
    have:=d (by omega)
    omega
def Lv (ds:List Nat)(j:Nat):Nat:=((List.range ds.length).filter fun i=>decide (j<i)&&decide (eld ds i<j)).length
theorem X5 {p q:Nat->Bool}:∀ {l:List Nat},(∀ i∈l,p i=true->q i=true)->(l.filter p).length<=(l.filter q).length
 | [],_=>Nat.le_refl _
 | x::r,h=>by
  have ih:=X5 (l:=r) fun i hi=>h i (by simp [hi])
  have hx:=h x (by simp)
  rw [List.filter_cons,List.filter_cons]
  cases hp:p x<;>cases hq:q x
  ·exact ih
  ·simp only [Bool.false_eq_true,if_false,if_true,List.length_cons];omega
  ·rw [hp] at hx;rw [hx rfl] at hq;cases hq
  ·simp only [if_true,List.length_cons];omega
theorem M5 {p q:Nat->Bool}{a:Nat}:∀ {l:List Nat},l.Nodup->a∈l->p a=false->(∀ i∈l,i≠a->q i=p i)->q a=true->(l.filter q).length=(l.filter p).length+1
 | [],_,ha,_,_,_=>by cases ha
 | x::r,hn,ha,h1,h2,h3=>by
  rw [List.nodup_cons] at hn
  rw [List.filter_cons,List.filter_cons]
  by_cases e:x=a
  ·subst e
   rw [h1,h3]
   have:r.filter q=r.filter p:=List.filter_congr fun i hi=>h2 i (by simp [hi]) (fun z=>hn.1 (z▸hi))
   simp only [Bool.false_eq_true,if_false,if_true,List.length_cons,this]
  ·have ih:=M5 hn.2 (by rcases List.mem_cons.mp ha with z | z;exact absurd z.symm e;exact z) h1 (fun i hi hne=>h2 i (by simp [hi]) hne) h3
   rw [h2 x (by simp) e]
   cases p x
   ·exact ih
   ·simp only [if_true,List.length_cons,ih]
theorem X7 {p q:Nat->Bool}{l:List Nat}(h:∀ i∈l,p i=q i):(l.filter p).length=(l.filter q).length:=by rw [List.filter_congr h]
theorem pY {ds:List Nat}(h:Dok ds){k j:Nat}(hk:k<ds.length)(h1:k<=j)(h2:j<Aq ds k):Lv ds k<=Lv ds j:=by
 obtain ⟨a,b,c,d⟩:=Bj (ds:=ds) hk
 refine X5 fun i hi hp=>?_
 rw [Bool.and_eq_true,decide_eq_true_iff,decide_eq_true_iff] at hp ⊢
 by_cases z:i<Aq ds k
 ·have:=c i hp.1 z
  omega
 ·omega
theorem aO {ds:List Nat}(h:Dok ds){k:Nat}(hk:k<ds.length)(he:Aq ds k<ds.length):Lv ds k=Lv ds (Aq ds k)+1:=by
 obtain ⟨a,b,c,d⟩:=Bj (ds:=ds) hk
 refine M5 (a:=Aq ds k) List.nodup_range (List.mem_range.mpr he) (by simp) (fun i hi hne=>?_) ?_
 ·have hi:=List.mem_range.mp hi
  have h5:=E2 h hi
  rw [Bool.eq_iff_iff,Bool.and_eq_true,Bool.and_eq_true,decide_eq_true_iff,decide_eq_true_iff,decide_eq_true_iff,decide_eq_true_iff]
  constructor
  ·rintro ⟨z1,z2⟩
   by_cases z:i<Aq ds k
   ·have:=c i z1 z;omega
   ·omega
  ·rintro ⟨z1,z2⟩
   rcases X3 h hk (show Aq ds k<=i by omega) hi with z | z<;>omega
 ·rw [Bool.and_eq_true,decide_eq_true_iff,decide_eq_true_iff]
  exact ⟨a,d he⟩
theorem Uz {ds:List Nat}{k:Nat}(hk:k<ds.length)(he:Aq ds k=ds.length):Lv ds k=0:=by
 obtain ⟨a,b,c,d⟩:=Bj (ds:=ds) hk
 unfold Lv
 rw [List.length_eq_zero_iff,List.filter_eq_nil_iff]
 intro i hi
 have hi:=List.mem_range.mp hi
 rw [Bool.and_eq_true,decide_eq_true_iff,decide_eq_true_iff]
 rintro ⟨z1,z2⟩
 have:=c i z1 (by omega)
 omega
theorem Ll {ds:List Nat}(h:Dok ds){k g:Nat}(hk:k<ds.length)(hg:eld ds k+1=g):g<=k/\eld ds g=eld ds k:=by
 have hlt:eld ds k<k:=by
  by_cases e:eld ds k=-1
  ·omega
  ·obtain ⟨v,hv,hvk,_⟩:=Dx h hk e
   omega
 refine ⟨by omega,?_⟩
 by_cases e:g=k
 ·rw [e]
 ·have h1:=Jy h hk rfl (show eld ds k<(g:Nat) by omega) (by omega)
  have h2:eld ds g<g:=by
   by_cases e:eld ds g=-1
   ·omega
   ·obtain ⟨v,hv,hvk,_⟩:=Dx h (show g<ds.length by omega) e
    omega
  omega
theorem nD {ds:List Nat}(h:Dok ds){k g j:Nat}(hk:k<ds.length)(hg:eld ds k+1=g)(h1:g<=j)(h2:j<k):Lv ds k<Lv ds j:=by
 have e1:Lv ds k+1<=Lv ds j:=by
  have hh:Lv ds k+1=((List.range ds.length).filter fun i=>decide (i=k)||(decide (k<i)&&decide (eld ds i<k))).length:=by
   symm
   refine M5 (a:=k) List.nodup_range (List.mem_range.mpr hk) (by simp) (fun i hi hne=>?_) (by simp)
   simp [hne]
  rw [hh]
  refine X5 fun i hi hp=>?_
  have hi:=List.mem_range.mp hi
  rw [Bool.or_eq_true,Bool.and_eq_true,decide_eq_true_iff,decide_eq_true_iff,decide_eq_true_iff] at hp
  rw [Bool.and_eq_true,decide_eq_true_iff,decide_eq_true_iff]
  rcases hp with rfl | ⟨p1,p2⟩
  ·omega
  ·by_cases z:eld ds i<g
   ·omega
   ·have:=Jy h hi rfl p2 p1
    omega
 omega
theorem nJ {ds:List Nat}(h:Dok ds){k g:Nat}(hk:k<ds.length)(hg:eld ds k+1=g):Lv ds g=Lv ds k+(Ay ds k (eld ds k)).length:=by
 obtain ⟨hgk,hge⟩:=Ll h hk hg
 have main:∀ d,g+d<=k->((List.range ds.length).filter fun i=>decide (g+d<i)&&decide (eld ds i<g)).length+(Ay ds (g+d+1) (eld ds k)).length=Lv ds g+1:=fun d=>by
  induction d with
  | zero =>
   intro _
   have e1:Ay ds (g+0+1) (eld ds k)=[g]:=by
    have e0:Ay ds g (eld ds k)=[]:=by
     rw [List.eq_nil_iff_forall_not_mem]
     intro j hj
     obtain ⟨j1,j2⟩:=Gi.mp hj
     have:eld ds j<j:=by
      by_cases e:eld ds j=-1
      ·omega
      ·obtain ⟨v,hv,hvk,_⟩:=Dx h (show j<ds.length by omega) e
       omega
     omega
    rw [Nat.add_zero,Ct hge,e0]
    rfl
   rw [e1]
   rfl
  | succ d ih =>
   intro hd
   have ih:=ih (by omega)
   have hlo:g+(d+1)<ds.length:=by omega
   by_cases e:eld ds (g+(d+1))=eld ds k
   ·rw [Ct e,List.length_append]
    have:((List.range ds.length).filter fun i=>decide (g+d<i)&&decide (eld ds i<g)).length=((List.range ds.length).filter fun i=>decide (g+(d+1)<i)&&decide (eld ds i<g)).length+1:=by
     refine M5 (a:=g+(d+1)) List.nodup_range (List.mem_range.mpr hlo) (by simp) (fun i hi hne=>?_) ?_
     ·congr 1
      exact decide_eq_decide.mpr (by omega)
     ·rw [Bool.and_eq_true,decide_eq_true_iff,decide_eq_true_iff]
      omega
    rw [show g+(d+1)=g+d+1 by omega] at *
    simp only [List.length_cons,List.length_nil]
    omega
   ·rw [G3 e]
    have:((List.range ds.length).filter fun i=>decide (g+d<i)&&decide (eld ds i<g)).length=((List.range ds.length).filter fun i=>decide (g+(d+1)<i)&&decide (eld ds i<g)).length:=by
     refine X7 fun i hi=>?_
     by_cases z:i=g+(d+1)
     ·subst z
      have hnc:eld ds k<=eld ds (g+(d+1)):=by
       by_cases y:g+(d+1)=k
       ·rw [y];exact Int.le_refl _
       ·exact Jy h hk rfl (by omega) (by omega)
      rw [decide_eq_false (show ¬ eld ds (g+(d+1))<g by omega),Bool.and_false,Bool.and_false]
     ·congr 1
      exact decide_eq_decide.mpr (by omega)
    rw [show g+(d+1)=g+d+1 by omega] at *
    omega
 have m:=main (k-g) (by omega)
 rw [show g+(k-g)=k by omega,Ct rfl,List.length_append] at m
 have e2:((List.range ds.length).filter fun i=>decide (k<i)&&decide (eld ds i<g)).length=Lv ds k:=by
  refine X7 fun i hi=>?_
  have hi:=List.mem_range.mp hi
  by_cases z:k<i
  ·rw [decide_eq_true z,Bool.true_and,Bool.true_and]
   refine decide_eq_decide.mpr ⟨fun y=>by omega,fun y=>?_⟩
   by_cases x:eld ds i<g
   ·exact x
   ·have:=Jy h hi rfl y z
    omega
  ·rw [decide_eq_false z,Bool.false_and,Bool.false_and]
 rw [e2] at m
 simp only [List.length_cons,List.length_nil] at m
 omega
theorem D6 {ds:List Nat}(h:Dok ds){k:Nat}(hk:k<ds.length):eld ds k<k:=by
 by_cases e:eld ds k=-1
 ·omega
 ·obtain ⟨v,hv,hvk,_⟩:=Dx h hk e
  omega
def E5 (ds:List Nat)(j:Nat):Nat:=((List.range ds.length).filter fun i=>decide (eld ds i<j)).length
theorem P6 {p q r:Nat->Bool}:∀ {l:List Nat},(∀ i∈l,r i=(p i||q i))->(∀ i∈l,p i=true->q i=false)->(l.filter r).length=(l.filter p).length+(l.filter q).length
 | [],_,_=>rfl
 | x::t,h1,h2=>by
  have ih:=P6 (l:=t) (fun i hi=>h1 i (by simp [hi])) (fun i hi=>h2 i (by simp [hi]))
  have hx:=h1 x (by simp)
  have hy:=h2 x (by simp)
  rw [List.filter_cons,List.filter_cons,List.filter_cons,hx]
  cases hp:p x<;>cases hq:q x
  ·simpa using ih
  ·simp only [Bool.false_or,Bool.false_eq_true,if_false,if_true,List.length_cons,ih];omega
  ·simp only [Bool.true_or,Bool.false_eq_true,if_false,if_true,List.length_cons,ih];omega
  ·rw [hy hp] at hq;cases hq
theorem Zz {ds:List Nat}(h:Dok ds):E5 ds 0=(Ay ds ds.length (-1)).length:=by
 unfold E5 Ay
 refine X7 fun i hi=>decide_eq_decide.mpr ?_
 have:=E2 h (List.mem_range.mp hi)
 omega
theorem Ow {ds:List Nat}(j:Nat):E5 ds (j+1)=E5 ds j+(Ay ds ds.length j).length:=by
 unfold E5 Ay
 refine P6 (fun i hi=>?_) (fun i hi hp=>?_)
 ·rw [Bool.eq_iff_iff,Bool.or_eq_true,decide_eq_true_iff,decide_eq_true_iff,decide_eq_true_iff]
  omega
 ·rw [decide_eq_true_iff] at hp
  exact decide_eq_false (by omega)
theorem Nl {ds:List Nat}(h:Dok ds):∀ j,j<=ds.length->((gsC ds).take (j+1)).sum=E5 ds j
 | 0,_=>by
  rw [Zz h]
  unfold gsC
  simp
 | j+1,hj=>by
  rw [List.take_add_one,dL (by omega),List.sum_append,Nl h j (by omega),Ow]
  simp
theorem tM {n j:Nat}(h:j<n):((List.range n).filter fun i=>decide (i<=j)).length=j+1:=by
 have e:(List.range n).filter (fun i=>decide (i<=j))=List.range (j+1):=by
  obtain ⟨d,rfl⟩:∃ d,n=j+1+d:=⟨n-(j+1),by omega⟩
  rw [List.range_add,List.filter_append,List.filter_eq_self.mpr (fun i hi=>decide_eq_true (by have:=List.mem_range.mp hi;omega)),List.filter_eq_nil_iff.mpr (fun i hi=>by
   obtain ⟨x,hx,rfl⟩:=List.mem_map.mp hi
   rw [decide_eq_true_iff]
   omega),List.append_nil]
 rw [e,List.length_range]
theorem C8 {ds:List Nat}(h:Dok ds){j:Nat}(hj:j<ds.length):E5 ds j=j+1+Lv ds j:=by
 rw [<- tM hj]
 refine P6 (fun i hi=>?_) (fun i hi hp=>?_)
 ·have h1:=D6 h (List.mem_range.mp hi)
  rw [Bool.eq_iff_iff,Bool.or_eq_true,Bool.and_eq_true,decide_eq_true_iff,decide_eq_true_iff,decide_eq_true_iff]
  omega
 ·rw [decide_eq_true_iff] at hp
  rw [decide_eq_false (show ¬ j<i by omega),Bool.false_and]
theorem Jn {ds:List Nat}(h:Dok ds):E5 ds ds.length=ds.length:=by
 unfold E5
 rw [List.filter_eq_self.mpr (fun i hi=>decide_eq_true (by have:=D6 h (List.mem_range.mp hi);have:=List.mem_range.mp hi;omega)),List.length_range]
theorem lC:∀ {ns:List Nat}{h:Nat},(∀ j,j<ns.length->j+1<=h+(ns.take j).sum)->h+ns.sum=ns.length->Gd h ns
 | [],h,_,e=>e
 | n::r,h,h1,e=>by
  have h0:=h1 0 (Nat.succ_pos _)
  rw [List.take_zero,List.sum_nil] at h0
  refine ⟨by omega,lC (fun j hj=>?_) ?_⟩
  ·have:=h1 (j+1) (by rw [List.length_cons];omega)
   rw [List.take_succ_cons,List.sum_cons] at this
   omega
  ·rw [List.sum_cons,List.length_cons] at e
   omega
theorem aF {ds:List Nat}(h:Dok ds):(gsC ds).sum=ds.length:=by
 have h1:=Nl h ds.length (Nat.le_refl _)
 rw [List.take_of_length_le (by rw [G2];exact Nat.le_refl _),Jn h] at h1
 exact h1
theorem sW {ds:List Nat}(h:Dok ds):Gd 1 (gsC ds):=by
 refine lC (fun j hj=>?_) (by rw [aF h,G2];omega)
 rw [G2] at hj
 cases j with
 | zero=>exact Nat.le_add_right _ _
 | succ j =>
  rw [Nl h j (by omega),C8 h (by omega)]
  omega
end TW
end
section
namespace TW
theorem Vf {ds:List Nat}(h:Dok ds){k i:Nat}(hki:k<i)(hi:i<ds.length)(e:eld ds i=eld ds k):Aq ds k<ds.length/\eld ds (Aq ds k)=eld ds k:=by
 have hk:k<ds.length:=by omega
 obtain ⟨a,b,c,d⟩:=Bj (ds:=ds) hk
 have hlt:=D6 h hk
 have hle:Aq ds k<=i:=by
  by_cases z:Aq ds k<=i
  ·exact z
  ·have:=c i hki (by omega)
   omega
 refine ⟨by omega,?_⟩
 by_cases z:Aq ds k=i
 ·rw [z];exact e
 ·have h1:=Jy h hi rfl (show eld ds i<(Aq ds k:Nat) by omega) (by omega)
  have h2:=d (by omega)
  by_cases y:eld ds (Aq ds k)=eld ds k
  ·exact y
  ·have:=Jy h (show Aq ds k<ds.length by omega) rfl h2 a
   omega
theorem Jc {ds:List Nat}{v:Int}:∀ (d k:Nat),(∀ i,k<=i->i<k+d->eld ds i≠v)->Ay ds (k+d) v=Ay ds k v
 | 0,k,_=>rfl
 | d+1,k,h=>by
  rw [show k+(d+1)=k+d+1 by omega,G3 (h (k+d) (by omega) (by omega)),Jc d k fun i a b=>h i a (by omega)]
theorem Rz {ds:List Nat}(h:Dok ds){k:Nat}(hk:k<ds.length):Ay ds (Aq ds k) (eld ds k)=Ay ds k (eld ds k)++[k]:=by
 obtain ⟨a,b,c,d⟩:=Bj (ds:=ds) hk
 have hlt:=D6 h hk
 have:=Jc (ds:=ds) (v:=eld ds k) (Aq ds k-(k+1)) (k+1) (fun i i1 i2=>by
  have:=c i (by omega) (by omega)
  omega)
 rw [show k+1+(Aq ds k-(k+1))=Aq ds k by omega] at this
 rw [this,Ct rfl]
def Bt (ds:List Nat)(k:Nat):Option Nat:=if Aq ds k<ds.length/\eld ds (Aq ds k)=eld ds k then some (Aq ds k) else none
theorem E7 {ds:List Nat}{k j:Nat}(e:Bt ds k=some j):j=Aq ds k/\j<ds.length/\eld ds j=eld ds k:=by
 unfold Bt at e
 by_cases z:Aq ds k<ds.length/\eld ds (Aq ds k)=eld ds k
 ·rw [if_pos z] at e
  obtain rfl:=Option.some.inj e
  exact ⟨rfl,z.1,z.2⟩
 ·rw [if_neg z] at e
  cases e
theorem dX {ds:List Nat}(h:Dok ds){k:Nat}(hk:k<ds.length)(e:Bt ds k=none):Ay ds ds.length (eld ds k)=Ay ds k (eld ds k)++[k]:=by
 have hno:∀ i,k+1<=i->i<k+1+(ds.length-(k+1))->eld ds i≠eld ds k:=fun i i1 i2 z=>by
  have:=Vf h (show k<i by omega) (by omega) z
  unfold Bt at e
  rw [if_pos this] at e
  cases e
 have:=Jc (ds:=ds) (ds.length-(k+1)) (k+1) hno
 rw [show k+1+(ds.length-(k+1))=ds.length by omega] at this
 rw [this,Ct rfl]
theorem T0 {ds:List Nat}{v:Int}:∀ (d k:Nat),(Ay ds k v).length<=(Ay ds (k+d) v).length
 | 0,k=>Nat.le_refl _
 | d+1,k=>by
  have:=T0 (ds:=ds) (v:=v) d k
  rw [show k+(d+1)=k+d+1 by omega]
  by_cases e:eld ds (k+d)=v
  ·rw [Ct e,List.length_append];omega
  ·rw [G3 e];exact this
theorem gT {ds:List Nat}(h:Dok ds){k j:Nat}(hk:k<ds.length)(e:Bt ds k=some j):(Ay ds j (eld ds j)).length=(Ay ds k (eld ds k)).length+1/\(Ay ds k (eld ds k)).length+1<(Ay ds ds.length (eld ds k)).length:=by
 obtain ⟨rfl,h1,h2⟩:=E7 e
 have h3:=Rz h hk
 refine ⟨by rw [h2,h3,List.length_append];rfl,?_⟩
 have h4:(Ay ds (Aq ds k+1) (eld ds k)).length=(Ay ds k (eld ds k)).length+2:=by rw [Ct h2,h3,List.length_append,List.length_append];rfl
 have h5:=T0 (ds:=ds) (v:=eld ds k) (ds.length-(Aq ds k+1)) (Aq ds k+1)
 rw [show Aq ds k+1+(ds.length-(Aq ds k+1))=ds.length by omega] at h5
 omega
theorem jF {ds:List Nat}(h:Dok ds){k j:Nat}(hk:k<ds.length)(e:(Ay ds k (eld ds k)).getLast?=some j):j<k/\eld ds j=eld ds k/\Aq ds j=k/\(Ay ds j (eld ds j)).length+1=(Ay ds k (eld ds k)).length:=by
 have hm:=List.mem_of_getLast? e
 obtain ⟨h1,h2⟩:=Gi.mp hm
 have hj:j<ds.length:=by omega
 obtain ⟨s1,s2⟩:=Vf h h1 hk h2.symm
 obtain ⟨a,b,c,d⟩:=Bj (ds:=ds) hj
 have hle:Aq ds j<=k:=by
  by_cases z:Aq ds j<=k
  ·exact z
  ·have:=c k h1 (by omega)
   have:=D6 h hj
   omega
 have he:Aq ds j=k:=by
  by_cases z:Aq ds j=k
  ·exact z
  ·have hmem:Aq ds j∈Ay ds k (eld ds k):=Gi.mpr ⟨by omega,by rw [s2,h2]⟩
   obtain ⟨p,hp⟩:=List.getElem?_of_mem hmem
   have hlast:(Ay ds k (eld ds k))[(Ay ds k (eld ds k)).length-1]?=some j:=by rw [<- List.getLast?_eq_getElem?];exact e
   have hpl:=(List.getElem?_eq_some_iff.mp hp).1
   have hsort:(Ay ds k (eld ds k)).Pairwise (· < ·):=by
    unfold Ay
    exact List.Pairwise.filter _ List.pairwise_lt_range
   by_cases y:p=(Ay ds k (eld ds k)).length-1
   ·rw [y,hlast] at hp
    have:=Option.some.inj hp
    omega
   ·have hl2:=(List.getElem?_eq_some_iff.mp hlast).1
    have:=List.pairwise_iff_getElem.mp hsort p ((Ay ds k (eld ds k)).length-1) hpl hl2 (by omega)
    rw [List.getElem?_eq_getElem hpl] at hp
    rw [List.getElem?_eq_getElem hl2] at hlast
    have e1:=Option.some.inj hp
    have e2:=Option.some.inj hlast
    omega
 refine ⟨h1,h2,he,?_⟩
 have h3:=Rz h hj
 rw [he,h2] at h3
 rw [h2,h3,List.length_append]
 rfl
theorem uV {ds:List Nat}(h:Dok ds){k v:Nat}(hk:k<ds.length)(e:Bt ds k=none)(hv:eld ds k=v):Aq ds v=Aq ds k:=by
 have hvk:=D6 h hk
 have hvl:v<ds.length:=by omega
 obtain ⟨a,b,c,d⟩:=Bj (ds:=ds) hk
 obtain ⟨a2,b2,c2,d2⟩:=Bj (ds:=ds) hvl
 have h1:k<Aq ds v:=by
  by_cases z:k<Aq ds v
  ·exact z
  ·rcases X3 h hvl (show Aq ds v<=k by omega) hk with y | y<;>omega
 have h2:Aq ds k<=Aq ds v:=by
  by_cases z:Aq ds k<=Aq ds v
  ·exact z
  ·have:=c (Aq ds v) h1 (by omega)
   have:=d2 (by omega)
   omega
 by_cases z:Aq ds k=Aq ds v
 ·exact z.symm
 ·exfalso
  have h3:=c2 (Aq ds k) (by omega) (by omega)
  have h4:=d (by omega)
  have h5:=Jy h (show Aq ds k<ds.length by omega) rfl h4 a
  unfold Bt at e
  rw [if_pos ⟨by omega,by omega⟩] at e
  cases e
theorem qJ {ds:List Nat}(h:Dok ds){k:Nat}(hk:k<ds.length)(e:Bt ds k=none)(hv:eld ds k=-1):Aq ds k=ds.length:=by
 obtain ⟨a,b,c,d⟩:=Bj (ds:=ds) hk
 by_cases z:Aq ds k=ds.length
 ·exact z
 ·exfalso
  have h4:=d (by omega)
  have h5:=Jy h (show Aq ds k<ds.length by omega) rfl h4 a
  have h6:=E2 h (show Aq ds k<ds.length by omega)
  unfold Bt at e
  rw [if_pos ⟨by omega,by omega⟩] at e
  cases e
theorem bW {ds:List Nat}(h:Dok ds){k:Nat}(hk:k<ds.length):∀ i,k<i->i<Aq ds k->dAt ds k<dAt ds i:=fun i=>by
 obtain ⟨a,b,c,d⟩:=Bj (ds:=ds) hk
 induction i using Nat.strongRecOn with
 | _ i ih =>
  intro h1 h2
  have h3:=c i h1 h2
  obtain ⟨v,hv,hvi,hd⟩:=Dx h (show i<ds.length by omega) (by omega)
  by_cases e:v=k
  ·rw [hd,e];omega
  ·have:=ih v hvi (by omega) (by omega)
   omega
def Dt (ds:List Nat)(k:Nat):List Nat:=(List.range (Aq ds k-k)).map fun i=>dAt ds (k+i)-dAt ds k
theorem F6 (ds:List Nat)(k:Nat):(Dt ds k).length=Aq ds k-k:=by unfold Dt;rw [List.length_map,List.length_range]
theorem Ss {ds:List Nat}{k i:Nat}(h:i<Aq ds k-k):dAt (Dt ds k) i=dAt ds (k+i)-dAt ds k:=by
 unfold dAt Dt List.getD
 rw [List.getElem?_map,List.getElem?_range h]
 rfl
theorem Vy {ds:List Nat}(h:Dok ds){k:Nat}(hk:k<ds.length):Dok (Dt ds k):=fun i hi=>by
 obtain ⟨a,b,c,d⟩:=Bj (ds:=ds) hk
 rw [F6] at hi
 rw [Ss hi]
 cases i with
 | zero=>show _<=0;rw [Nat.add_zero,Nat.sub_self];exact Nat.le_refl _
 | succ i =>
  show _<=dAt (Dt ds k) i+1
  rw [Ss (by omega)]
  have h1:dAt ds (k+(i+1))<=dAt ds (k+i)+1:=h (k+(i+1)) (by omega)
  by_cases e:i=0
  ·subst e
   rw [Nat.add_zero] at *
   omega
  ·have:=bW h hk (k+i) (by omega) (by omega)
   omega
theorem gA {ds:List Nat}(h:Dok ds){k:Nat}(hk:k<ds.length):∀ i,i<Aq ds k-k->way (Dt ds k) (i+1)=-1::((way ds (k+(i+1))).drop (dAt ds k+1)).map (fun x=>x-(k:Int))
 | 0,hi=>by
  obtain ⟨a,b,c,d⟩:=Bj (ds:=ds) hk
  show (way (Dt ds k) 0).take (dAt (Dt ds k) 0+1)++[((0:Nat):Int)]=_
  have hl:=Co h k (by omega)
  have hd:=h k hk
  show ([-1]:List Int).take (dAt (Dt ds k) 0+1)++[((0:Nat):Int)]=-1::(((way ds k).take (dAt ds k+1)++[(k:Int)]).drop (dAt ds k+1)).map (fun x=>x-(k:Int))
  have e1:(((way ds k).take (dAt ds k+1)++[(k:Int)]).drop (dAt ds k+1))=[(k:Int)]:=by
   have:((way ds k).take (dAt ds k+1)).length=dAt ds k+1:=by rw [List.length_take];omega
   rw [List.drop_append_of_le_length (by omega),List.drop_of_length_le (by omega)]
   rfl
  rw [e1,List.take_of_length_le (by simp)]
  simp
 | i+1,hi=>by
  obtain ⟨a,b,c,d⟩:=Bj (ds:=ds) hk
  have ih:=gA h hk i (by omega)
  have hl:=Co h (k+(i+1)) (by omega)
  have hd:=h (k+(i+1)) (by omega)
  have hdp:=bW h hk (k+(i+1)) (by omega) (by omega)
  show (way (Dt ds k) (i+1)).take (dAt (Dt ds k) (i+1)+1)++[((i+1:Nat):Int)]=-1::((((way ds (k+(i+1))).take (dAt ds (k+(i+1))+1)++[((k+(i+1):Nat):Int)])).drop (dAt ds k+1)).map (fun x=>x-(k:Int))
  rw [ih,Ss hi,List.take_succ_cons]
  have hl2:((way ds (k+(i+1))).take (dAt ds (k+(i+1))+1)).length=dAt ds (k+(i+1))+1:=by rw [List.length_take];omega
  rw [List.drop_append_of_le_length (by omega),List.map_append,List.drop_take,List.cons_append,<- List.map_take,show dAt ds (k+(i+1))+1-(dAt ds k+1)=dAt ds (k+(i+1))-dAt ds k by omega]
  congr 2
  show [((i+1:Nat):Int)]=[((k+(i+1):Nat):Int)-(k:Int)]
  congr 1
  omega
theorem Xn {ds:List Nat}(h:Dok ds){k i:Nat}(hk:k<ds.length)(h0:0<i)(hi:i<Aq ds k-k):eld (Dt ds k) i=eld ds (k+i)-k:=by
 obtain ⟨a,b,c,d⟩:=Bj (ds:=ds) hk
 obtain ⟨j,rfl⟩:∃ j,i=j+1:=⟨i-1,by omega⟩
 have h1:=Ie (Vy h hk) (k:=j+1) (by rw [F6];exact hi)
 have h2:=Ie h (show k+(j+1)<ds.length by omega)
 have hdp:=bW h hk (k+(j+1)) (by omega) (by omega)
 rw [gA h hk j (by omega),Ss hi] at h1
 obtain ⟨m,hm⟩:∃ m,dAt ds (k+(j+1))-dAt ds k=m+1:=⟨_,(Nat.succ_pred_eq_of_pos (by omega)).symm⟩
 rw [hm,List.getElem?_cons_succ,List.getElem?_map,List.getElem?_drop,show dAt ds k+1+m=dAt ds (k+(j+1)) by omega,h2] at h1
 exact (Option.some.inj h1).symm
theorem So {ds:List Nat}(h:Dok ds){k:Nat}(hk:k<ds.length):eld (Dt ds k) 0=-1:=by
 obtain ⟨a,b,c,d⟩:=Bj (ds:=ds) hk
 have h1:=Ie (Vy h hk) (k:=0) (by rw [F6];omega)
 have h2:dAt (Dt ds k) 0=0:=by rw [Ss (by omega),Nat.add_zero,Nat.sub_self]
 rw [h2] at h1
 exact (Option.some.inj h1).symm
theorem Z7 {ds:List Nat}(h:Dok ds){k i:Nat}(hk:k<ds.length):∀ m,m<=Aq ds k-k->(Ay (Dt ds k) m (i:Int)).length=(Ay ds (k+m) ((k+i:Nat):Int)).length
 | 0,_=>by
  have:Ay ds (k+0) ((k+i:Nat):Int)=[]:=by
   rw [List.eq_nil_iff_forall_not_mem]
   intro j hj
   obtain ⟨j1,j2⟩:=Gi.mp hj
   have:=D6 h (show j<ds.length by omega)
   omega
  rw [this]
  rfl
 | m+1,hm=>by
  obtain ⟨a,b,c,d⟩:=Bj (ds:=ds) hk
  have ih:=Z7 h (i:=i) hk m (by omega)
  rw [show k+(m+1)=k+m+1 by omega]
  by_cases h0:m=0
  ·subst h0
   rw [G3 (by rw [So h hk];omega),G3 (by have:=D6 h hk;omega)]
   exact ih
  ·have e:=Xn h hk (i:=m) (by omega) (by omega)
   by_cases z:eld (Dt ds k) m=(i:Int)
   ·rw [Ct z,Ct (show eld ds (k+m)=((k+i:Nat):Int) by omega),List.length_append,List.length_append,ih]
    rfl
   ·rw [G3 z,G3 (show eld ds (k+m)≠((k+i:Nat):Int) by omega)]
    exact ih
theorem pG {ds:List Nat}(h:Dok ds){k i:Nat}(hk:k<ds.length)(hi:i<Aq ds k-k):(Ay (Dt ds k) (Dt ds k).length (i:Int)).length=(Ay ds ds.length ((k+i:Nat):Int)).length:=by
 obtain ⟨a,b,c,d⟩:=Bj (ds:=ds) hk
 rw [F6,Z7 h hk _ (Nat.le_refl _),show k+(Aq ds k-k)=Aq ds k by omega]
 have:=Jc (ds:=ds) (v:=((k+i:Nat):Int)) (ds.length-Aq ds k) (Aq ds k) (fun j j1 j2 z=>by
  rcases X3 h hk j1 (by omega) with y | y<;>omega)
 rw [show Aq ds k+(ds.length-Aq ds k)=ds.length by omega] at this
 rw [this]
theorem oA {ds:List Nat}(h:Dok ds){k:Nat}(hk:k<ds.length):(Ay (Dt ds k) (Dt ds k).length (-1)).length=1:=by
 obtain ⟨a,b,c,d⟩:=Bj (ds:=ds) hk
 have h1:Ay (Dt ds k) 1 (-1)=[0]:=by
  show Ay (Dt ds k) (0+1) (-1)=[0]
  rw [Ct (So h hk)]
  rfl
 have:=Jc (ds:=Dt ds k) (v:=-1) (Aq ds k-k-1) 1 (fun j j1 j2 z=>by
  have e:=Xn h hk (i:=j) (by omega) (by omega)
  have:=c (k+j) (by omega) (by omega)
  omega)
 rw [F6,show Aq ds k-k=1+(Aq ds k-k-1) by omega,this,h1]
 rfl
theorem qV {ds:List Nat}(h:Dok ds){k:Nat}(hk:k<ds.length):gsC (Dt ds k)=1::((gsC ds).drop (k+1)).take (Aq ds k-k):=by
 obtain ⟨a,b,c,d⟩:=Bj (ds:=ds) hk
 unfold gsC
 rw [oA h hk,List.drop_succ_cons]
 congr 1
 refine List.ext_getElem? fun i=>?_
 by_cases hi:i<Aq ds k-k
 ·rw [List.getElem?_map,List.getElem?_range (by rw [F6];exact hi),List.getElem?_take_of_lt hi,List.getElem?_drop,List.getElem?_map,List.getElem?_range (by omega)]
  exact congrArg some (pG h hk hi)
 ·rw [List.getElem?_eq_none (by rw [List.length_map,List.length_range,F6];omega),List.getElem?_eq_none (by rw [List.length_take];omega)]
theorem kQ {ds:List Nat}(h:Dok ds){k:Nat}(hk:k<ds.length):Az (Dt ds k)=-1::(((Az ds).drop (k+1)).take (Aq ds k-(k+1))).map (fun x=>x-(k:Int)):=by
 obtain ⟨a,b,c,d⟩:=Bj (ds:=ds) hk
 refine List.ext_getElem? fun i=>?_
 by_cases hi:i<Aq ds k-k
 ·rw [J3 (by rw [F6];exact hi)]
  cases i with
  | zero=>rw [So h hk];rfl
  | succ i =>
   rw [List.getElem?_cons_succ,List.getElem?_map,List.getElem?_take_of_lt (by omega),List.getElem?_drop,J3 (by omega),Xn h hk (by omega) hi,show k+1+i=k+(i+1) by omega]
   rfl
 ·rw [List.getElem?_eq_none (by rw [Bu,F6];omega),List.getElem?_eq_none (by rw [List.length_cons,List.length_map,List.length_take];omega)]
theorem Vk:∀ {l m:List Nat},l.Pairwise (· < ·)->m.Pairwise (· < ·)->(∀ x,x∈l↔x∈m)->l=m
 | [],[],_,_,_=>rfl
 | [],b::m,_,_,h=>by have:=(h b).mpr (by simp);cases this
 | a::l,[],_,_,h=>by have:=(h a).mp (by simp);cases this
 | a::l,b::m,h1,h2,h=>by
  rw [List.pairwise_cons] at h1 h2
  have e:a=b:=by
   rcases List.mem_cons.mp ((h a).mp (by simp)) with z | z
   ·exact z
   ·rcases List.mem_cons.mp ((h b).mpr (by simp)) with y | y
    ·exact y.symm
    ·have:=h2.1 a z
     have:=h1.1 b y
     omega
  subst e
  congr 1
  refine Vk h1.2 h2.2 fun x=>⟨fun hx=>?_,fun hx=>?_⟩
  ·rcases List.mem_cons.mp ((h x).mp (by simp [hx])) with z | z
   ·have:=h1.1 x hx;omega
   ·exact z
  ·rcases List.mem_cons.mp ((h x).mpr (by simp [hx])) with z | z
   ·have:=h2.1 x hx;omega
   ·exact z
def vR (ds:List Nat)(i j:Nat):Bool:=decide (i<=j)&&decide (eld ds j<i)&&(List.range j).all fun m=>decide (m<i)||decide (eld ds m≠eld ds j)
def pnd (ds:List Nat)(i:Nat):List Nat:=(List.range ds.length).filter (vR ds i)
theorem J0 {ds:List Nat}{i j:Nat}:j∈pnd ds i↔j<ds.length/\i<=j/\eld ds j<i/\∀ m,i<=m->m<j->eld ds m≠eld ds j:=by
 unfold pnd vR
 rw [List.mem_filter,List.mem_range,Bool.and_eq_true,Bool.and_eq_true,decide_eq_true_iff,decide_eq_true_iff,List.all_eq_true]
 constructor
 ·rintro ⟨h1,⟨h2,h3⟩,h4⟩
  refine ⟨h1,h2,h3,fun m m1 m2=>?_⟩
  have:=h4 m (List.mem_range.mpr m2)
  rw [Bool.or_eq_true,decide_eq_true_iff,decide_eq_true_iff] at this
  rcases this with z | z
  ·omega
  ·exact z
 ·rintro ⟨h1,h2,h3,h4⟩
  refine ⟨h1,⟨h2,h3⟩,fun m hm=>?_⟩
  rw [Bool.or_eq_true,decide_eq_true_iff,decide_eq_true_iff]
  by_cases z:m<i
  ·exact .inl z
  ·exact .inr (h4 m (by omega) (List.mem_range.mp hm))
theorem Pq (ds:List Nat)(i:Nat):(pnd ds i).Pairwise (· < ·):=List.Pairwise.filter _ List.pairwise_lt_range
theorem pT {ds:List Nat}:pnd ds ds.length=[]:=by
 rw [List.eq_nil_iff_forall_not_mem]
 intro j hj
 have:=J0.mp hj
 omega
def Mi (ds:List Nat)(i:Nat):List Nat:=(pnd ds i).filter fun j=>decide (i<j)
theorem Zk {ds:List Nat}(h:Dok ds){i:Nat}(hi:i<ds.length):pnd ds i=i::Mi ds i:=by
 refine Vk (Pq ds i) ?_ fun x=>?_
 ·rw [List.pairwise_cons]
  refine ⟨fun x hx=>?_,(Pq ds i).filter _⟩
  exact of_decide_eq_true (List.mem_filter.mp hx).2
 ·unfold Mi
  rw [List.mem_cons,List.mem_filter,decide_eq_true_iff]
  constructor
  ·intro hx
   have:=J0.mp hx
   by_cases e:x=i
   ·exact .inl e
   ·exact .inr ⟨hx,by omega⟩
  ·rintro (rfl | ⟨hx,_⟩)
   ·exact J0.mpr ⟨hi,Nat.le_refl _,D6 h hi,fun m m1 m2=>by omega⟩
   ·exact hx
def Lz (ds:List Nat)(i:Nat):Option Nat:=if 0<(Ay ds ds.length (i:Int)).length then some (i+1) else none
theorem Zj {ds:List Nat}(h:Dok ds){i j:Nat}(e:Lz ds i=some j):j=i+1/\j<ds.length/\eld ds j=i:=by
 unfold Lz at e
 by_cases z:0<(Ay ds ds.length (i:Int)).length
 ·rw [if_pos z] at e
  obtain rfl:=Option.some.inj e
  obtain ⟨j,hj⟩:=List.exists_mem_of_length_pos z
  obtain ⟨j1,j2⟩:=Gi.mp hj
  obtain ⟨h1,h2⟩:=Ll h j1 (g:=i+1) (by rw [j2];omega)
  exact ⟨rfl,by omega,by rw [h2,j2]⟩
 ·rw [if_neg z] at e
  cases e
theorem lT {ds:List Nat}{i:Nat}(e:Lz ds i=none):∀ j,j<ds.length->eld ds j≠i:=fun j hj z=>by
 unfold Lz at e
 have:j∈Ay ds ds.length (i:Int):=Gi.mpr ⟨hj,z⟩
 rw [if_pos (List.length_pos_of_mem this)] at e
 cases e
theorem bF {ds:List Nat}(h:Dok ds){i j:Nat}(hi:i<j)(hj:j<ds.length)(e:eld ds j=eld ds i)(hf:∀ m,i+1<=m->m<j->eld ds m≠eld ds j):Bt ds i=some j:=by
 obtain ⟨s1,s2⟩:=Vf h hi hj e
 obtain ⟨a,b,c,d⟩:=Bj (ds:=ds) (show i<ds.length by omega)
 have hlt:=D6 h (show i<ds.length by omega)
 have hle:Aq ds i<=j:=by
  by_cases z:Aq ds i<=j
  ·exact z
  ·have:=c j hi (by omega)
   omega
 have he:Aq ds i=j:=by
  by_cases z:Aq ds i=j
  ·exact z
  ·exact absurd (by rw [s2,e]) (hf (Aq ds i) (by omega) (by omega))
 unfold Bt
 rw [if_pos ⟨s1,s2⟩,he]
theorem nS {ds:List Nat}(h:Dok ds){i:Nat}(hi:i<ds.length):pnd ds (i+1)=(Lz ds i).toList++((Bt ds i).toList++Mi ds i):=by
 obtain ⟨a,b,c,d⟩:=Bj (ds:=ds) hi
 have hlt:=D6 h hi
 have far:∀ x∈Mi ds i,Aq ds i<=x/\eld ds x≠eld ds i/\eld ds x<i/\x<ds.length/\∀ m,i<=m->m<x->eld ds m≠eld ds x:=fun x hx=>by
  obtain ⟨hx1,hx2⟩:=List.mem_filter.mp hx
  have hx2:=of_decide_eq_true hx2
  obtain ⟨p1,p2,p3,p4⟩:=J0.mp hx1
  refine ⟨?_,fun e=>p4 i (Nat.le_refl _) hx2 e.symm,p3,p1,p4⟩
  by_cases z:Aq ds i<=x
  ·exact z
  ·have:=c x hx2 (by omega)
   omega
 have kin:∀ {j},Lz ds i=some j->j=i+1/\j<Aq ds i/\eld ds j=i/\j<ds.length:=fun e=>by
  obtain ⟨rfl,k2,k3⟩:=Zj h e
  refine ⟨rfl,?_,k3,k2⟩
  by_cases z:i+1<Aq ds i
  ·exact z
  ·have:=d (by omega)
   rw [show Aq ds i=i+1 by omega,k3] at this
   omega
 refine Vk (Pq ds _) ?_ fun x=>?_
 ·rw [List.pairwise_append]
  refine ⟨?_,?_,fun x hx y hy=>?_⟩
  ·cases Lz ds i<;>simp
  ·rw [List.pairwise_append]
   refine ⟨?_,(Pq ds i).filter _,fun x hx y hy=>?_⟩
   ·cases Bt ds i<;>simp
   ·rw [Option.mem_toList] at hx
    obtain ⟨r1,r2,r3⟩:=E7 hx
    obtain ⟨f1,f2,f3,f4,f5⟩:=far y hy
    by_cases z:x=y
    ·rw [z] at r3;exact absurd r3 f2
    ·omega
  ·rw [Option.mem_toList] at hx
   obtain ⟨k1,k2,k3,k4⟩:=kin hx
   rcases List.mem_append.mp hy with z | z
   ·rw [Option.mem_toList] at z
    obtain ⟨r1,r2,r3⟩:=E7 z
    omega
   ·obtain ⟨f1,_⟩:=far y z
    omega
 ·rw [J0,List.mem_append,List.mem_append,Option.mem_toList,Option.mem_toList]
  constructor
  ·rintro ⟨h1,h2,h3,h4⟩
   by_cases e:eld ds x=i
   ·left
    cases hk:Lz ds i with
    | none=>exact absurd e (lT hk x h1)
    | some j =>
     obtain ⟨k1,k2,k3,k4⟩:=kin hk
     by_cases z:x=j
     ·rw [z]
     ·exact absurd (by rw [k3,e]) (h4 j (by omega) (by omega))
   ·right
    by_cases e2:eld ds x=eld ds i
    ·left
     exact bF h (by omega) h1 e2 h4
    ·right
     refine List.mem_filter.mpr ⟨J0.mpr ⟨h1,by omega,by omega,fun m m1 m2=>?_⟩,decide_eq_true (by omega)⟩
     by_cases z:m=i
     ·rw [z];exact fun y=>e2 y.symm
     ·exact h4 m (by omega) m2
  ·rintro (hk | hr | ht)
   ·obtain ⟨k1,k2,k3,k4⟩:=kin hk
    exact ⟨k4,by omega,by omega,fun m m1 m2=>by omega⟩
   ·obtain ⟨r1,r2,r3⟩:=E7 hr
    refine ⟨r2,by omega,by omega,fun m m1 m2 z=>?_⟩
    have:=c m (by omega) (by omega)
    omega
   ·obtain ⟨f1,f2,f3,f4,f5⟩:=far x ht
    exact ⟨f4,by omega,by omega,fun m m1 m2=>f5 m (by omega) m2⟩
theorem lQ {ds:List Nat}(h:Dok ds):pnd ds 0=if 0<ds.length then [0] else []:=by
 by_cases z:0<ds.length
 ·rw [if_pos z,Zk h z]
  congr 1
  rw [List.eq_nil_iff_forall_not_mem]
  intro x hx
  obtain ⟨hx1,hx2⟩:=List.mem_filter.mp hx
  have hx2:=of_decide_eq_true hx2
  obtain ⟨p1,p2,p3,p4⟩:=J0.mp hx1
  have h0:=D6 h z
  have h1:=E2 h z
  have h2:=E2 h p1
  exact p4 0 (Nat.le_refl _) hx2 (by omega)
 ·rw [if_neg z]
  unfold pnd
  rw [show ds.length=0 by omega]
  rfl
end TW
end
section
namespace L2
open PySem PySem.Spec PyProof.Rows
def yC (K:PySem.W.Frag):R2:=fun x y H Q=>∃ a b xs,x=.ref a/\y=.ref b/\SqL K H a xs/\SqL K H b []/\Q (.bl (!decide (xs=[]))) H
theorem tQ {X:Cx}(hu:X.A.units+60<cLine):OpR X (compareOp .NotEq) (yC X.K):=by
 intro pins s σ H x y v u Q I rx ry h
 obtain ⟨a,b,xs,rfl,rfl,h1,h2,q⟩:=h
 cases rx;cases ry
 obtain ⟨is,r1,p1,_⟩:=I.list h1
 obtain ⟨js,r2,p2,_⟩:=I.list h2
 have l1:=r1.length;have l2:=r2.length
 have l2:js.length=0:=by simpa using l2.symm
 by_cases hl:xs=[]
 ·subst hl
  have l1:is.length=0:=by simpa using l1.symm
  have:=SeqAt.RcNeAt.lists (A:=X.A) (e:=fun _=>true) p1.isList p2.isList (by simp;omega) (by omega) fun j a1 a2=>absurd a1 (by simp;omega)
  refine this _ _ _ _ ⟨.bl (!decide (([]:List V)=[])),H,I,?_,q⟩
  simp [Bk,l1]
 ·have hp:0<xs.length:=List.length_pos_iff.mpr hl
  have:=SeqAt.RcNeAt.lists_lengths (A:=X.A) p1.isList p2.isList (by simp;omega) (by omega)
  refine this _ _ _ _ ⟨.bl (!decide (xs=[])),H,I,?_,q⟩
  rw [decide_eq_false hl]
  simp [Bk]
theorem xP {K:PySem.W.Frag}{H:Hp}{Q:VK}{a b:Addr}{xs:List V}(h1:SqL K H a xs)(h2:SqL K H b [])(q:Q (.bl (!decide (xs=[]))) H):yC K (.ref a) (.ref b) H Q:=⟨a,b,xs,rfl,rfl,h1,h2,q⟩
end L2
end
local macro_rules | `(tactic| walk_at "rd")=>`(tactic| repeat (first | with_reducible refine L2.wE ?_ | with_reducible refine L2.tP ?_ | with_reducible refine L2.wB ?_ | with_reducible refine L2.pH ?_ | with_reducible refine L2.wM ?_ | with_reducible refine L2.r_retN ?_ | with_reducible refine L2.tF ?_ | with_reducible refine L2.xQ ?_ | with_reducible refine L2.uC ?_ | with_reducible refine L2.yQ ?_ | with_reducible refine L2.wH ?_ | with_reducible refine L2.wK ?_ | with_reducible refine L2.yZ ?_ | with_reducible refine L2.wI ?_ | with_reducible refine L2.vB ?_ | with_reducible refine L2.yT ?_ | with_reducible refine L2.yK ?_ | with_reducible refine L2.yY ?_ | with_reducible refine L2.r_c ?_ | with_reducible refine L2.rX ?_ | with_reducible refine L2.yG ?_ | with_reducible refine L2.yN ?_ | with_reducible refine L2.wX ?_ | with_reducible refine L2.vM ?_ | with_reducible refine L2.uL ?_ | with_reducible refine L2.tS ?_ | with_reducible refine L2.yJ ?_ | with_reducible refine L2.xA ?_ | with_reducible refine L2.wT ?_ | with_reducible refine L2.yW ?_ | with_reducible refine L2.vZ ?_ | with_reducible refine L2.zE ?_ | with_reducible refine L2.nA ?_ | with_reducible refine L2.uU ?_ | with_reducible refine L2.vK ?_ | with_reducible refine L2.tU ?_ | with_reducible refine L2.uF ?_ | with_reducible refine L2.vD ?_ | with_reducible refine L2.oS ?_ | with_reducible refine L2.sO ?_ | with_reducible refine L2.uY ?_ | with_reducible refine L2.yO ?_ | with_reducible refine L2.xW ?_ | with_reducible refine L2.wL ?_ | with_reducible refine L2.qU ?_ | with_reducible refine L2.uJ ?_ | with_reducible refine L2.wS ?_ | with_reducible refine L2.sS ?_ | with_reducible refine L2.xT ?_ | with_reducible refine L2.uB ?_ | with_reducible refine L2.uH ?_ | with_reducible refine L2.tK ?_ | with_reducible refine L2.vW ?_ | with_reducible refine L2.r_cBK ?_ | with_reducible refine L2.uZ ?_ | with_reducible refine L2.oY ?_ | with_reducible refine L2.xN ?_ | with_reducible refine L2.oJ ?_ | with_reducible refine L2.r_rngD ?_ | with_reducible refine L2.sR ?_ | with_reducible refine L2.tV ?_ | with_reducible refine L2.tZ ?_ | with_reducible refine L2.uM ?_ | with_reducible refine L2.qC ?_ | with_reducible refine L2.vA ?_ | with_reducible refine L2.pS ?_ | with_reducible refine L2.yE ?_ | with_reducible refine L2.lE (by decide) ?_ | with_reducible refine L2.gE (by decide) ?_ | with_reducible refine L2.lY (by decide) (by decide) ?_ | with_reducible refine L2.lV (by decide) (by decide) ?_ | with_reducible refine L2.sX (by decide) (by decide) ?_ | with_reducible refine L2.xE rfl ?_ | with_reducible refine L2.wG rfl ?_ | with_reducible refine L2.yS ?_ | with_reducible refine L2.zA ?_ | with_reducible refine L2.wW ?_ | with_reducible refine L2.wC ?_ | refine L2.xY rfl ?_ | refine L2.wV rfl ?_ | dsimp only))
namespace TK
open PySem L2 TW
def top (i:Nat):Stmt:=PySem.Challenge.pw_tightwood_k55_whole_each_stretch_a_wood.main.body.getD i (.Pass ⟨0,0,0,0⟩)
abbrev J1:Stmt:=top 9
theorem aG:Ai ["thing"] ["thing"] (Ad J1):=⟨rfl,rfl,rfl,by decide +kernel,rfl,by decide +kernel,by decide +kernel⟩
abbrev Hw:Stmt:=top 10
theorem Vc:Ai ["thing","low","high"] ["thing","low","high"] (Ad Hw):=⟨rfl,rfl,rfl,by decide +kernel,rfl,by decide +kernel,by decide +kernel⟩
abbrev Ib:Stmt:=top 11
theorem Y1:Ai ["bit"] ["bit"] (Ad Ib):=⟨rfl,rfl,rfl,by decide +kernel,rfl,by decide +kernel,by decide +kernel⟩
abbrev F2:Stmt:=top 12
theorem Rg:Ai ["place","greatest"] ["place","greatest"] (Ad F2):=⟨rfl,rfl,rfl,by decide +kernel,rfl,by decide +kernel,by decide +kernel⟩
abbrev Ex:Stmt:=top 13
theorem Of:Ai ["low","high","greatest"] ["low","high","greatest"] (Ad Ex):=⟨rfl,rfl,rfl,by decide +kernel,rfl,by decide +kernel,by decide +kernel⟩
abbrev G1:Stmt:=top 15
theorem Tk:Ai ["k","many_knots"] ["k","many_knots"] (Ad G1):=⟨rfl,rfl,rfl,by decide +kernel,rfl,by decide +kernel,by decide +kernel⟩
abbrev Lp:Stmt:=top 20
theorem J4:Ai ["word","ones"] ["word"] (Ad Lp):=⟨rfl,rfl,rfl,by decide +kernel,rfl,by decide +kernel,by decide +kernel⟩
abbrev Eo:Stmt:=top 21
theorem K8:Ai ["four","nth","places"] ["four","nth"] (Ad Eo):=⟨rfl,rfl,rfl,by decide +kernel,rfl,by decide +kernel,by decide +kernel⟩
theorem Os:Bq ["four","nth","places"] (Ad Eo) { kind:=.function,names:=[(".0",.local),("place",.local),("four",.free)],isGenerator:=false,isCoroutine:=false,more:=[] } "place" ["place","four"] [0]:=⟨rfl,by decide +kernel,by decide +kernel,by decide +kernel,by decide +kernel,rfl,rfl,rfl,by decide +kernel⟩
abbrev Lk:Stmt:=top 22
theorem F0:Ai ["word","nth","low","ones"] ["word","nth"] (Ad Lk):=⟨rfl,rfl,rfl,by decide +kernel,rfl,by decide +kernel,by decide +kernel⟩
abbrev Nx:Stmt:=top 26
theorem iO:Ai ["thing"] ["thing"] (Ad Nx):=⟨rfl,rfl,rfl,by decide +kernel,rfl,by decide +kernel,by decide +kernel⟩
abbrev Li:Stmt:=top 27
theorem dB:Ai ["signs"] ["signs"] (Ad Li):=⟨rfl,rfl,rfl,by decide +kernel,rfl,by decide +kernel,by decide +kernel⟩
abbrev Hc:Stmt:=top 28
theorem Zs:Ai ["text"] ["text"] (Ad Hc):=⟨rfl,rfl,rfl,by decide +kernel,rfl,by decide +kernel,by decide +kernel⟩
theorem To:Bq ["text"] (Ad Hc) { kind:=.function,names:=[(".0",.local),("low",.local),("word_of",.globalImplicit),("WORD_BITS",.globalImplicit),("text",.free)],isGenerator:=false,isCoroutine:=false,more:=[] } "low" ["low","text"] [0]:=⟨rfl,by decide +kernel,by decide +kernel,by decide +kernel,by decide +kernel,rfl,rfl,rfl,by decide +kernel⟩
abbrev Hg:Stmt:=top 29
theorem Zm:Ai ["word"] ["word"] (Ad Hg):=⟨rfl,rfl,rfl,by decide +kernel,rfl,by decide +kernel,by decide +kernel⟩
theorem Tm:Bq ["word"] (Ad Hg) { kind:=.function,names:=[(".0",.local),("low",.local),("SIGNS_OF_FOUR",.globalImplicit),("word",.free)],isGenerator:=false,isCoroutine:=false,more:=[] } "low" ["low","word"] [0]:=⟨rfl,by decide +kernel,by decide +kernel,by decide +kernel,by decide +kernel,rfl,rfl,rfl,by decide +kernel⟩
abbrev Ht:Stmt:=At (top 30) 0
theorem X6:Ai ["self","text"] ["self","text"] (Ad Ht):=⟨rfl,rfl,rfl,by decide +kernel,rfl,by decide +kernel,by decide +kernel⟩
abbrev Hq:Stmt:=At (top 30) 1
theorem Xc:Ai ["self"] ["self"] (Ad Hq):=⟨rfl,rfl,rfl,by decide +kernel,rfl,by decide +kernel,by decide +kernel⟩
abbrev G4:Stmt:=At (top 30) 3
theorem Tt:Ai ["self"] ["self"] (Ad G4):=⟨rfl,rfl,rfl,by decide +kernel,rfl,by decide +kernel,by decide +kernel⟩
abbrev Dz:Stmt:=At (top 30) 5
theorem Df:Ai ["self","low","high","first","beyond","signs","begin"] ["self","low","high"] (Ad Dz):=⟨rfl,rfl,rfl,by decide +kernel,rfl,by decide +kernel,by decide +kernel⟩
theorem Mu:Bq ["self","low","high","first","beyond","signs","begin"] (Ad Dz) { kind:=.function,names:=[(".0",.local),("word",.local),("signs_of",.globalImplicit)],isGenerator:=false,isCoroutine:=false,more:=[] } "word" ["word"] []:=⟨rfl,by decide +kernel,by decide +kernel,by decide +kernel,by decide +kernel,rfl,rfl,rfl,by decide +kernel⟩
abbrev Jr:Stmt:=At (top 30) 4
theorem aZ:Ai ["self","place"] ["self","place"] (Ad Jr):=⟨rfl,rfl,rfl,by decide +kernel,rfl,by decide +kernel,by decide +kernel⟩
abbrev Gu:Stmt:=top 34
theorem F7:Ai ["low","high","holds","middle"] ["low","high","holds"] (Ad Gu):=⟨rfl,rfl,rfl,by decide +kernel,rfl,by decide +kernel,by decide +kernel⟩
abbrev Fd:Stmt:=top 35
theorem Gm:Ai ["numbers","sums","number"] ["numbers"] (Ad Fd):=⟨rfl,rfl,rfl,by decide +kernel,rfl,by decide +kernel,by decide +kernel⟩
abbrev B5:Stmt:=top 36
theorem Hr:Ai ["words","blocks"] ["words"] (Ad B5):=⟨rfl,rfl,rfl,by decide +kernel,rfl,by decide +kernel,by decide +kernel⟩
theorem L3:Bq ["words","blocks"] (Ad B5) { kind:=.function,names:=[(".0",.local),("low",.local),("BLOCK_WORDS",.globalImplicit),("words",.free)],isGenerator:=false,isCoroutine:=false,more:=[] } "low" ["low","words"] [0]:=⟨rfl,by decide +kernel,by decide +kernel,by decide +kernel,by decide +kernel,rfl,rfl,rfl,by decide +kernel⟩
theorem L0:Bq ["words","blocks"] (Ad B5) { kind:=.function,names:=[(".0",.local),("block",.local),("sum",.globalImplicit)],isGenerator:=false,isCoroutine:=false,more:=[] } "block" ["block"] []:=⟨rfl,by decide +kernel,by decide +kernel,by decide +kernel,by decide +kernel,rfl,rfl,rfl,by decide +kernel⟩
theorem L5 (sc₀:Scope):Bq ["block"] sc₀ { kind:=.function,names:=[(".0",.local),("word",.local),("ones_in",.globalImplicit)],isGenerator:=false,isCoroutine:=false,more:=[] } "word" ["word"] []:=⟨rfl,by decide +kernel,by decide +kernel,(fun y hy h=>absurd h ((by decide +kernel:∀ y∈({ kind:=.function,names:=[(".0",.local),("word",.local),("ones_in",.globalImplicit)],isGenerator:=false,isCoroutine:=false,more:=[] }:Scope).names,y.2≠NameKind.free) y hy)),by decide +kernel,rfl,rfl,rfl,by decide +kernel⟩
abbrev F1:Stmt:=At (top 37) 0
theorem Su:Ai ["self","bits"] ["self","bits"] (Ad F1):=⟨rfl,rfl,rfl,by decide +kernel,rfl,by decide +kernel,by decide +kernel⟩
abbrev Cn:Stmt:=At (top 37) 6
theorem Bf:Ai ["self","place","number","block","ones","word","rest"] ["self","place"] (Ad Cn):=⟨rfl,rfl,rfl,by decide +kernel,rfl,by decide +kernel,by decide +kernel⟩
abbrev Fw:Stmt:=At (top 37) 2
theorem Kd:Ai ["self","bit","place","ones"] ["self","bit","place"] (Ad Fw):=⟨rfl,rfl,rfl,by decide +kernel,rfl,by decide +kernel,by decide +kernel⟩
abbrev Bz:Stmt:=At (top 37) 7
theorem Er:Ai ["self","bit","block","ones"] ["self","bit","block"] (Ad Bz):=⟨rfl,rfl,rfl,by decide +kernel,rfl,by decide +kernel,by decide +kernel⟩
abbrev C0:Stmt:=At (top 37) 8
theorem L4:Ai ["self","bit"] ["self","bit"] (Ad C0):=⟨rfl,rfl,rfl,by decide +kernel,rfl,by decide +kernel,by decide +kernel⟩
abbrev A8:Stmt:=At (top 37) 9
theorem Kp:Ai ["self","bit","nth"] ["self","bit","nth"] (Ad A8):=⟨rfl,rfl,rfl,by decide +kernel,rfl,by decide +kernel,by decide +kernel⟩
theorem Ik:Bq ["self","bit","nth"] (Ad A8) { kind:=.function,names:=[("block",.local),("bit",.free),("nth",.free),("self",.free)],isGenerator:=false,isCoroutine:=false,more:=[] } "block" ["block","bit","nth","self"] [1,2,0]:=⟨rfl,by decide +kernel,by decide +kernel,by decide +kernel,by decide +kernel,rfl,rfl,rfl,by decide +kernel⟩
abbrev Cp:Stmt:=At (top 37) 10
theorem Bo:Ai ["self","bit","number","nth","flip","inside"] ["self","bit","number","nth"] (Ad Cp):=⟨rfl,rfl,rfl,by decide +kernel,rfl,by decide +kernel,by decide +kernel⟩
abbrev Do:Stmt:=At (top 37) 3
theorem G9:Ai ["self","bit","nth","block"] ["self","bit","nth"] (Ad Do):=⟨rfl,rfl,rfl,by decide +kernel,rfl,by decide +kernel,by decide +kernel⟩
abbrev Gv:Stmt:=top 39
theorem Em:Ai ["text","begin","height","heights","sign"] ["text","begin"] (Ad Gv):=⟨rfl,rfl,rfl,by decide +kernel,rfl,by decide +kernel,by decide +kernel⟩
abbrev Hn:Stmt:=top 45
theorem Fp:Ai ["text","height","place","sign"] ["text"] (Ad Hn):=⟨rfl,rfl,rfl,by decide +kernel,rfl,by decide +kernel,by decide +kernel⟩
abbrev Fv:Stmt:=At (top 41) 0
theorem Pj:Ai ["self","length","table","often_least"] ["self","length","table","often_least"] (Ad Fv):=⟨rfl,rfl,rfl,by decide +kernel,rfl,by decide +kernel,by decide +kernel⟩
abbrev Cl:Stmt:=At (top 46) 4
theorem Ko:Ai ["self","place"] ["self","place"] (Ad Cl):=⟨rfl,rfl,rfl,by decide +kernel,rfl,by decide +kernel,by decide +kernel⟩
abbrev Ce:Stmt:=At (top 46) 5
theorem Kh:Ai ["self","place"] ["self","place"] (Ad Ce):=⟨rfl,rfl,rfl,by decide +kernel,rfl,by decide +kernel,by decide +kernel⟩
abbrev Ed:Stmt:=At (top 41) 9
theorem M4:Ai ["self","place"] ["self","place"] (Ad Ed):=⟨rfl,rfl,rfl,by decide +kernel,rfl,by decide +kernel,by decide +kernel⟩
abbrev Es:Stmt:=At (top 46) 2
theorem Ou:Ai ["self","low","high"] ["self","low","high"] (Ad Es):=⟨rfl,rfl,rfl,by decide +kernel,rfl,by decide +kernel,by decide +kernel⟩
abbrev Fn:Stmt:=At (top 41) 7
theorem Pb:Ai ["self"] ["self"] (Ad Fn):=⟨rfl,rfl,rfl,by decide +kernel,rfl,by decide +kernel,by decide +kernel⟩
abbrev Fk:Stmt:=At (top 41) 8
theorem Pl:Ai ["self"] ["self"] (Ad Fk):=⟨rfl,rfl,rfl,by decide +kernel,rfl,by decide +kernel,by decide +kernel⟩
abbrev Cf:Stmt:=At (top 46) 0
theorem Ep:Ai ["self","text","lows","begins","heights","table"] ["self","text"] (Ad Cf):=⟨rfl,rfl,rfl,by decide +kernel,rfl,by decide +kernel,by decide +kernel⟩
theorem Pk:Bq ["self","text","lows","begins","heights","table"] (Ad Cf) { kind:=.function,names:=[(".0",.local),("low",.local),("self",.free)],isGenerator:=false,isCoroutine:=false,more:=[] } "low" ["low","self"] [0]:=⟨rfl,by decide +kernel,by decide +kernel,by decide +kernel,by decide +kernel,rfl,rfl,rfl,by decide +kernel⟩
theorem O9:Hi ["self","text","lows","begins","heights","table"] (Ad Cf) { kind:=.function,names:=[(".0",.local),("low",.local),("begin",.local),("heights_of",.globalImplicit),("STRETCH_BITS",.globalImplicit),("text",.free)],isGenerator:=false,isCoroutine:=false,more:=[] } "low" "begin" ["low","begin","text"] [1]:=⟨rfl,by decide +kernel,by decide +kernel,by decide +kernel,by decide +kernel,rfl,rfl,rfl,rfl,rfl,by decide +kernel⟩
theorem Ph:Hi ["self","text","lows","begins","heights","table"] (Ad Cf) { kind:=.function,names:=[(".0",.local),("begin",.local),("some",.local),("min",.globalImplicit),("max",.globalImplicit)],isGenerator:=false,isCoroutine:=false,more:=[] } "begin" "some" ["begin","some"] []:=⟨rfl,by decide +kernel,by decide +kernel,by decide +kernel,by decide +kernel,rfl,rfl,rfl,rfl,rfl,by decide +kernel⟩
theorem O8:Bq ["self","text","lows","begins","heights","table"] (Ad Cf) { kind:=.function,names:=[(".0",.local),("some",.local),("min",.globalImplicit)],isGenerator:=false,isCoroutine:=false,more:=[] } "some" ["some"] []:=⟨rfl,by decide +kernel,by decide +kernel,by decide +kernel,by decide +kernel,rfl,rfl,rfl,by decide +kernel⟩
abbrev C7:Stmt:=At (top 46) 8
theorem L1:Ai ["self","place"] ["self","place"] (Ad C7):=⟨rfl,rfl,rfl,by decide +kernel,rfl,by decide +kernel,by decide +kernel⟩
abbrev Ee:Stmt:=At (top 46) 9
theorem Ms:Ai ["self","number"] ["self","number"] (Ad Ee):=⟨rfl,rfl,rfl,by decide +kernel,rfl,by decide +kernel,by decide +kernel⟩
abbrev Dg:Stmt:=At (top 41) 18
theorem Iq:Ai ["self","low","high","cuts"] ["self","low","high"] (Ad Dg):=⟨rfl,rfl,rfl,by decide +kernel,rfl,by decide +kernel,by decide +kernel⟩
theorem Mh:Bq ["self","low","high","cuts"] (Ad Dg) { kind:=.function,names:=[(".0",.local),("number",.local),("self",.free)],isGenerator:=false,isCoroutine:=false,more:=[] } "number" ["number","self"] [0]:=⟨rfl,by decide +kernel,by decide +kernel,by decide +kernel,by decide +kernel,rfl,rfl,rfl,by decide +kernel⟩
abbrev C2:Stmt:=At (top 41) 19
theorem Gr:Ai ["self","low","height","row"] ["self","low","height"] (Ad C2):=⟨rfl,rfl,rfl,by decide +kernel,rfl,by decide +kernel,by decide +kernel⟩
abbrev Bx:Stmt:=At (top 41) 21
theorem Hj:Ai ["self","low","high"] ["self","low","high"] (Ad Bx):=⟨rfl,rfl,rfl,by decide +kernel,rfl,by decide +kernel,by decide +kernel⟩
abbrev B9:Stmt:=At (top 41) 22
theorem Fi:Ai ["self","low","high","height","heights"] ["self","low","high","height"] (Ad B9):=⟨rfl,rfl,rfl,by decide +kernel,rfl,by decide +kernel,by decide +kernel⟩
abbrev B8:Stmt:=At (top 41) 23
theorem Ff:Ai ["self","low","high","height","heights"] ["self","low","high","height"] (Ad B8):=⟨rfl,rfl,rfl,by decide +kernel,rfl,by decide +kernel,by decide +kernel⟩
abbrev Fj:Stmt:=top 40
theorem Pg:Ai ["height"] ["height"] (Ad Fj):=⟨rfl,rfl,rfl,by decide +kernel,rfl,by decide +kernel,by decide +kernel⟩
abbrev Dm:Stmt:=At (top 41) 13
theorem C9:Ai ["self","place","height","low","high","found"] ["self","place","height"] (Ad Dm):=⟨rfl,rfl,rfl,by decide +kernel,rfl,by decide +kernel,by decide +kernel⟩
abbrev Dq:Stmt:=At (top 41) 14
theorem C6:Ai ["self","place","height","low","high","found"] ["self","place","height"] (Ad Dq):=⟨rfl,rfl,rfl,by decide +kernel,rfl,by decide +kernel,by decide +kernel⟩
abbrev C3:Stmt:=At (top 46) 3
theorem Lw:Ai ["self","place"] ["self","place"] (Ad C3):=⟨rfl,rfl,rfl,by decide +kernel,rfl,by decide +kernel,by decide +kernel⟩
abbrev Dn:Stmt:=At (top 41) 10
theorem Mm:Ai ["self","place"] ["self","place"] (Ad Dn):=⟨rfl,rfl,rfl,by decide +kernel,rfl,by decide +kernel,by decide +kernel⟩
abbrev Ev:Stmt:=At (top 46) 7
theorem Oa:Ai ["self","number"] ["self","number"] (Ad Ev):=⟨rfl,rfl,rfl,by decide +kernel,rfl,by decide +kernel,by decide +kernel⟩
abbrev Lf:Stmt:=top 50
theorem Jx:Ai ["elders","path","k","elder"] ["elders"] (Ad Lf):=⟨rfl,rfl,rfl,by decide +kernel,rfl,by decide +kernel,by decide +kernel⟩
abbrev Hu:Stmt:=top 51
theorem Jp:Ai ["elders","depths","elder"] ["elders"] (Ad Hu):=⟨rfl,rfl,rfl,by decide +kernel,rfl,by decide +kernel,by decide +kernel⟩
abbrev C1:Stmt:=top 52
theorem Ej:Ai ["elders","many","elder"] ["elders"] (Ad C1):=⟨rfl,rfl,rfl,by decide +kernel,rfl,by decide +kernel,by decide +kernel⟩
abbrev En:Stmt:=top 53
theorem R4:Ai ["many"] ["many"] (Ad En):=⟨rfl,rfl,rfl,by decide +kernel,rfl,by decide +kernel,by decide +kernel⟩
theorem N3:Bq ["many"] (Ad En) { kind:=.function,names:=[(".0",.local),("one",.local)],isGenerator:=false,isCoroutine:=false,more:=[] } "one" ["one"] []:=⟨rfl,by decide +kernel,by decide +kernel,by decide +kernel,by decide +kernel,rfl,rfl,rfl,by decide +kernel⟩
abbrev Ia:Stmt:=top 54
theorem Jm:Ai ["depths","many","depth"] ["depths"] (Ad Ia):=⟨rfl,rfl,rfl,by decide +kernel,rfl,by decide +kernel,by decide +kernel⟩
abbrev Dh:Stmt:=top 57
theorem Fz:Ai ["elders","depths","rest"] ["elders"] (Ad Dh):=⟨rfl,rfl,rfl,by decide +kernel,rfl,by decide +kernel,by decide +kernel⟩
theorem Ml:Hi ["elders","depths","rest"] (Ad Dh) { kind:=.function,names:=[(".0",.local),("k",.local),("depth",.local),("MARK_STEP",.globalImplicit),("rest",.free)],isGenerator:=false,isCoroutine:=false,more:=[] } "k" "depth" ["k","depth","rest"] [2]:=⟨rfl,by decide +kernel,by decide +kernel,by decide +kernel,by decide +kernel,rfl,rfl,rfl,rfl,rfl,by decide +kernel⟩
abbrev Fl:Stmt:=At (top 58) 0
theorem Kf:Ai ["self","elders","wood"] ["self","elders"] (Ad Fl):=⟨rfl,rfl,rfl,by decide +kernel,rfl,by decide +kernel,by decide +kernel⟩
abbrev F3:Stmt:=At (top 58) 2
theorem Rn:Ai ["self"] ["self"] (Ad F3):=⟨rfl,rfl,rfl,by decide +kernel,rfl,by decide +kernel,by decide +kernel⟩
abbrev Dr:Stmt:=At (top 58) 14
theorem E1:Ai ["self","k","low","high"] ["self","k"] (Ad Dr):=⟨rfl,rfl,rfl,by decide +kernel,rfl,by decide +kernel,by decide +kernel⟩
abbrev D0:Stmt:=At (top 58) 13
theorem Hy:Ai ["self","k","stretch"] ["self","k"] (Ad D0):=⟨rfl,rfl,rfl,by decide +kernel,rfl,by decide +kernel,by decide +kernel⟩
abbrev Fc:Stmt:=At (top 58) 15
theorem Pd:Ai ["self","k"] ["self","k"] (Ad Fc):=⟨rfl,rfl,rfl,by decide +kernel,rfl,by decide +kernel,by decide +kernel⟩
abbrev Cd:Stmt:=At (top 58) 1
theorem Ki:Ai ["self"] ["self"] (Ad Cd):=⟨rfl,rfl,rfl,by decide +kernel,rfl,by decide +kernel,by decide +kernel⟩
abbrev Cv:Stmt:=At (top 58) 3
theorem Cg:Ai ["self","many","elders","waiting","k"] ["self"] (Ad Cv):=⟨rfl,rfl,rfl,by decide +kernel,rfl,by decide +kernel,by decide +kernel⟩
theorem Lx:Bq ["self","many","elders","waiting","k"] (Ad Cv) { kind:=.function,names:=[(".0",.local),("group",.local),("len",.globalImplicit)],isGenerator:=false,isCoroutine:=false,more:=[] } "group" ["group"] []:=⟨rfl,by decide +kernel,by decide +kernel,by decide +kernel,by decide +kernel,rfl,rfl,rfl,by decide +kernel⟩
abbrev Ew:Stmt:=At (top 58) 4
theorem Jd:Ai ["self","k","group"] ["self","k"] (Ad Ew):=⟨rfl,rfl,rfl,by decide +kernel,rfl,by decide +kernel,by decide +kernel⟩
abbrev Dp:Stmt:=At (top 58) 16
theorem Mf:Ai ["self","stem"] ["self","stem"] (Ad Dp):=⟨rfl,rfl,rfl,by decide +kernel,rfl,by decide +kernel,by decide +kernel⟩
abbrev Eu:Stmt:=At (top 58) 5
theorem Ji:Ai ["self","k","place"] ["self","k"] (Ad Eu):=⟨rfl,rfl,rfl,by decide +kernel,rfl,by decide +kernel,by decide +kernel⟩
abbrev Fs:Stmt:=At (top 58) 6
theorem Ke:Ai ["self","k","place"] ["self","k"] (Ad Fs):=⟨rfl,rfl,rfl,by decide +kernel,rfl,by decide +kernel,by decide +kernel⟩
abbrev Fh:Stmt:=At (top 58) 7
theorem Pm:Ai ["self","k"] ["self","k"] (Ad Fh):=⟨rfl,rfl,rfl,by decide +kernel,rfl,by decide +kernel,by decide +kernel⟩
abbrev Et:Stmt:=At (top 58) 8
theorem Ot:Ai ["self","k","i"] ["self","k","i"] (Ad Et):=⟨rfl,rfl,rfl,by decide +kernel,rfl,by decide +kernel,by decide +kernel⟩
abbrev Cm:Stmt:=top 14
theorem Ky:Ai ["number"] ["number"] (Ad Cm):=⟨rfl,rfl,rfl,by decide +kernel,rfl,by decide +kernel,by decide +kernel⟩
abbrev Jk:Stmt:=At (top 55) 10
theorem O3:Ai ["self","k","i","many"] ["self","k","i"] (Ad Jk):=⟨rfl,rfl,rfl,by decide +kernel,rfl,by decide +kernel,by decide +kernel⟩
abbrev Gw:Stmt:=At (top 55) 4
theorem Tg:Ai ["self","k"] ["self","k"] (Ad Gw):=⟨rfl,rfl,rfl,by decide +kernel,rfl,by decide +kernel,by decide +kernel⟩
abbrev F5:Stmt:=top 60
theorem S6:Ai ["_law_script","_law_k"] ["_law_script","_law_k"] (Ad F5):=⟨rfl,rfl,rfl,by decide +kernel,rfl,by decide +kernel,by decide +kernel⟩
abbrev Id:Stmt:=top 61
theorem Mw:Ai ["_law_cell","_law_k","_law_number"] ["_law_cell","_law_k"] (Ad Id):=⟨rfl,rfl,rfl,by decide +kernel,rfl,by decide +kernel,by decide +kernel⟩
abbrev Ic:Stmt:=top 62
theorem C5:Ai ["_law_cell","_law_many","_law_elders","_law_way","_law_k","_law_at"] ["_law_cell","_law_many"] (Ad Ic):=⟨rfl,rfl,rfl,by decide +kernel,rfl,by decide +kernel,by decide +kernel⟩
abbrev Hx:Stmt:=top 63
theorem B3:Ai ["_law_script","_law_many","_law_elders","_law_way","_law_k","_law_number","_law_size","_law_turn","_law_at"] ["_law_script","_law_many"] (Ad Hx):=⟨rfl,rfl,rfl,by decide +kernel,rfl,by decide +kernel,by decide +kernel⟩
abbrev Du:Stmt:=top 64
theorem B0:Ai ["_law_elders","_law_times","_law_hung","_law_found","_law_turn","_law_size","_law_base"] ["_law_elders","_law_times","_law_hung"] (Ad Du):=⟨rfl,rfl,rfl,by decide +kernel,rfl,by decide +kernel,by decide +kernel⟩
theorem Na:Bq ["_law_elders","_law_times","_law_hung","_law_found","_law_turn","_law_size","_law_base"] (Ad Du) { kind:=.function,names:=[(".0",.local),("_law_elder",.local),("_law_base",.free),("_law_size",.free)],isGenerator:=false,isCoroutine:=false,more:=[] } "_law_elder" ["_law_elder","_law_base","_law_size"] [6,5]:=⟨rfl,by decide +kernel,by decide +kernel,by decide +kernel,by decide +kernel,rfl,rfl,rfl,by decide +kernel⟩
abbrev Jt:Stmt:=top 65
theorem E9:Ai ["_law_script","_law_most","_law_large","_law_number","_law_many","_law_elders"] ["_law_script","_law_most","_law_large"] (Ad Jt):=⟨rfl,rfl,rfl,by decide +kernel,rfl,by decide +kernel,by decide +kernel⟩
abbrev Gy:Stmt:=top 66
theorem Cj:Ai ["_law_wood_here","_law_most","_law_found","_law_waiting","_law_k","_law_elder","_law_beside","_law_inner"] ["_law_wood_here","_law_most"] (Ad Gy):=⟨rfl,rfl,rfl,by decide +kernel,rfl,by decide +kernel,by decide +kernel⟩
abbrev F9:Stmt:=top 67
theorem J9:Ai ["_law_elders","_law_k","_law_size"] ["_law_elders","_law_k"] (Ad F9):=⟨rfl,rfl,rfl,by decide +kernel,rfl,by decide +kernel,by decide +kernel⟩
theorem Sg:Bq ["_law_elders","_law_k","_law_size"] (Ad F9) { kind:=.function,names:=[(".0",.local),("_law_elder",.local),("_law_k",.free)],isGenerator:=false,isCoroutine:=false,more:=[] } "_law_elder" ["_law_elder","_law_k"] [1]:=⟨rfl,by decide +kernel,by decide +kernel,by decide +kernel,by decide +kernel,rfl,rfl,rfl,by decide +kernel⟩
abbrev Jv:Stmt:=top 68
theorem Hk:Ai ["_law_wood_here","_law_k","_law_here","_law_beside"] ["_law_wood_here","_law_k"] (Ad Jv):=⟨rfl,rfl,rfl,by decide +kernel,rfl,by decide +kernel,by decide +kernel⟩
abbrev Jw:Stmt:=top 69
theorem Gf:Ai ["_law_wood_here","_law_elders","_law_k","_law_further","_law_under_here","_law_low","_law_high","_law_other"] ["_law_wood_here","_law_elders","_law_k","_law_further"] (Ad Jw):=⟨rfl,rfl,rfl,by decide +kernel,rfl,by decide +kernel,by decide +kernel⟩
abbrev Sw:Stmt:=top 70
theorem Ny:Ai ["_law_script","_law_elders","_law_many","_law_wood_here","_law_step","_law_k"] ["_law_script"] (Ad Sw):=⟨rfl,rfl,rfl,by decide +kernel,rfl,by decide +kernel,by decide +kernel⟩
abbrev Ak:Pos:=⟨190,55,190,110⟩
def Au (l:List Bool):Str:=⟨(l.map fun b=>if b then 49 else 48).toArray⟩
def wA:Option Nat->V
 | none=>.non
 | some p=>.int p
theorem fR (m:Nat):Builtin.bitAnd (m:Int) 15=((m%16:Nat):Int):=by
 unfold Builtin.bitAnd
 rw [decide_eq_true (Int.natCast_nonneg m),decide_eq_true (by decide:(0:Int)<=15)]
 show ((m &&& 15:Nat):Int)=_
 rw [show (15:Nat)=2 ^ 4-1 by decide,Nat.and_two_pow_sub_one_eq_mod]
theorem qM (m:Nat):(m:Int)/2 ^ (4:Int).toNat=((m/16:Nat):Int):=by
 show (m:Int)/16=_
 omega
theorem eT (r:Nat)(h:r<16):atI (Sx.map fun n:Nat=>V.int (n:Int)) (r:Int)=some (.int (pc r)):=by
 refine B7 ?_
 rw [List.getElem?_map,kH r h]
 rfl
theorem xL (m:Nat):Builtin.bitAnd (m:Int) 1=((m%2:Nat):Int):=by
 unfold Builtin.bitAnd
 rw [decide_eq_true (Int.natCast_nonneg m),decide_eq_true (by decide:(0:Int)<=1)]
 show ((m &&& 1:Nat):Int)=_
 rw [Nat.and_one_is_mod]
theorem A7 (l:List Bool):(Au l).length=l.length:=by
 show (l.map _).toArray.size=_
 rw [List.size_toArray,List.length_map]
theorem iS (b:Bool)(k:Nat):U5 (sgn (if b then 49 else 48)) k=Au (List.replicate k b):=by
 refine Hv ?_
 show (List.replicate k [if b then 49 else 48]).flatten.toArray.toList=((List.replicate k b).map _).toArray.toList
 rw [List.toList_toArray,List.toList_toArray,List.map_replicate]
 induction k with
 | zero=>rfl
 | succ k ih =>
  rw [List.replicate_succ,List.flatten_cons,ih,List.replicate_succ]
  rfl
theorem Cq (l:List Bool):(Au l).cps.toList=l.map fun b=>if b then 49 else 48:=by
 show (l.map _).toArray.toList=_
 rw [List.toList_toArray]
theorem dS (l:List Bool):IB.bits (Au l).cps.toList:=fun c hc=>by
 rw [Cq] at hc
 obtain ⟨b,_,rfl⟩:=List.mem_map.mp hc
 cases b
 ·exact .inl rfl
 ·exact .inr rfl
theorem Jo (a b:List Bool):Au a++Au b=Au (a++b):=by
 refine Hv ?_
 show ((Au a).cps++(Au b).cps).toList=_
 rw [Array.toList_append,Cq,Cq,Cq,List.map_append]
theorem L6 {α:Type}(l:List α)(a b:Nat):(l.drop (min a l.length)).take (min b l.length-min a l.length)=(l.drop a).take (b-a):=by
 by_cases h:a<=l.length
 ·rw [Nat.min_eq_left h]
  by_cases h2:b<=l.length
  ·rw [Nat.min_eq_left h2]
  ·rw [Nat.min_eq_right (by omega),List.take_of_length_le (by rw [List.length_drop];omega),List.take_of_length_le (by rw [List.length_drop];omega)]
 ·have e:min a l.length=l.length:=by omega
  rw [e,List.drop_of_length_le (Nat.le_refl _),List.drop_of_length_le (by omega)]
  simp
theorem Il (l:List Bool)(a b:Nat):Xk (Au l) (some (a:Int)) (some (b:Int))=Au ((l.drop a).take (b-a)):=by
 refine Hv ?_
 show (List.take _ (List.drop _ _)).toArray.toList=_
 rw [List.toList_toArray,HT.sIx_nat,HT.sIx_nat]
 have e:(Au l).cps.size=l.length:=A7 l
 rw [e,Cq,Cq,List.map_take,List.map_drop]
 have:=L6 (l.map fun b=>if b=true then 49 else 48) a b
 rw [List.length_map] at this
 exact this
theorem Rc (xs:List V)(a b:Nat):Iu xs (some (a:Int)) (some (b:Int))=(xs.drop a).take (b-a):=by
 unfold Iu
 rw [HT.sIx_nat,HT.sIx_nat]
 exact L6 xs a b
theorem Uc (l:List Bool):N5 (Au l) 49=l.count true/\N5 (Au l) 48+N5 (Au l) 49=l.length:=by
 unfold N5
 rw [Cq]
 induction l with
 | nil=>exact ⟨rfl,rfl⟩
 | cons b r ih=>cases b<;>simp [List.count_cons]<;>omega
theorem vG (l:List Bool):IB.v2 (Tu (Au l)).cps.toList=val l:=by
 show IB.v2 (Au l).cps.toList.reverse.toArray.toList=_
 rw [List.toList_toArray,Cq,<- List.map_reverse]
 unfold IB.v2
 rw [List.foldl_map]
 have e:=eZ l 0
 rw [Nat.zero_mul,Nat.zero_add] at e
 rw [<- e]
 congr 1
 funext a b
 cases b<;>rfl
abbrev nV (ns:List Nat):List V:=ns.map fun n:Nat=>V.int n
theorem eY (ns:List Nat):nV ns=(ns.map fun n:Nat=>(n:Int)).map V.int:=by rw [List.map_map];rfl
theorem K7 (f:Nat->Nat)(i:Nat):nV ((List.range (i+1)).map f)=nV ((List.range i).map f)++[V.int (f i:Nat)]:=by
 unfold nV
 rw [List.range_succ,List.map_append,List.map_append]
 rfl
theorem lA (ns:List Nat):(ns.map fun n:Nat=>(n:Int)).sum=(ns.sum:Nat):=by
 induction ns with
 | nil=>rfl
 | cons n r ih=>rw [List.map_cons,List.sum_cons,ih,List.sum_cons];omega
theorem Rs (n d:Nat)(hd:0<d):Ca 0 (n:Int) (d:Int)=(n+d-1)/d:=by
 unfold Ca
 rw [show (n:Int)-0+(d:Int)-1=((n+d-1:Nat):Int) by omega,<- Int.natCast_ediv,Int.toNat_natCast]
theorem few {n:Nat}(h:n<=1000):n<=sizeLine:=Nat.le_of_lt (D5 h)
theorem Ao {n:Nat}(h:n<=100000):n<sizeLine:=Nat.lt_of_le_of_lt h (by decide)
theorem gJ {l:List Bool}{i c:Nat}(h:(Au l).cps[i]?=some c):∃ b,l[i]?=some b/\c=if b then 49 else 48:=by
 have e:(Au l).cps.toList[i]?=some c:=by rw [Array.getElem?_toList];exact h
 rw [Cq,List.getElem?_map] at e
 cases hb:l[i]? with
 | none=>rw [hb] at e;cases e
 | some b =>
  rw [hb] at e
  exact ⟨b,rfl,(Option.some.inj e).symm⟩
theorem Cy {α:Type}{l:List α}{i:Nat}{b:α}(h:l[i]?=some b):i<l.length:=(List.getElem?_eq_some_iff.mp h).1
def isI:V->Bool
 | .int _=>true
 | _=>false
theorem Nm {l:List Bool}{j:Nat}(h:j<Bp l.length):atI (nV (wordsOf l)) (j:Int)=some (.int (val (A5 l j):Nat)):=by
 refine B7 ?_
 unfold nV TW.wordsOf
 rw [List.getElem?_map,List.getElem?_map,List.getElem?_range h]
 rfl
theorem Sa (r:Int)(n:Nat):∃ k:Nat,r%((n:Int)+1)=(k:Int)/\k<=n:=by
 have h0:=Int.emod_nonneg r (show ((n:Int)+1)≠0 by omega)
 have h1:=Int.emod_lt_of_pos r (show (0:Int)<(n:Int)+1 by omega)
 exact ⟨(r%((n:Int)+1)).toNat,by omega,by omega⟩
def aP:List V:=[.str "0000",.str "1000",.str "0100",.str "1100",.str "0010",.str "1010",.str "0110",.str "1110",.str "0001",.str "1001",.str "0101",.str "1101",.str "0011",.str "1011",.str "0111",.str "1111"]
theorem jO (m k:Nat){j:Int}(h:j=(k:Int)):Builtin.bitAnd (m:Int) (1*2 ^ j.toNat-1)=((m%2 ^ k:Nat):Int):=by
 subst h
 rw [Int.toNat_natCast,Int.one_mul]
 have e:((2:Int) ^ k-1)=((2 ^ k-1:Nat):Int):=by
  have:1<=2 ^ k:=Nat.one_le_two_pow
  rw [Int.natCast_sub this,Int.natCast_pow]
  rfl
 rw [e]
 unfold Builtin.bitAnd
 rw [decide_eq_true (Int.natCast_nonneg m),decide_eq_true (Int.natCast_nonneg (2 ^ k-1))]
 show ((m &&& (2 ^ k-1):Nat):Int)=_
 rw [Nat.and_two_pow_sub_one_eq_mod]
theorem pO {n:Nat}(h:n<2 ^ 32):n ||| 4294967295=4294967295:=by
 refine Nat.eq_of_testBit_eq fun i=>?_
 rw [Nat.testBit_or,show (4294967295:Nat)=2 ^ 32-1 by decide,Nat.testBit_two_pow_sub_one]
 by_cases hi:i<32
 ·rw [decide_eq_true hi,Bool.or_true]
 ·rw [decide_eq_false hi,Bool.or_false]
  exact Nat.testBit_lt_two_pow (Nat.lt_of_lt_of_le h (Nat.pow_le_pow_right (by decide) (by omega)))
theorem cA (m k:Nat):Builtin.bitXor (m:Int) (k:Int)=((m ||| k:Nat):Int)-((m &&& k:Nat):Int):=by
 have hn:∀ x:Int,Builtin.bitNot (Builtin.bitNot x)=x:=fun x=>by unfold Builtin.bitNot;omega
 have ho:Builtin.bitOr (m:Int) (k:Int)=((m ||| k:Nat):Int):=by
  unfold Builtin.bitOr Builtin.bitAnd
  rw [decide_eq_false (show ¬ (0:Int)<=Builtin.bitNot (m:Int) by unfold Builtin.bitNot;omega),decide_eq_false (show ¬ (0:Int)<=Builtin.bitNot (k:Int) by unfold Builtin.bitNot;omega)]
  show Builtin.bitNot (Builtin.bitNot _)=_
  rw [hn,hn,hn,Int.toNat_natCast,Int.toNat_natCast]
 have ha:Builtin.bitAnd (m:Int) (k:Int)=((m &&& k:Nat):Int):=by
  unfold Builtin.bitAnd
  rw [decide_eq_true (Int.natCast_nonneg m),decide_eq_true (Int.natCast_nonneg k)]
  rfl
 unfold Builtin.bitXor
 rw [ho,ha]
theorem T4:∀ w:List Bool,val w+val (w.map fun b=>!b)+1=2 ^ w.length
 | []=>rfl
 | b::r=>by
  have:=T4 r
  rw [List.map_cons,List.length_cons,Nat.pow_succ]
  cases b<;>simp [val]<;>omega
theorem Tc (b:Bool)(l:List Bool)(j:Nat):Builtin.bitXor ((val (A5 l j):Nat):Int) ((Nt b:Nat):Int)=((val (A5 l j) ^^^ Nt b:Nat):Int):=by
 have hlt:val (A5 l j)<2 ^ 32:=Nat.lt_of_lt_of_le (kU _) (Nat.pow_le_pow_right (by decide) (by unfold A5;rw [List.length_take];omega))
 have h1:=Lq true l j
 have h0:=Lq b l j
 rw [cA,h0]
 cases b with
 | true =>
  rw [<- h0]
  show (((val (A5 l j) ||| 0:Nat):Int)-((val (A5 l j) &&& 0:Nat):Int))=((val (A5 l j) ^^^ 0:Nat):Int)
  rw [Nat.or_zero,Nat.and_zero,Nat.xor_zero]
  omega
 | false =>
  show (((val (A5 l j) ||| 4294967295:Nat):Int)-((val (A5 l j) &&& 4294967295:Nat):Int))=_
  rw [pO hlt,show (4294967295:Nat)=2 ^ 32-1 by decide,Nat.and_two_pow_sub_one_eq_mod,Nat.mod_eq_of_lt hlt]
  have hc:=T4 ((List.range 32).map fun p=>l.getD (32*j+p) false==true)
  rw [<- h1,List.map_map,List.length_map,List.length_range] at hc
  have e:((List.range 32).map ((fun b=>!b) ∘ fun p=>l.getD (32*j+p) false==true))=(List.range 32).map fun p=>l.getD (32*j+p) false==false:=List.map_congr_left fun p _=>by
   show (!(l.getD (32*j+p) false==true))=_
   cases l.getD (32*j+p) false<;>rfl
  rw [e] at hc
  have e0:val (A5 l j) ^^^ Nt true=val (A5 l j):=Nat.xor_zero _
  rw [e0] at hc
  omega
theorem El (l:List Nat):(nV l).length=l.length:=by unfold nV;rw [List.length_map]
theorem wQ {l:List Nat}{i:Nat}{n:Nat}(h:l[i]?=some n):(nV l)[i]?=some (.int (n:Nat)):=by
 unfold nV
 rw [List.getElem?_map,h]
 rfl
theorem kS (l m:List Nat):nV l++nV m=nV (l++m):=by unfold nV;rw [List.map_append]
theorem Cr {H H1:Hp}{a:Addr}{o:HO}(s:Al H H1)(h:H a=none):Al H (upd H1 a o):=fun b u e=>by
 rw [Ap (Ar e h)]
 exact s _ _ e
theorem Tl {K:PySem.W.Frag}:PySem.W.kitOne K (.type "list") (.type "list")=some true:=by rfl
theorem mX {l:List Int}{i:Nat}{n:Int}(h:l[i]?=some n):(l.map V.int)[i]?=some (.int n):=by
 rw [List.getElem?_map,h]
 rfl
theorem Te {l:List Int}{i:Nat}{x:V}(h:(l.map V.int)[i]?=some x):∃ n,l[i]?=some n/\x=.int n:=by
 rw [List.getElem?_map] at h
 cases e:l[i]? with
 | none=>rw [e] at h;cases h
 | some n =>
  rw [e] at h
  exact ⟨n,rfl,(Option.some.inj h).symm⟩
theorem Um {l:List Int}{m:Nat}{x:Int}(h0:0<m)(h:l[m-1]?=some x):atI ((l.take m).map V.int) (-1)=some (.int x):=by
 have hm:=Cy h
 have e:l.take m=l.take (m-1)++[x]:=by
  rw [show m=m-1+1 by omega,List.take_add_one,h]
  rfl
 rw [e,List.map_append]
 exact Z5 _ _
theorem Nu {l:List Int}{m:Nat}(h:m<=l.length):((l.take m).map V.int).length=m:=by rw [List.length_map,List.length_take];omega
theorem jE {l:List Int}{m:Nat}(h:m<=l.length):((l.take m).map V.int).dropLast=(l.take (m-1)).map V.int:=by
 rw [<- List.map_dropLast,List.dropLast_eq_take,List.take_take,List.length_take]
 congr 2
 omega
def fU (H:Hp)(p:Addr):Nat:=match H p with | some (.lst xs)=>xs.length | _=>0
theorem Mv {H:Hp}{p:Addr}{xs:List V}(h:H p=some (.lst xs)):fU H p=xs.length:=by unfold fU;rw [h]
theorem oI {K:PySem.W.Frag}{H1:Hp}{Q:VK}{p:Addr}{ls:List (List Bool)}(hl:H1 p=some (.lst (ls.map fun l=>.str (Au l))))(hz:ls.flatten.length<=100000)(q:Q (.str (Au ls.flatten)) H1):jS K (.str "") [.ref p] H1 Q:=by
 refine ⟨"",p,ls.map Au,rfl,rfl,SqL.of ?_,?_,?_⟩
 ·rw [hl,List.map_map]
  rfl
 ·have e:((ls.map Au).map (·.length)).sum=ls.flatten.length:=by
   rw [List.length_flatten,List.map_map]
   congr 1
   refine List.map_congr_left fun l _=>?_
   exact A7 l
  rw [e]
  show ls.flatten.length+_*0<=_
  omega
 ·have e:Txt.join ("":Str) (ls.map Au)=Au ls.flatten:=by
   refine Hv ?_
   rw [Rl,List.map_map]
   show ((ls.map fun l=>(l.map fun b=>if b then 49 else 48).toArray.toList)).flatten=(ls.flatten.map _).toArray.toList
   simp only [List.toList_toArray]
   rw [List.map_flatten]
  rw [e]
  exact q
theorem Xm {ds:List Nat}(h:Dok ds):∀ k,k<=ds.length->opn ds k<=k
 | 0,_=>Nat.le_refl _
 | k+1,hk=>by
  show dAt ds k+1<=k+1
  have:=h k (by omega)
  have:=Xm h k (by omega)
  omega
theorem K0 {ds:List Nat}{d j:Nat}(h:j<ds.length):dAt (ds++[d]) j=dAt ds j:=by
 unfold dAt List.getD
 rw [List.getElem?_append_left h]
theorem Pn (ds:List Nat)(d:Nat):dAt (ds++[d]) ds.length=d:=by
 unfold dAt List.getD
 rw [List.getElem?_append_right (Nat.le_refl _),Nat.sub_self]
 rfl
theorem Ni {ds:List Nat}{d:Nat}:∀ k,k<=ds.length->opn (ds++[d]) k=opn ds k
 | 0,_=>rfl
 | k+1,h=>by
  show dAt (ds++[d]) k+1=dAt ds k+1
  rw [K0 (by omega)]
theorem Mz {ds:List Nat}{d:Nat}:∀ k,k<=ds.length->way (ds++[d]) k=way ds k
 | 0,_=>rfl
 | k+1,h=>by
  show (way (ds++[d]) k).take (dAt (ds++[d]) k+1)++[(k:Int)]=_
  rw [Mz k (by omega),K0 (by omega)]
  rfl
theorem M2 {ds:List Nat}{d:Nat}(h:Dok ds)(hd:d<=opn ds ds.length):Dok (ds++[d]):=fun k hk=>by
 rw [List.length_append] at hk
 simp only [List.length_cons,List.length_nil] at hk
 by_cases e:k=ds.length
 ·subst e
  rw [Pn,Ni _ (Nat.le_refl _)]
  exact hd
 ·rw [K0 (by omega),Ni k (by omega)]
  exact h k (by omega)
theorem Iy (ds:List Nat)(d:Nat):Az (ds++[d])=Az ds++[(way ds ds.length).getD d 0]:=by
 unfold Az
 rw [List.length_append]
 show (List.range (ds.length+1)).map _=_
 rw [List.range_succ,List.map_append]
 congr 1
 ·refine List.map_congr_left fun k hk=>?_
  have hk:=List.mem_range.mp hk
  unfold eld
  rw [Mz k (by omega),K0 hk]
 ·show [eld (ds++[d]) ds.length]=_
  unfold eld
  rw [Mz _ (Nat.le_refl _),Pn]
theorem Kn (ds:List Nat)(d:Nat):way (ds++[d]) (ds.length+1)=(way ds ds.length).take (d+1)++[(ds.length:Int)]:=by
 show (way (ds++[d]) ds.length).take (dAt (ds++[d]) ds.length+1)++_=_
 rw [Mz _ (Nat.le_refl _),Pn]
theorem Km {ds:List Nat}(h:Dok ds){k:Nat}(hk:k<=ds.length):way ds k=-1::(way ds k).tail:=by
 have e:=Nr h k hk
 cases hw:way ds k with
 | nil=>rw [hw] at e;cases e
 | cons x r =>
  rw [hw] at e
  obtain rfl:=Option.some.inj e
  rfl
def hgt (l:List Bool)(i:Nat):Int:=2*((l.take i).count true:Int)-i
theorem Nb {l:List Bool}{i:Nat}{b:Bool}(h:l[i]?=some b):hgt l (i+1)=hgt l i+if b then 1 else -1:=by
 unfold hgt
 rw [List.take_add_one,h,List.count_append]
 cases b<;>simp<;>omega
theorem qW {row:List Bool}{i:Nat}{b:Bool}(h:row[i]?=some b):row.drop i=b::row.drop (i+1):=by
 have hi:=Cy h
 rw [List.drop_eq_getElem_cons hi]
 rw [List.getElem?_eq_getElem hi] at h
 rw [Option.some.inj h]
theorem Z1 {row:List Bool}(hv:Vs 0 row):∀ i,i<=row.length->∃ h:Nat,hgt row i=(h:Int)/\Vs h (row.drop i)/\True
 | 0,_=>⟨0,rfl,hv,trivial⟩
 | i+1,hi=>by
  obtain ⟨h,h1,h2,_⟩:=Z1 hv i (by omega)
  obtain ⟨b,hb⟩:∃ b,row[i]?=some b:=⟨row[i],List.getElem?_eq_getElem (by omega)⟩
  have hs:=Nb hb
  rw [qW hb] at h2
  cases b with
  | false =>
   obtain ⟨g,rfl⟩:∃ g,h=g+1:=⟨h-1,by have:=h2.1;omega⟩
   have hs:hgt row (i+1)=hgt row i + -1:=hs
   exact ⟨g,by omega,h2.2,trivial⟩
  | true =>
   have hs:hgt row (i+1)=hgt row i+1:=hs
   exact ⟨h+1,by omega,h2,trivial⟩
theorem dW (xs:List V)(m:Nat):Iu xs none (some (m:Int))=xs.take m:=by
 unfold Iu
 rw [HT.sIx_nat]
 show (xs.drop 0).take (min m xs.length-0)=xs.take m
 rw [List.drop_zero,Nat.sub_zero]
 by_cases h:m<=xs.length
 ·rw [Nat.min_eq_left h]
 ·rw [Nat.min_eq_right (by omega),List.take_of_length_le (Nat.le_refl _),List.take_of_length_le (by omega)]
theorem mW {ds:List Nat}{d:Nat}(h:Dok (ds++[d])):Dok ds/\d<=opn ds ds.length:=by
 refine ⟨fun k hk=>?_,?_⟩
 ·have:=h k (by rw [List.length_append];omega)
  rw [K0 hk,Ni k (by omega)] at this
  exact this
 ·have:=h ds.length (by rw [List.length_append];simp)
  rw [Pn,Ni _ (Nat.le_refl _)] at this
  exact this
def shI (n:Nat)(b e:Int):Int:=if e<0 then b else e+n
def Jh (ds:List Nat)(D:Nat)(es:List Nat):List Nat:=ds++es.map (·+D)
theorem Zu (ds:List Nat)(D:Nat)(es:List Nat):(Jh ds D es).length=ds.length+es.length:=by unfold Jh;rw [List.length_append,List.length_map]
theorem pJ {ds:List Nat}(h1:Dok ds){D:Nat}(hD:D<=opn ds ds.length)(es:List Nat)(h2:Dok es):Dok (Jh ds D es)/\Az (Jh ds D es)=Az ds++(Az es).map (shI ds.length ((way ds ds.length).getD D 0)) /\
  (es≠[]->way (Jh ds D es) (Jh ds D es).length=(way ds ds.length).take (D+1)++(way es es.length).tail.map (fun x:Int=>x+(ds.length:Int))):=by
 have hw:=Co h1 ds.length (Nat.le_refl _)
 induction es using oE with
 | h0 =>
  have e:Jh ds D []=ds:=by unfold Jh;simp
  rw [e]
  exact ⟨h1,by show Az ds=Az ds++[];simp,fun z=>absurd rfl z⟩
 | h1 es d ih =>
  obtain ⟨h2a,hd⟩:=mW h2
  obtain ⟨k1,k2,k3⟩:=ih h2a
  have ec:Jh ds D (es++[d])=Jh ds D es++[d+D]:=by unfold Jh;rw [List.map_append,<- List.append_assoc];rfl
  have hwe:=Co h2a es.length (Nat.le_refl _)
  have hhe:=Km h2a (k:=es.length) (Nat.le_refl _)
  have htl:(way es es.length).tail.length=opn es es.length:=by rw [List.length_tail];omega
  have hwc:=Co k1 (Jh ds D es).length (Nat.le_refl _)
  by_cases he:es=[]
  ·subst he
   have e0:Jh ds D []=ds:=by unfold Jh;simp
   have d0:d=0:=Nat.le_zero.mp hd
   subst d0
   rw [ec,e0,Nat.zero_add]
   refine ⟨M2 h1 hD,?_,fun _=>?_⟩
   ·rw [Iy]
    rfl
   ·rw [List.length_append]
    show way (ds++[D]) (ds.length+1)=_
    rw [Kn]
    congr 1
    show [(ds.length:Int)]=[(0:Int)+(ds.length:Int)]
    rw [Int.zero_add]
  ·have k3:=k3 he
   have htk:((way ds ds.length).take (D+1)).length=D+1:=by rw [List.length_take];omega
   have hopn:opn (Jh ds D es) (Jh ds D es).length=D+opn es es.length:=by
    rw [k3,List.length_append,List.length_map,htl,htk] at hwc
    omega
   rw [ec]
   refine ⟨M2 k1 (by rw [hopn];omega),?_,fun _=>?_⟩
   ·rw [Iy,Iy,k2,List.map_append,<- List.append_assoc]
    congr 1
    show [_]=[_]
    congr 1
    rw [k3]
    cases d with
    | zero =>
     have e1:(way es es.length).getD 0 0=-1:=by rw [hhe];rfl
     rw [e1,Nat.zero_add]
     unfold shI
     rw [if_pos (by decide)]
     unfold List.getD
     rw [List.getElem?_append_left (by omega),List.getElem?_take_of_lt (by omega)]
    | succ d =>
     have hx:(way es es.length)[d+1]?=some ((way es es.length)[d+1]'(by omega)):=List.getElem?_eq_getElem _
     generalize (way es es.length)[d+1]'(by omega)=x at hx
     obtain ⟨v,rfl,_⟩:=Ol h2a es.length d x (Nat.le_refl _) hx
     have e1:(way es es.length).getD (d+1) 0=(v:Int):=by unfold List.getD;rw [hx];rfl
     rw [e1]
     unfold shI
     rw [if_neg (by omega)]
     unfold List.getD
     rw [List.getElem?_append_right (by omega),htk,List.getElem?_map,show d+1+D-(D+1)=d by omega]
     rw [hhe] at hx
     rw [List.getElem?_cons_succ] at hx
     rw [hx]
     rfl
   ·have e2:(Jh ds D es++[d+D]).length=(Jh ds D es).length+1:=by rw [List.length_append];rfl
    have e3:(es++[d]).length=es.length+1:=by rw [List.length_append];rfl
    rw [e2,Kn,e3,Kn,k3]
    have e4:((way es es.length).take (d+1)++[(es.length:Int)]).tail=(way es es.length).tail.take d++[(es.length:Int)]:=by
     rw [hhe]
     rfl
    rw [e4,List.map_append,<- List.append_assoc]
    have e5:((way ds ds.length).take (D+1)++(way es es.length).tail.map (fun x:Int=>x+(ds.length:Int))).take (d+D+1)=(way ds ds.length).take (D+1)++((way es es.length).tail.take d).map (fun x:Int=>x+(ds.length:Int)):=by
     rw [List.take_append,htk,List.take_of_length_le (by omega),show d+D+1-(D+1)=d by omega,List.map_take]
    rw [e5]
    congr 1
    show [((Jh ds D es).length:Int)]=[(es.length:Int)+(ds.length:Int)]
    rw [Zu]
    congr 1
    omega
theorem dJ {l:List Nat}{i:Nat}{x:V}(h:(nV l)[i]?=some x):∃ n,l[i]?=some n/\x=.int (n:Nat):=by
 unfold nV at h
 rw [List.getElem?_map] at h
 cases e:l[i]? with
 | none=>rw [e] at h;cases h
 | some n =>
  rw [e] at h
  exact ⟨n,rfl,(Option.some.inj h).symm⟩
def grB (ns:List Nat):List Bool:=(ns.map fun n=>List.replicate n true++[false]).flatten
theorem Hm (ns:List Nat):(grB ns).length=ns.sum+ns.length:=by
 induction ns with
 | nil=>rfl
 | cons n r ih =>
  show (List.replicate n true++[false]++grB r).length=_
  rw [List.length_append,ih]
  simp
  omega
theorem Rk {ns:List Nat}{i n:Nat}(h:ns[i]?=some n):n<=ns.sum:=by
 induction ns generalizing i with
 | nil=>cases h
 | cons m r ih =>
  cases i with
  | zero=>cases h;simp
  | succ i=>have:=ih (i:=i) h;simp;omega
def Ra:Sp:=fun vs H Q _=>∃ (l:Addr) (ns:List Nat),vs=[.ref l]/\H l=some (.lst (nV ns))/\ns.sum+ns.length<=20000/\∀ H',Al H H'->Q (.str (Au (grB ns))) H'
theorem qT (ns:List Nat):Au (grB ns)=⟨(grC ns).toArray⟩:=by
 unfold Au
 congr 2
 induction ns with
 | nil=>rfl
 | cons n r ih =>
  show (List.replicate n true++[false]++grB r).map _=List.replicate n 49++[48]++grC r
  rw [List.map_append,ih]
  simp
theorem Ui:∀ (n h:Nat)(s:List Bool),Vs (h+n) s->Vs h (List.replicate n true++s)
 | 0,h,s,v=>v
 | n+1,h,s,v=>by
  rw [List.replicate_succ,List.cons_append]
  exact Ui n (h+1) s (by rw [show h+1+n=h+(n+1) by omega];exact v)
theorem Ug:∀ {ns:List Nat}{h:Nat},Gd h ns->Vs h (grB ns)
 | [],h,g=>g
 | n::r,h,g=>by
  show Vs h (List.replicate n true++[false]++grB r)
  rw [List.append_assoc]
  refine Ui n h _ ⟨by have:=g.1;omega,?_⟩
  exact Ug g.2
structure Jg (H H':Hp):Prop where
 keep:∀ b u,(∀ ps,u≠.tbl ps)->H b=some u->H' b=some u
 tb:∀ b ps,H b=some (.tbl ps)->∃ ps',H' b=some (.tbl ps')
theorem Jg.refl (H:Hp):Jg H H:=⟨fun _ _ _ e=>e,fun _ ps e=>⟨ps,e⟩⟩
theorem Jg.trans {H H1 H2:Hp}(a:Jg H H1)(b:Jg H1 H2):Jg H H2:=⟨fun c u n e=>b.keep c u n (a.keep c u n e),fun c ps e=>let ⟨ps',e'⟩:=a.tb c ps e;b.tb c ps' e'⟩
theorem Jg.tup {H H':Hp}(s:Jg H H'){a:Addr}{xs:List V}(h:H a=some (.tup xs)):H' a=some (.tup xs):=s.keep _ _ (by intro ps e;cases e) h
theorem oK {H H':Hp}(s:Al H H'):Jg H H':=⟨fun b u _ e=>s b u e,fun b ps e=>⟨ps,s b _ e⟩⟩
structure Tb where
 P:Addr
 pos:Pos
 qual:Str
def Tb.ok (t:Tb)(H:Hp):Prop:=Sh H t.P t.pos t.qual
theorem Tb.same {t:Tb}{H H':Hp}(s:Al H H')(h:t.ok H):t.ok H':=by
 obtain ⟨ps,e1,e2,e3⟩:=h
 exact ⟨ps,s _ _ e1,e2,e3.imp id fun ⟨c,oc,a1,a2,a3⟩=>⟨c,oc,a1,s _ _ a2,a3⟩⟩
theorem Tb.sameX {t:Tb}{P:Addr}{H H':Hp}(s:Ox P H H')(hP:∃ ps,H P=some (.tbl ps))(n:t.P≠P)(h:t.ok H):t.ok H':=by
 obtain ⟨ps,e1,e2,e3⟩:=h
 obtain ⟨ps',hP⟩:=hP
 exact ⟨ps,s _ _ n e1,e2,e3.imp id fun ⟨c,oc,a1,a2,a3⟩=>⟨c,oc,a1,s _ _ (fun z=>by rw [z,hP] at a2;cases a2) a2,a3⟩⟩
theorem qL {P:Addr}{H H':Hp}(s:Ox P H H')(hP:∃ ps,H P=some (.tbl ps))(hP':∃ ps,H' P=some (.tbl ps)):Jg H H':=by
 refine ⟨fun b u n e=>s b u (fun z=>?_) e,fun b ps e=>?_⟩
 ·obtain ⟨ps,hP⟩:=hP
  rw [z,hP] at e
  cases e
  exact n ps rfl
 ·by_cases hb:b=P
  ·rw [hb];exact hP'
  ·exact ⟨ps,s b _ hb e⟩
theorem Tb.tbl {t:Tb}{H:Hp}(h:t.ok H):∃ ps,H t.P=some (.tbl ps):=let ⟨ps,e,_⟩:=h;⟨ps,e⟩
def Tbs (ts:List Tb)(H:Hp):Prop:=(∀ t∈ts,t.ok H)/\(ts.map (·.P)).Nodup
structure SmT (ts:List Tb) (H H':Hp):Prop where
 sm:Jg H H'
 ok:Tbs ts H'
theorem Tbs.same {ts:List Tb}{H H':Hp}(h:Tbs ts H)(s:Al H H'):Tbs ts H':=⟨fun t ht=>Tb.same s (h.1 t ht),h.2⟩
theorem SmT.of {ts:List Tb}{H H':Hp}(h:Tbs ts H)(s:Al H H'):SmT ts H H':=⟨oK s,h.same s⟩
theorem SmT.refl {ts:List Tb}{H:Hp}(h:Tbs ts H):SmT ts H H:=⟨Jg.refl _,h⟩
theorem SmT.trans {ts:List Tb}{H H1 H2:Hp}(a:SmT ts H H1)(b:SmT ts H1 H2):SmT ts H H2:=⟨a.sm.trans b.sm,b.ok⟩
theorem SmT.then {ts:List Tb}{H H1 H2:Hp}(a:SmT ts H H1)(b:Al H1 H2):SmT ts H H2:=a.trans (.of a.ok b)
theorem SmT.k {ts:List Tb}{H H':Hp}(s:SmT ts H H'){b:Addr}{u:HO}(h:H b=some u)(n:∀ ps,u≠.tbl ps:=by intro ps e;cases e):H' b=some u:=s.sm.keep _ _ n h
theorem nH:∀ {ts:List Tb}{t u:Tb},(ts.map (·.P)).Nodup->t∈ts->u∈ts->t.P=u.P->t=u
 | [],_,_,_,h,_,_=>nomatch h
 | x::r,t,u,hn,ht,hu,e=>by
  rw [List.map_cons,List.nodup_cons] at hn
  rcases List.mem_cons.mp ht with rfl | ht'<;>rcases List.mem_cons.mp hu with rfl | hu'
  ·rfl
  ·exact absurd (List.mem_map_of_mem (f:=(·.P)) hu') (by rw [<- e];exact hn.1)
  ·exact absurd (List.mem_map_of_mem (f:=(·.P)) ht') (by rw [e];exact hn.1)
  ·exact nH hn.2 ht' hu' e
theorem vN {ts:List Tb}{t:Tb}{H H':Hp}(h:Tbs ts H)(ht:t∈ts)(s:Ox t.P H H')(ok:t.ok H'):SmT ts H H':=by
 have hP:=Tb.tbl (h.1 t ht)
 refine ⟨qL s hP (Tb.tbl ok),fun u hu=>?_,h.2⟩
 by_cases e:u.P=t.P
 ·have:u=t:=nH h.2 hu ht e
  rw [this];exact ok
 ·exact Tb.sameX s hP e (h.1 u hu)
def aH (K:PySem.W.Frag)(ts:List Tb):Sp:=fun vs H Q _=>∃ (a:Addr) (ns:List Int),vs=[.ref a]/\SqL K H a (ns.map V.int)/\ns.length<=63/\Tbs ts H/\∀ H',Q (.bl true) H'
abbrev AllMk:Prop:=∀ {l:PySem.W.OpenLaw} {w:World} {K:PySem.W.Frag} {h:Heap} {mg:Str->Option Value} {fa:Addr} (X:K.In h) (G:h.Ns mainGlobals mg) (hfa:mg "law"=some (.ref fa))
  {C_Bits:Addr}
  {C_Counts:Addr}
  {C_Pairs:Addr}
  {C_Counted:Addr}
  {C_Heights:Addr}
  {f26:Addr}{od26 an26:Option Addr}{sl26:Array (Option Value)}{oc26 kV26 dc26 pm26 ct26:Value}
  {oo26:Obj}
  {a_ONES_OF_FOUR:Addr}{o_ONES_OF_FOUR:Obj}{i_ONES_OF_FOUR:Array Value}{n_ONES_OF_FOUR:Nat}
  {a_SIGNS_OF_FOUR:Addr}{o_SIGNS_OF_FOUR:Obj}{i_SIGNS_OF_FOUR:Array Value}{n_SIGNS_OF_FOUR:Nat}
  {t_WORD_BITS:Tok}
  {t_MOST_BITS:Tok}
  {t_BLOCK_WORDS:Tok}
  {t_BLOCK_BITS:Tok}
  {t_FULL_WORD:Tok}
  {t_MOST_SIGNS:Tok}
  {t_STRETCH_BITS:Tok}
  {t_MOST_KNOTS:Tok}
  {t_MARK_STEP:Tok}
  (cd_Bits:CD K C_Bits "Bits")
  (fd_Bits:FD K C_Bits ["length","many_ones","kept_words"])
  (cd_Counts:CD K C_Counts "Counts")
  (fd_Counts:FD K C_Counts ["length","kept_words","kept_table"])
  (cd_Pairs:CD K C_Pairs "Pairs")
  (fd_Pairs:FD K C_Pairs ["bits","counts","length","kept_table","often_least"])
  (cd_Counted:CD K C_Counted "Counted")
  (fd_Counted:FD K C_Counted ["knots","pairs","marks"])
  (bc_Heights:BC K C_Heights "Heights")
  (g0:GD K "is_whole" J1)
  (g1:GD K "is_within" Hw)
  (g2:GD K "check_bit" Ib)
  (g3:GD K "check_place" F2)
  (g4:GD K "check_stretch" Ex)
  (g5:GD K "check_knot" G1)
  (g6:GD K "ones_in" Lp)
  (g7:GD K "nth_of_four" Eo)
  (g8:GD K "nth_one" Lk)
  (g9:GD K "is_row" Nx)
  (g10:GD K "word_of" Li)
  (g11:GD K "words_of" Hc)
  (g12:GD K "signs_of" Hg)
  (g13:MD K C_Bits "__init__" "Bits.__init__" Ht)
  (g14:MD K C_Bits "size" "Bits.size" Hq)
  (g15:MD K C_Bits "words" "Bits.words" G4)
  (g16:MD K C_Bits "stretch" "Bits.stretch" Dz)
  (g17:MD K C_Bits "bit" "Bits.bit" Jr)
  (g18:GD K "first_that" Gu)
  (g19:GD K "running_sums" Fd)
  (g20:GD K "table_of_words" B5)
  (g21:MD K C_Counts "__init__" "Counts.__init__" F1)
  (g22:MD K C_Counts "ones_ahead" "Counts.ones_ahead" Cn)
  (g23:MD K C_Counts "ahead" "Counts.ahead" Fw)
  (g24:MD K C_Counts "ahead_of_block" "Counts.ahead_of_block" Bz)
  (g25:MD K C_Counts "many_like" "Counts.many_like" C0)
  (i26:PySem.W.isFn K (.ref f26)=true)
  (a26:PySem.W.findIn K (.ref C_Counts) "block_with"=some (some (.ref f26)))(l26:K.lookup f26=some ⟨oc26,od26,.func (PySem.W.fnOf "block_with" "Counts.block_with" (C4 A8) (Ch A8) (Ad A8) .none kV26 dc26 pm26 an26 (.ref 379) ct26),sl26⟩)(c26:PySem.W.codeIn K (.ref 379) "Counts.block_with"=true)(k26:PySem.W.keepIn K (.ref f26)=true)
  (lc26:K.lookup 379=some oo26)(hc26:Lr oo26 379 375)
  (g27:MD K C_Counts "place_from" "Counts.place_from" Cp)
  (g28:MD K C_Counts "place_of" "Counts.place_of" Do)
  (g29:GD K "heights_of" Gv)
  (g30:GD K "check_row" Hn)
  (g31:BD K C_Heights "__init__" "Heights.__init__" Fv)
  (g32:MD K C_Pairs "opens_ahead" "Pairs.opens_ahead" Cl)
  (g33:MD K C_Pairs "closes_ahead" "Pairs.closes_ahead" Ce)
  (g34:MD K C_Pairs "height" "Heights.height" Ed)
  (g35:MD K C_Pairs "stretch" "Pairs.stretch" Es)
  (g36:MD K C_Pairs "size" "Heights.size" Fn)
  (g37:MD K C_Pairs "text" "Heights.text" Fk)
  (g38:MD K C_Pairs "__init__" "Pairs.__init__" Cf)
  (g39:MD K C_Pairs "stretch_at" "Pairs.stretch_at" C7)
  (g40:MD K C_Pairs "begin_of" "Pairs.begin_of" Ee)
  (g41:MD K C_Pairs "parts" "Heights.parts" Dg)
  (g42:MD K C_Pairs "may_meet" "Heights.may_meet" C2)
  (g43:MD K C_Pairs "heights_within" "Heights.heights_within" Bx)
  (g44:MD K C_Pairs "next_within" "Heights.next_within" B9)
  (g45:MD K C_Pairs "last_within" "Heights.last_within" B8)
  (g46:GD K "check_height" Fj)
  (g47:MD K C_Pairs "next_at" "Heights.next_at" Dm)
  (g48:MD K C_Pairs "last_at" "Heights.last_at" Dq)
  (g49:MD K C_Pairs "is_opening" "Pairs.is_opening" C3)
  (g50:MD K C_Pairs "partner" "Heights.partner" Dn)
  (g51:MD K C_Pairs "closing" "Pairs.closing" Ev)
  (g52:GD K "look_at" Lf)
  (g53:GD K "depths_of" Hu)
  (g54:GD K "children_counted" C1)
  (g55:GD K "counted_row" En)
  (g56:GD K "thin_rest" Ia)
  (g57:GD K "marked_depths" Dh)
  (g58:MD K C_Counted "__init__" "Counted.__init__" Fl)
  (g59:MD K C_Counted "row" "Counted.row" F3)
  (g60:MD K C_Counted "stretch" "Counted.stretch" Dr)
  (g61:MD K C_Counted "behind" "Counted.behind" D0)
  (g62:MD K C_Counted "stem" "Counted.stem" Fc)
  (g63:MD K C_Counted "many_knots" "Counted.many_knots" Cd)
  (g64:MD K C_Counted "elders" "Counted.elders" Cv)
  (g65:MD K C_Counted "elder" "Counted.elder" Ew)
  (g66:MD K C_Counted "knot_of" "Counted.knot_of" Dp)
  (g67:MD K C_Counted "right" "Counted.right" Eu)
  (g68:MD K C_Counted "left" "Counted.left" Fs)
  (g69:MD K C_Counted "many" "Counted.many" Fh)
  (g70:MD K C_Counted "child" "Counted.child" Et)
  (g71:GD K "check_from_nought" Cm)
  (g72:MD K C_Counted "nth" "Wood.nth" Jk)
  (g73:MD K C_Counted "first" "Wood.first" Gw)
  (g74:GD K "_law_cell_at" F5)
  (g75:GD K "_law_twice" Id)
  (g76:GD K "_law_grown" Ic)
  (g77:GD K "_law_drawn" Hx)
  (g78:GD K "_law_repeated" Du)
  (g79:GD K "_law_wood" Jt)
  (g80:GD K "_law_walked" Gy)
  (g81:GD K "_law_under" F9)
  (g82:GD K "_law_next" Jv)
  (g83:GD K "_law_good" Jw)
  (g84:GD K "law" Sw)
  (g_ONES_OF_FOUR:PySem.W.nsIn K mainGlobals "ONES_OF_FOUR"=some (some (.ref a_ONES_OF_FOUR)))(o1_ONES_OF_FOUR:K.lookup a_ONES_OF_FOUR=some o_ONES_OF_FOUR)(o2_ONES_OF_FOUR:o_ONES_OF_FOUR.cls=.type "tuple")(o3_ONES_OF_FOUR:o_ONES_OF_FOUR.data=.seq i_ONES_OF_FOUR n_ONES_OF_FOUR)(o4_ONES_OF_FOUR:i_ONES_OF_FOUR.size<=sizeLine)(o5_ONES_OF_FOUR:A6 (Sx.map fun n:Nat=>V.int n) i_ONES_OF_FOUR.toList)
  (g_SIGNS_OF_FOUR:PySem.W.nsIn K mainGlobals "SIGNS_OF_FOUR"=some (some (.ref a_SIGNS_OF_FOUR)))(o1_SIGNS_OF_FOUR:K.lookup a_SIGNS_OF_FOUR=some o_SIGNS_OF_FOUR)(o2_SIGNS_OF_FOUR:o_SIGNS_OF_FOUR.cls=.type "tuple")(o3_SIGNS_OF_FOUR:o_SIGNS_OF_FOUR.data=.seq i_SIGNS_OF_FOUR n_SIGNS_OF_FOUR)(o4_SIGNS_OF_FOUR:i_SIGNS_OF_FOUR.size<=sizeLine)(o5_SIGNS_OF_FOUR:A6 (aP) i_SIGNS_OF_FOUR.toList)
  (g_WORD_BITS:PySem.W.nsIn K mainGlobals "WORD_BITS"=some (some (.int 32 t_WORD_BITS)))
  (g_MOST_BITS:PySem.W.nsIn K mainGlobals "MOST_BITS"=some (some (.int 20000 t_MOST_BITS)))
  (g_BLOCK_WORDS:PySem.W.nsIn K mainGlobals "BLOCK_WORDS"=some (some (.int 8 t_BLOCK_WORDS)))
  (g_BLOCK_BITS:PySem.W.nsIn K mainGlobals "BLOCK_BITS"=some (some (.int 256 t_BLOCK_BITS)))
  (g_FULL_WORD:PySem.W.nsIn K mainGlobals "FULL_WORD"=some (some (.int 4294967295 t_FULL_WORD)))
  (g_MOST_SIGNS:PySem.W.nsIn K mainGlobals "MOST_SIGNS"=some (some (.int 8192 t_MOST_SIGNS)))
  (g_STRETCH_BITS:PySem.W.nsIn K mainGlobals "STRETCH_BITS"=some (some (.int 256 t_STRETCH_BITS)))
  (g_MOST_KNOTS:PySem.W.nsIn K mainGlobals "MOST_KNOTS"=some (some (.int 4000 t_MOST_KNOTS)))
  (g_MARK_STEP:PySem.W.nsIn K mainGlobals "MARK_STEP"=some (some (.int 16 t_MARK_STEP)))
  (z_range:PySem.W.nsIn K mainGlobals "range"=some none)
  (z_len:PySem.W.nsIn K mainGlobals "len"=some none)
  (z_int:PySem.W.nsIn K mainGlobals "int"=some none)
  (z_bool:PySem.W.nsIn K mainGlobals "bool"=some none)
  (z_str:PySem.W.nsIn K mainGlobals "str"=some none)
  (z_isinstance:PySem.W.nsIn K mainGlobals "isinstance"=some none)
  (z_list:PySem.W.nsIn K mainGlobals "list"=some none)
  (z_tuple:PySem.W.nsIn K mainGlobals "tuple"=some none)
  (z_dict:PySem.W.nsIn K mainGlobals "dict"=some none)
  (z_enumerate:PySem.W.nsIn K mainGlobals "enumerate"=some none)
  (z_zip:PySem.W.nsIn K mainGlobals "zip"=some none)
  (z_sum:PySem.W.nsIn K mainGlobals "sum"=some none)
  (z_abs:PySem.W.nsIn K mainGlobals "abs"=some none)
  (z_max:PySem.W.nsIn K mainGlobals "max"=some none)
  (z_min:PySem.W.nsIn K mainGlobals "min"=some none)
  (z_reversed:PySem.W.nsIn K mainGlobals "reversed"=some none),
   ∃ fd:FuncData,(∀ (s:Shared) (v:Value),BindsTo s fd ⟨[v],[]⟩ [("_law_script",v)])/\∀ base:Heap,K.In base->base.Ns mainGlobals mg->(∀ q∈([(379,375)]:List (Addr×Addr)),base.BuiltinsAt mg q.2)->Ax l.prog w K mg base CX0 16 fa fd ["_law_script"] (aH K [⟨375,Ak,"Counts.block_with.<locals>.<lambda>"⟩])
theorem walk {l:PySem.W.OpenLaw}{q:Program}{loose:List Str}{XP:(Str->Option Value)->Heap->Prop}{YP:World->Heap->Prop}{d:DefRec}{K:Params->PySem.W.Frag}(hn:l.most=some 63)(hdf:d.params.defaults=[])
  (hY:∀ (w:World) (h:Heap),YP w h->(K w.params).In h)(hTb:∀ (w:World) (h:Heap),YP w h->PySem.W.TabsAt [(379,375)] h)(hTK:∀ w:World,∀ p∈([(379,375)]:List (Addr×Addr)),(K w.params).lookup p.2=none)
  (F:∀ (w:World) (mg:Str->Option Value) (fa:Addr) (h:Heap),(K w.params).In h->h.Ns mainGlobals mg->mg d.name=some (.ref fa) ->
   ∃ fd:FuncData,(∀ (s:Shared) (u:Value),BindsTo s fd ⟨[u],[]⟩ [("_law_script",u)])/\∀ base:Heap,(K w.params).In base->base.Ns mainGlobals mg->(∀ q∈([(379,375)]:List (Addr×Addr)),base.BuiltinsAt mg q.2)->Ax l.prog w (K w.params) mg base CX0 16 fa fd ["_law_script"] (aH (K w.params) [⟨375,Ak,"Counts.block_with.<locals>.<lambda>"⟩])) :
  PySem.W.WalkO q loose XP YP l.row.toRowW d [] (fun f vs=>PySem.call f vs) :=
 L2.gS (n:=63) (k:=16) (x:="_law_script") (tabs:=[(379,375)]) (CX:=fun _=>CX0) (sp:=fun w=>(aH (K w.params) [⟨375,Ak,"Counts.block_with.<locals>.<lambda>"⟩])) hn (by decide) hdf ⟨rfl,by decide,by decide⟩ hY hTb hTK F (fun _ _ a ns hl hO hS=>⟨a,ns,rfl,hS,hl,⟨List.forall_mem_cons.mpr ⟨⟨#[],hO (379,375) (by simp),trivial,.inl rfl⟩,fun _ h=>nomatch h⟩,by decide⟩,fun _=>rfl⟩) fun _ _ _ _ _ z=>z
end TK
section
noncomputable def PySem.W.Fast.tw6113440987051902622:PySem.Program:=PySem.Challenge.pw_tightwood_k55_whole_each_stretch_a_wood
theorem PySem.W.Fast.te6113440987051902622:PySem.Challenge.pw_tightwood_k55_whole_each_stretch_a_wood=PySem.W.Fast.tw6113440987051902622:=rfl
def HD.loose:List PySem.Str:=[PySem.Str.ofString "_wall",PySem.Str.ofString "WoodError",PySem.Str.ofString "NoBits",PySem.Str.ofString "NoPlace",PySem.Str.ofString "NoRow",PySem.Str.ofString "NoWood",PySem.Str.ofString "NoKnot",PySem.Str.ofString "is_whole",PySem.Str.ofString "is_within",PySem.Str.ofString "check_bit",PySem.Str.ofString "check_place",PySem.Str.ofString "check_stretch",PySem.Str.ofString "check_from_nought",PySem.Str.ofString "check_knot",PySem.Str.ofString "WORD_BITS",PySem.Str.ofString "FULL_WORD",PySem.Str.ofString "ONES_OF_FOUR",PySem.Str.ofString "ones_in",PySem.Str.ofString "nth_of_four",PySem.Str.ofString "nth_one",PySem.Str.ofString "MOST_BITS",PySem.Str.ofString "SIGNS_OF_FOUR",PySem.Str.ofString "is_row",PySem.Str.ofString "word_of",PySem.Str.ofString "words_of",PySem.Str.ofString "signs_of",PySem.Str.ofString "Bits",PySem.Str.ofString "BLOCK_WORDS",PySem.Str.ofString "BLOCK_BITS",PySem.Str.ofString "first_that",PySem.Str.ofString "running_sums",PySem.Str.ofString "table_of_words",PySem.Str.ofString "Counts",PySem.Str.ofString "heights_of",PySem.Str.ofString "check_height",PySem.Str.ofString "Heights",PySem.Str.ofString "MOST_SIGNS",PySem.Str.ofString "STRETCH_BITS",PySem.Str.ofString "check_row",PySem.Str.ofString "Pairs",PySem.Str.ofString "MOST_KNOTS",PySem.Str.ofString "MARK_STEP",PySem.Str.ofString "look_at",PySem.Str.ofString "depths_of",PySem.Str.ofString "children_counted",PySem.Str.ofString "counted_row",PySem.Str.ofString "thin_rest",PySem.Str.ofString "Wood",PySem.Str.ofString "marked_depths",PySem.Str.ofString "Counted",PySem.Str.ofString "_law_cell_at",PySem.Str.ofString "_law_twice",PySem.Str.ofString "_law_grown",PySem.Str.ofString "_law_drawn",PySem.Str.ofString "_law_repeated",PySem.Str.ofString "_law_wood",PySem.Str.ofString "_law_walked",PySem.Str.ofString "_law_under",PySem.Str.ofString "_law_next",PySem.Str.ofString "_law_good"]
def HD.LD:PySem.DefRec:=HD.recOf (PySem.Challenge.pw_tightwood_k55_whole_each_stretch_a_wood.main.body.getD 70 (.Pass ⟨0,0,0,0⟩))
def HD.VQ:PySem.Program:=PySem.W.view PySem.Challenge.pw_tightwood_k55_whole_each_stretch_a_wood [70]
theorem HD.A_ok (w:PySem.World):(fun os=>HD.oneA (HD.bootT w os) (PySem.W.boot_heap w.params) HD.bootSize PySem.Challenge.pw_tightwood_k55_whole_each_stretch_a_wood 100000 w)=(fun _=>some true):=by rw [HD.oneA_eq];kernel_rfl
theorem HD.B_ok (w:PySem.World):(fun os=>HD.oneB (HD.bootT w os) HD.bootSize PySem.Challenge.pw_tightwood_k55_whole_each_stretch_a_wood HD.VQ HD.loose 100000 w)=(fun _=>some (PySem.W.openGood HD.VQ HD.loose)):=by rw [HD.oneB_eq];kernel_rfl
local macro_rules | `(tactic| o_head $H)=>`(tactic| (refine PySem.W.holds_open (q:=HD.VQ) (loose:=HD.loose) (d:=HD.LD) (kwd:=[]) (Xt:=fun _=>true) (XP:=fun _ _=>True) (Yf:=PySem.W.Hook.obs $H) (Ya:=PySem.W.Hook.val $H) (YP:=PySem.W.Hook.says $H) (N:=100000) (HD.left_of3 (p:=PySem.Challenge.pw_tightwood_k55_whole_each_stretch_a_wood) (q:=HD.VQ) (loose:=HD.loose) (Yf:=PySem.W.Hook.obs $H) (Ya:=PySem.W.Hook.val $H) (N:=100000) (M:=100000) (by kernel_rfl) (fun _=>by kernel_rfl) (by kernel_rfl) (by kernel_rfl) HD.A_ok HD.B_ok (HD.hC_km (fun w=>by rw [HD.oneP_eq];kernel_rfl))) (PySem.W.Hook.of $H) (PySem.W.Hook.keeps $H) (fun _ _=>trivial) (fun _ _ _ _ _=>trivial) (by kernel_rfl) (by kernel_rfl) (by kernel_rfl) (fun _ _=>PySem.W.recFacts_nil rfl) rfl (by assumption) (by decide +kernel) ⟨rfl,rfl,rfl,rfl,rfl,by decide +kernel⟩ ?_ ?_))
open PySem PySem.W PyProof.Rows
set_option maxRecDepth 100000 in
set_option maxHeartbeats 0 in
theorem TK.HEAD (AM:TK.AllMk):PySem.Challenge.rw_tightwood_k55_whole_each_stretch_a_wood.Holds:=by
 w_on;o_law;k_head
 ·w_witness2
 k_fill
 refine TK.walk (l:=PySem.Challenge.rw_tightwood_k55_whole_each_stretch_a_wood) rfl (by kernel_rfl) (fun w h Y=>PySem.W.km_in_of Y) (fun w h Y=>List.forall_mem_cons.mpr ⟨⟨PySem.W.codeHd_of_K (c:=379) (P:=375) (PySem.W.km_in_of Y) (by kernel_rfl),PySem.W.km_tabs_of Y 375 (by simp)⟩,fun _ h=>nomatch h⟩) (fun w=>List.forall_mem_cons.mpr ⟨by kernel_rfl,fun _ h=>nomatch h⟩) ?F
 case F =>
  intro w mg fa h KX G hmg
  refine' AM KX G hmg ?cd_Bits ?fd_Bits ?cd_Counts ?fd_Counts ?cd_Pairs ?fd_Pairs ?cd_Counted ?fd_Counted ?bc_Heights ?g0 ?g1 ?g2 ?g3 ?g4 ?g5 ?g6 ?g7 ?g8 ?g9 ?g10 ?g11 ?g12 ?g13 ?g14 ?g15 ?g16 ?g17 ?g18 ?g19 ?g20 ?g21 ?g22 ?g23 ?g24 ?g25 ?i26 ?a26 ?l26 ?c26 ?k26 ?lc26 ?hc26 ?g27 ?g28 ?g29 ?g30 ?g31 ?g32 ?g33 ?g34 ?g35 ?g36 ?g37 ?g38 ?g39 ?g40 ?g41 ?g42 ?g43 ?g44 ?g45 ?g46 ?g47 ?g48 ?g49 ?g50 ?g51 ?g52 ?g53 ?g54 ?g55 ?g56 ?g57 ?g58 ?g59 ?g60 ?g61 ?g62 ?g63 ?g64 ?g65 ?g66 ?g67 ?g68 ?g69 ?g70 ?g71 ?g72 ?g73 ?g74 ?g75 ?g76 ?g77 ?g78 ?g79 ?g80 ?g81 ?g82 ?g83 ?g84 ?g_ONES_OF_FOUR ?o1_ONES_OF_FOUR ?o2_ONES_OF_FOUR ?o3_ONES_OF_FOUR ?o4_ONES_OF_FOUR ?o5_ONES_OF_FOUR ?g_SIGNS_OF_FOUR ?o1_SIGNS_OF_FOUR ?o2_SIGNS_OF_FOUR ?o3_SIGNS_OF_FOUR ?o4_SIGNS_OF_FOUR ?o5_SIGNS_OF_FOUR ?g_WORD_BITS ?g_MOST_BITS ?g_BLOCK_WORDS ?g_BLOCK_BITS ?g_FULL_WORD ?g_MOST_SIGNS ?g_STRETCH_BITS ?g_MOST_KNOTS ?g_MARK_STEP ?z_range ?z_len ?z_int ?z_bool ?z_str ?z_isinstance ?z_list ?z_tuple ?z_dict ?z_enumerate ?z_zip ?z_sum ?z_abs ?z_max ?z_min ?z_reversed
  (case cd_Bits|cd_Counts|cd_Pairs|cd_Counted|bc_Heights=>refine' ⟨?_,?_,?_⟩<;>try k_is)
  (case fd_Bits|fd_Counts|fd_Pairs|fd_Counted=>refine' L2.fD ?_ ?_ ?_ ?_ ?_<;>try first | k_is | kernel_rfl)
  (case g0|g1|g2|g3|g4|g5|g6|g7|g8|g9|g10|g11|g12|g18|g19|g20|g29|g30|g46|g52|g53|g54|g55|g56|g57|g71|g74|g75|g76|g77|g78|g79|g80|g81|g82|g83|g84=>refine' L2.gD ?_ ?_ ?_ ?_<;>try k_is)
  (case g13|g14|g15|g16|g17|g21|g22|g23|g24|g25|g27|g28|g32|g33|g34|g35|g36|g37|g38|g39|g40|g41|g42|g43|g44|g45|g47|g48|g49|g50|g51|g58|g59|g60|g61|g62|g63|g64|g65|g66|g67|g68|g69|g70|g72|g73=>refine' L2.mD ?_ ?_ ?_ ?_ ?_<;>try k_is)
  (case g31=>refine' L2.bD ?_ ?_ ?_ ?_<;>try k_is)
  (case a26|l26|c26|k26|i26|lc26=>k_is)
  (case hc26=>exact ⟨_,_,_,_,_,_,_,_,rfl,rfl,rfl,rfl,rfl,rfl,rfl,rfl,by decide⟩)
  (case g_ONES_OF_FOUR|o1_ONES_OF_FOUR=>k_is)
  (case o2_ONES_OF_FOUR=>rfl);(case o3_ONES_OF_FOUR=>rfl);(case o4_ONES_OF_FOUR=>decide);(case o5_ONES_OF_FOUR=>repeat (first | exact .nil | refine .cons ⟨_,rfl⟩ ?_))
  (case g_SIGNS_OF_FOUR|o1_SIGNS_OF_FOUR=>k_is)
  (case o2_SIGNS_OF_FOUR=>rfl);(case o3_SIGNS_OF_FOUR=>rfl);(case o4_SIGNS_OF_FOUR=>decide);(case o5_SIGNS_OF_FOUR=>repeat (first | exact .nil | refine .cons ⟨_,rfl⟩ ?_))
  (case g_WORD_BITS|g_MOST_BITS|g_BLOCK_WORDS|g_BLOCK_BITS|g_FULL_WORD|g_MOST_SIGNS|g_STRETCH_BITS|g_MOST_KNOTS|g_MARK_STEP|z_range|z_len|z_int|z_bool|z_str|z_isinstance|z_list|z_tuple|z_dict|z_enumerate|z_zip|z_sum|z_abs|z_max|z_min|z_reversed=>k_is)
end
namespace TK
open PySem L2 TW
local macro_rules | `(tactic| k_is)=>`(tactic| walk_at "rd")
structure Qh (K:PySem.W.Frag) (C:Addr):Prop where
 cl:Cls K C
 n_length:Bv K C "length"
 n_many_ones:Bv K C "many_ones"
 n_kept_words:Bv K C "kept_words"
structure Qc (K:PySem.W.Frag) (C:Addr):Prop where
 cl:Cls K C
 n_length:Bv K C "length"
 n_kept_words:Bv K C "kept_words"
 n_kept_table:Bv K C "kept_table"
structure Qb (K:PySem.W.Frag) (C:Addr):Prop where
 cl:Cls K C
 n_bits:Bv K C "bits"
 n_counts:Bv K C "counts"
 n_length:Bv K C "length"
 n_kept_table:Bv K C "kept_table"
 n_often_least:Bv K C "often_least"
structure Qa (K:PySem.W.Frag) (C:Addr):Prop where
 cl:Cls K C
 n_knots:Bv K C "knots"
 n_pairs:Bv K C "pairs"
 n_marks:Bv K C "marks"
structure Txt (K:PySem.W.Frag) (mg:Str->Option Value) (a_ONES_OF_FOUR:Addr) (a_SIGNS_OF_FOUR:Addr):Prop where
 g_ONES_OF_FOUR:mg "ONES_OF_FOUR"=some (.ref a_ONES_OF_FOUR)
 q_ONES_OF_FOUR:∀ H,SqT K H a_ONES_OF_FOUR (Sx.map fun n:Nat=>V.int n)
 g_SIGNS_OF_FOUR:mg "SIGNS_OF_FOUR"=some (.ref a_SIGNS_OF_FOUR)
 q_SIGNS_OF_FOUR:∀ H,SqT K H a_SIGNS_OF_FOUR (aP)
 g_WORD_BITS:∃ t,mg "WORD_BITS"=some (.int 32 t)
 g_MOST_BITS:∃ t,mg "MOST_BITS"=some (.int 20000 t)
 g_BLOCK_WORDS:∃ t,mg "BLOCK_WORDS"=some (.int 8 t)
 g_BLOCK_BITS:∃ t,mg "BLOCK_BITS"=some (.int 256 t)
 g_FULL_WORD:∃ t,mg "FULL_WORD"=some (.int 4294967295 t)
 g_MOST_SIGNS:∃ t,mg "MOST_SIGNS"=some (.int 8192 t)
 g_STRETCH_BITS:∃ t,mg "STRETCH_BITS"=some (.int 256 t)
 g_MOST_KNOTS:∃ t,mg "MOST_KNOTS"=some (.int 4000 t)
 g_MARK_STEP:∃ t,mg "MARK_STEP"=some (.int 16 t)
 n_range:mg "range"=none
 n_len:mg "len"=none
 n_int:mg "int"=none
 n_bool:mg "bool"=none
 n_str:mg "str"=none
 n_isinstance:mg "isinstance"=none
 n_list:mg "list"=none
 n_tuple:mg "tuple"=none
 n_dict:mg "dict"=none
 n_enumerate:mg "enumerate"=none
 n_zip:mg "zip"=none
 n_sum:mg "sum"=none
 n_abs:mg "abs"=none
 n_max:mg "max"=none
 n_min:mg "min"=none
 n_reversed:mg "reversed"=none
section
variable {P:Program} {w:World} {K:PySem.W.Frag} {mg:Str->Option Value} {base:Heap} {a_ONES_OF_FOUR a_SIGNS_OF_FOUR:Addr} {C_Bits C_Counts C_Pairs C_Counted:Addr}
def Ij:Sp:=fun vs H Q _=>∃ i:Int,vs=[.int i]/\Q (.bl true) H
theorem bE {f:Addr}{fd:FuncData}(F:Fun K "is_whole" "is_whole" J1 f fd)(T:Txt K mg a_ONES_OF_FOUR a_SIGNS_OF_FOUR):Ax P w K mg base CX0 1 f fd ["thing"] Ij:=by
 refine F.ok aG (fun vs H Q E h=>?_) (fun cdv A outer s H vs Q E hr h=>?_)
 ·obtain ⟨i,rfl,_⟩:=h
  rfl
 ·obtain ⟨i,rfl,q⟩:=h
  refine ⟨_,(Ae (Am (dZ (Av Gg (by rfl) T.n_isinstance Fg (Af (pv 0) (Af (Nh (v:=.ty "int") rfl T.n_int jI rfl) Aa rfl) rfl)) (S8 (jK (Av Gg (by rfl) T.n_isinstance Fg (Af (pv 0) (Af (Nh (v:=.ty "bool") rfl T.n_bool uO rfl) Aa rfl) rfl))))))),?_⟩
  k_is
  refine ⟨_,_,_,_,rfl,.int _,Zy,?_⟩
  k_is
  refine ⟨_,_,_,_,rfl,.int _,Vn,?_⟩
  k_is
  exact q
def Ih:Sp:=fun vs H Q _=>∃ x lo hi:Int,vs=[.int x,.int lo,.int hi]/\lo<=x/\x<=hi/\Q (.bl true) H
theorem X4 {f:Addr}{fd:FuncData}(F:Fun K "is_within" "is_within" Hw f fd)(T:Txt K mg a_ONES_OF_FOUR a_SIGNS_OF_FOUR)(c_is_whole:Cal P w K mg base "is_whole" 1 ["thing"] Ij):Ax P w K mg base CX0 2 f fd ["thing","low","high"] Ih:=by
 refine F.ok Vc (fun vs H Q E h=>?_) (fun cdv A outer s H vs Q E hr h=>?_)
 ·obtain ⟨x,lo,hi,rfl,_⟩:=h
  rfl
 ·obtain ⟨x,lo,hi,rfl,h1,h2,q⟩:=h
  refine ⟨_,(Ae (Am (dZ (Bb c_is_whole (hr.mono (by decide:1<=_)) (Af (pv 0) Aa rfl)) (S8 (aV Uj Uj (pv 1) (pv 0) (pv 2)))))),?_⟩
  k_is
  refine ⟨x,rfl,?_⟩
  k_is
  refine B6 (fun _=>?_) (fun h=>absurd h1 h)
  k_is
  rw [decide_eq_true h2]
  exact q
def Xp:Sp:=fun vs H Q _=>∃ b:Bool,vs=[.int (b.toNat:Nat)]/\Q .non H
theorem Xe {f : Addr}{fd : FuncData}(F : Fun K "check_bit" "check_bit" Ib f fd)(T : Txt K mg a_ONES_OF_FOUR a_SIGNS_OF_FOUR)(c_is_within : Cal P w K mg base "is_within" 2 ["thing", "low", "high"] Ih) : Ax P w K mg base CX0 3 f fd ["bit"] Xp := by
  refine F.ok Y1 (fun vs H Q E h => ?_) (fun cdv A outer s H vs Q E hr h => ?_)
  · obtain ⟨b, rfl, _⟩ := h
    rfl
  · obtain ⟨b, rfl, q⟩ := h
    refine ⟨_, (Ae (B4 (Hd (Dl (Bb c_is_within (hr.mono (by decide : 2 <= _)) (Af (pv 0) (Af Ag (Af Ag Aa rfl) rfl) rfl)))) (Ae Cw)
      A9)), ?_⟩
    k_is
    refine ⟨_, 0, 1, rfl, by omega, by cases b <;> decide, ?_⟩
    k_is
    exact q
def Gj:Sp:=fun vs H Q _=>∃ n g:Int,vs=[.int n,.int g]/\0<=n/\n<=g/\Q .non H
theorem Tf {f : Addr}{fd : FuncData}(F : Fun K "check_place" "check_place" F2 f fd)(T : Txt K mg a_ONES_OF_FOUR a_SIGNS_OF_FOUR)(c_is_within : Cal P w K mg base "is_within" 2 ["thing", "low", "high"] Ih) : Ax P w K mg base CX0 3 f fd ["place", "greatest"] Gj := by
  refine F.ok Rg (fun vs H Q E h => ?_) (fun cdv A outer s H vs Q E hr h => ?_)
  · obtain ⟨n, g, rfl, _⟩ := h
    rfl
  · obtain ⟨n, g, rfl, h0, h1, q⟩ := h
    refine ⟨_, (Ae (B4 (Hd (Dl (Bb c_is_within (hr.mono (by decide : 2 <= _)) (Af (pv 0) (Af Ag (Af (pv 1) Aa rfl) rfl) rfl)))) (Ae Cw)
      A9)), ?_⟩
    k_is
    refine ⟨n, 0, g, rfl, h0, h1, ?_⟩
    k_is
    exact q
def eB:Sp:=fun vs H Q _=>∃ i j g:Int,vs=[.int i,.int j,.int g]/\0<=i/\i<=j/\j<=g/\Q .non H
theorem Oi {f : Addr}{fd : FuncData}(F : Fun K "check_stretch" "check_stretch" Ex f fd)(T : Txt K mg a_ONES_OF_FOUR a_SIGNS_OF_FOUR)(c_check_place : Cal P w K mg base "check_place" 3 ["place", "greatest"] Gj) : Ax P w K mg base CX0 4 f fd ["low", "high", "greatest"] eB := by
  refine F.ok Of (fun vs H Q E h => ?_) (fun cdv A outer s H vs Q E hr h => ?_)
  · obtain ⟨i, j, g, rfl, _⟩ := h
    rfl
  · obtain ⟨i, j, g, rfl, h0, h1, h2, q⟩ := h
    refine ⟨_, (Ab (Bi (Bb c_check_place (hr.mono (by decide : 3 <= _)) (Af (pv 0) (Af (pv 2) Aa rfl) rfl)))
      (Ab (Bi (Bb c_check_place (hr.mono (by decide : 3 <= _)) (Af (pv 1) (Af (pv 2) Aa rfl) rfl)))
      (Ae (B4 (As Ir (pv 0) (pv 1) (Aw _)) (Ae Cw)
      A9)))), ?_⟩
    k_is
    refine ⟨i, g, rfl, h0, by omega, ?_⟩
    k_is
    refine ⟨j, g, rfl, by omega, h2, ?_⟩
    k_is
    refine B6 (fun h => absurd h (by omega)) (fun _ => ?_)
    k_is
    exact q
def Mt:Sp:=fun vs H Q _=>∃ n g:Int,vs=[.int n,.int g]/\0<=n/\n<g/\Q .non H
theorem Tr {f : Addr}{fd : FuncData}(F : Fun K "check_knot" "check_knot" G1 f fd)(T : Txt K mg a_ONES_OF_FOUR a_SIGNS_OF_FOUR)(c_is_within : Cal P w K mg base "is_within" 2 ["thing", "low", "high"] Ih) : Ax P w K mg base CX0 3 f fd ["k", "many_knots"] Mt := by
  refine F.ok Tk (fun vs H Q E h => ?_) (fun cdv A outer s H vs Q E hr h => ?_)
  · obtain ⟨n, g, rfl, _⟩ := h
    rfl
  · obtain ⟨n, g, rfl, h0, h1, q⟩ := h
    refine ⟨_, (Ae (B4 (Hd (Dl (Bb c_is_within (hr.mono (by decide : 2 <= _)) (Af (pv 0) (Af Ag (Af (Aj Bn (pv 1) Ag) Aa rfl) rfl) rfl)))) (Ae Cw)
      A9)), ?_⟩
    k_is
    refine ⟨n, 0, g - 1, rfl, h0, by omega, ?_⟩
    k_is
    exact q
def Sj:Sp:=fun vs H Q _=>∃ n:Nat,vs=[.int n]/\Q (.int (pc n)) H
theorem dP {f:Addr}{fd:FuncData}(F:Fun K "ones_in" "ones_in" Lp f fd)(T:Txt K mg a_ONES_OF_FOUR a_SIGNS_OF_FOUR):Ax P w K mg base CX0 1 f fd ["word"] Sj:=by
 refine F.ok J4 (fun vs H Q E h=>?_) (fun cdv A outer s H vs Q E hr h=>?_)
 ·obtain ⟨n,rfl,_⟩:=h
  rfl
 ·obtain ⟨n,rfl,q⟩:=h
  refine ⟨_,(Ab (An (i:=1) J4.nd rfl (Or.inl rfl) Ag)
   (Ab (Gb PassesOwn.never (As Ir (pv 0) Ag (Aw _))
   (Ab (Ha (i:=1) J4.nd rfl (Or.inl rfl) (Ck Ey (P3 (v:=.ref _) rfl T.g_ONES_OF_FOUR rfl) (Aj Mj (pv 0) Ag) (fun _ _=>rfl)) J6)
   (Ae (Ha (i:=0) J4.nd rfl (Or.inl rfl) Ag eS))))
   (Ae (Am (pv 1))))),?_⟩
  k_is
  refine Ge (fun σ H'=>∃ m o:Nat,σ=[some (.int m),some (.int o)]/\pc n=o+pc m/\H'=H) (fun σ _=>match σ with | some (.int m)::_=>m.toNat | _=>0) ⟨n,0,rfl,by simp,rfl⟩ ?_
  rintro k σ H' ⟨m,o,rfl,e,rfl⟩ hk
  k_is
  refine B6 (fun hm=>?_) (fun hm=>?_)
  ·refine Lb ?_
   k_is
   refine Hh (T.q_ONES_OF_FOUR _) (v:=.int (pc (m%16))) ?_ ?_
   ·rw [fR]
    exact eT _ (Nat.mod_lt _ (by decide))
   ·k_is
    refine ⟨⟨m/16,o+pc (m%16),?_,?_,rfl⟩,?_⟩
    ·show [some (V.int ((m:Int)/2 ^ (4:Int).toNat)),some (V.int ((o:Int)+(pc (m%16):Int)))]=_
     rw [qM]
     rfl
    ·rw [e,yL m]
     omega
    ·show ((m:Int)/2 ^ (4:Int).toNat).toNat<k
     rw [qM,<- hk]
     show m/16<m
     omega
  ·k_is
   have:m=0:=by omega
   subst this
   rw [Pz] at e
   show Q (.int (o:Int)) H'
   rw [show o=pc n by omega]
   exact q
def cW:Sp:=fun vs H Q _=>∃ r k p:Nat,vs=[.int r,.int k]/\(aS r)[k]?=some p/\∀ H',Al H H'->Q (.int p) H'
theorem Se {f:Addr}{fd:FuncData}(F:Fun K "nth_of_four" "nth_of_four" Eo f fd)(T:Txt K mg a_ONES_OF_FOUR a_SIGNS_OF_FOUR):Ax P w K mg base CX0 1 f fd ["four","nth"] cW:=by
 refine F.ok K8 (fun vs H Q E h=>?_) (fun cdv A outer s H vs Q E hr h=>?_)
 ·obtain ⟨r,k,p,rfl,_⟩:=h
  rfl
 ·obtain ⟨r,k,p,rfl,hp,q⟩:=h
  refine ⟨_,(Ab (Ld (i:=2) rfl Os K8.nd rfl rfl (Jb rfl T.n_range (Af Ag Aa rfl)) (fun _ _ _ _=>fV (As Fm (Aj Mj (Aj cR (pv 1) (pv 0)) Ag) Ag (Aw _))) (fun _ _ _ _=>(pv 0)))
   (Ae (Am (Ck Ec (pv 2) (pv 1) (fun _ _=>rfl))))),?_⟩
  k_is
  refine ⟨4,rfl,by decide,by decide,?_⟩
  refine aK (fun i=>((List.range i).filter fun p=>decide (r/2 ^ p%2=1)).map fun p:Nat=>V.int (p:Int)) rfl (fun i hi=>?_) (fun i H1 R A hi sm kR kA=>?_) (fun D H1 hD sm hl=>?_)
  ·have h4:i<4:=hi
   rw [List.length_map]
   exact Nat.lt_of_le_of_lt (Nat.le_trans (List.length_filter_le _ _) (Nat.le_of_eq List.length_range)) (D5 (by omega))
  ·k_is
   refine gE (by omega) ?_
   k_is
   have e1:(r:Int)/2 ^ (0+(i:Int)).toNat=((r/2 ^ i:Nat):Int):=by
    rw [show (0+(i:Int)).toNat=i by omega]
    exact (Int.natCast_ediv r (2 ^ i)).symm
   rw [e1,xL]
   have e2:((List.range (i+1)).filter fun p=>decide (r/2 ^ p%2=1))=((List.range i).filter fun p=>decide (r/2 ^ p%2=1))++if r/2 ^ i%2=1 then [i] else []:=by
    rw [List.range_succ,List.filter_append]
    congr 1
    by_cases h:r/2 ^ i%2=1
    ·rw [if_pos h]
     simp [h]
    ·rw [if_neg h]
     simp [h]
   refine B6 (fun hb=>?_) (fun hb=>?_)
   ·have hb:r/2 ^ i%2=1:=by
     have:=V.int.inj hb
     omega
    k_is
    refine kA _ _ ?_ (Al.refl _)
    rw [e2,if_pos hb,List.map_append,show (0+(i:Int))=(i:Int) by omega]
    rfl
   ·have hb:¬ r/2 ^ i%2=1:=by
     intro z
     exact hb (by rw [z];rfl)
    refine kR ?_ _ (Al.refl _)
    rw [e2,if_neg hb,List.append_nil]
  ·k_is
   refine Gs (SqL.of hl) (v:=.int p) ?_ (q _ sm)
   refine B7 ?_
   rw [List.getElem?_map]
   show Option.map _ ((aS r)[k]?)=_
   rw [hp]
   rfl
def jT:Sp:=fun vs H Q _=>∃ n k:Nat,vs=[.int n,.int k]/\∀ H',Al H H'->Q (wA (nth n k)) H'
theorem eM {f : Addr}{fd : FuncData}(F : Fun K "nth_one" "nth_one" Lk f fd)(T : Txt K mg a_ONES_OF_FOUR a_SIGNS_OF_FOUR)(c_nth_of_four : Cal P w K mg base "nth_of_four" 1 ["four", "nth"] cW) : Ax P w K mg base CX0 2 f fd ["word", "nth"] jT := by
  refine F.ok F0 (fun vs H Q E h => ?_) (fun cdv A outer s H vs Q E hr h => ?_)
  · obtain ⟨n, k, rfl, _⟩ := h
    rfl
  · obtain ⟨n, k, rfl, q⟩ := h
    refine ⟨_, (Ab (B4 (As L7 (pv 1) Ag (Aw _)) (Ae (Am E6))
      A9)
      (Ab (An (i := 2) F0.nd rfl (Or.inl rfl) Ag)
      (Ab (Gb PassesOwn.never (As Ir (pv 0) Ag (Aw _))
      (Ab (An (i := 3) F0.nd rfl (Or.inl rfl) (Ck Ey (P3 (v := .ref _) rfl T.g_ONES_OF_FOUR rfl) (Aj Mj (pv 0) Ag) (fun _ _ => rfl)))
      (Ab (B4 (As L7 (pv 1) (pv 3) (Aw _)) (Ae (Am (Aj Bd (pv 2) (Bb c_nth_of_four (hr.mono (by decide : 1 <= _)) (Af (Aj Mj (pv 0) Ag) (Af (pv 1) Aa rfl) rfl)))))
      A9)
      (Ab (Ha (i := 1) F0.nd rfl (Or.inl rfl) (pv 3) lR)
      (Ab (Ha (i := 0) F0.nd rfl (Or.inl rfl) Ag eS)
      (Ae (Ha (i := 2) F0.nd rfl (Or.inl rfl) Ag J6)))))))
      (Ae (Am E6))))), ?_⟩
    k_is
    refine B6 (fun hb => absurd hb (by omega)) (fun _ => ?_)
    k_is
    refine Ge (fun σ H' => ∃ (m j low : Nat) (v : Option V), σ = [some (.int m), some (.int j), some (.int low), v]/\nth n k = (nth m j).map (· + low)/\H' = H) (fun σ _ => match σ with | some (.int m) :: _ => m.toNat | _ => 0) ⟨n, k, 0, none, rfl, by simp, rfl⟩ ?_
    rintro μ σ H' ⟨m, j, low, v, rfl, e, rfl⟩ hk
    k_is
    refine B6 (fun hm => ?_) (fun hm => ?_)
    · refine Lb ?_
      k_is
      refine Hh (T.q_ONES_OF_FOUR _) (v := .int (pc (m % 16))) ?_ ?_
      · rw [fR]
        exact eT _ (Nat.mod_lt _ (by decide))
      · k_is
        have e16 := vL m j
        refine B6 (fun hj => ?_) (fun hj => ?_)
        · have hj : j < pc (m % 16) := by omega
          k_is
          rw [if_pos hj] at e16
          rw [fR]
          obtain ⟨p, hp⟩ : ∃ p, (aS (m % 16))[j]? = some p := by
            have : j < (aS (m % 16)).length := by rw [qO _ (Nat.mod_lt _ (by decide))]; exact hj
            exact ⟨_, List.getElem?_eq_getElem this⟩
          refine ⟨m % 16, j, p, rfl, hp, fun H1 s1 => ?_⟩
          k_is
          have := q H1 s1
          rw [e, e16, hp] at this
          rw [show (low : Int) + (p : Int) = ((p + low : Nat) : Int) by omega]
          exact this
        · have hj : ¬ j < pc (m % 16) := by omega
          k_is
          rw [if_neg hj] at e16
          refine ⟨⟨m / 16, j - pc (m % 16), low + 4, some (.int (pc (m % 16))), ?_, ?_, rfl⟩, ?_⟩
          · show [some (V.int ((m : Int) / 2 ^ (4 : Int).toNat)), some (V.int ((j : Int) - (pc (m % 16) : Int))), some (V.int ((low : Int) + 4)), some (V.int (pc (m % 16)))] = _
            rw [qM, show (j : Int) - (pc (m % 16) : Int) = ((j - pc (m % 16) : Nat) : Int) by omega]
            rfl
          · rw [e, e16, Option.map_map]
            congr 1
            funext x
            show x + 4 + low = x + (low + 4)
            omega
          · show ((m : Int) / 2 ^ (4 : Int).toNat).toNat < μ
            rw [qM, <- hk]
            show m / 16 < m
            omega
    · k_is
      have : m = 0 := by omega
      subst this
      rw [R7] at e
      have := q H' (Al.refl _)
      rw [e] at this
      exact this
def rB (z:Str):Bool:=if z.length>20000 then false else decide (N5 z 48+N5 z 49=z.length)
def Vh:Sp:=fun vs H Q _=>∃ z:Str,vs=[.str z]/\z.length<=sizeLine/\Q (.bl (rB z)) H
theorem gQ {f : Addr}{fd : FuncData}(F : Fun K "is_row" "is_row" Nx f fd)(T : Txt K mg a_ONES_OF_FOUR a_SIGNS_OF_FOUR) : Ax P w K mg base CX0 1 f fd ["thing"] Vh := by
  refine F.ok iO (fun vs H Q E h => ?_) (fun cdv A outer s H vs Q E hr h => ?_)
  · obtain ⟨z, rfl, _⟩ := h
    rfl
  · obtain ⟨z, rfl, hz, q⟩ := h
    refine ⟨_, (Ab (B4 (PW.pt (O1 (Hd (Dl (Av Gg (by rfl) T.n_isinstance Fg (Af (pv 0) (Af (Nh (v := .ty "str") rfl T.n_str sJ rfl) Aa rfl) rfl)))) (Oc (As Ir (Av Cz (by rfl) T.n_len Ef (Af (pv 0) Aa rfl)) (Ba rfl T.g_MOST_BITS) (Aw _))))) (Ae (Am T7))
      A9)
      (Ae (Am (G5 Fm (Aj Bd (Eg PySem.F.plainAttrs_str PySem.F.slot_str_count PySem.F.type_str_count Rx (pv 0) (Af Fq Aa rfl)) (Eg PySem.F.plainAttrs_str PySem.F.slot_str_count PySem.F.type_str_count Rx (pv 0) (Af Fq Aa rfl))) (Av Cz (by rfl) T.n_len Ef (Af (pv 0) Aa rfl)) (Aw _))))), ?_⟩
    k_is
    refine ⟨_, _, _, _, rfl, .str _, O2, ?_⟩
    k_is
    refine ⟨z, rfl, hz, ?_⟩
    k_is
    unfold rB at q
    refine B6 (fun hb => ?_) (fun hb => ?_)
    · k_is
      rw [if_pos (by omega)] at q
      exact q
    · k_is
      rw [if_neg (by omega)] at q
      refine ⟨rfl, ?_⟩
      k_is
      refine ⟨z, 48, rfl, rfl, ?_⟩
      k_is
      refine ⟨rfl, ?_⟩
      k_is
      refine ⟨z, 49, rfl, rfl, ?_⟩
      k_is
      refine ⟨z, rfl, hz, ?_⟩
      k_is
      have e : decide (V.int ((N5 z 48 : Int) + (N5 z 49 : Int)) = V.int (z.length : Int)) = decide (N5 z 48 + N5 z 49 = z.length) := by
        refine decide_eq_decide.mpr ⟨fun h => ?_, fun h => ?_⟩
        · have := V.int.inj h
          omega
        · rw [<- h]
          congr 1
      rw [e]
      exact q
def eL:Sp:=fun vs H Q _=>∃ l:List Bool,vs=[.str (Au l)]/\0<l.length/\l.length<=32/\Q (.int (val l:Nat)) H
theorem dN {f:Addr}{fd:FuncData}(F:Fun K "word_of" "word_of" Li f fd)(T:Txt K mg a_ONES_OF_FOUR a_SIGNS_OF_FOUR):Ax P w K mg base CX0 1 f fd ["signs"] eL:=by
 refine F.ok dB (fun vs H Q E h=>?_) (fun cdv A outer s H vs Q E hr h=>?_)
 ·obtain ⟨l,rfl,_⟩:=h
  rfl
 ·obtain ⟨l,rfl,h0,h1,q⟩:=h
  refine ⟨_,(Ae (Am (Dk Tw (by rfl) T.n_int jI (Af (qZ (pv 0)) (Af Ag Aa rfl) rfl)))),?_⟩
  k_is
  refine ⟨_,rfl,?_,?_⟩
  ·rw [A7]
   exact Nat.le_of_lt (D5 (by omega))
  k_is
  refine ⟨_,rfl,?_,?_,?_,?_⟩
  ·rw [K6,A7]
   omega
  ·intro c hc
   have:c∈(Au l).cps.toList:=by
    have h:c∈(Au l).cps.toList.reverse.toArray.toList:=hc
    simpa using h
   exact dS l c this
  ·intro z
   have e:(Tu (Au l)).cps.toList.length=0:=by rw [z];rfl
   have e2:(Tu (Au l)).cps.toList.length=(Tu (Au l)).length:=by simp [Str.length]
   rw [e2,K6,A7] at e
   omega
  ·rw [vG]
   exact q
def Vm (K:PySem.W.Frag):Sp:=fun vs H Q _=>∃ l:List Bool,vs=[.str (Au l)]/\l.length<=20000/\∀ p H',Al H H'->H p=none->H' p=some (.tup (nV (wordsOf l)))->Q (.ref p) H'
theorem aB {f:Addr}{fd:FuncData}(F:Fun K "words_of" "words_of" Hc f fd)(T:Txt K mg a_ONES_OF_FOUR a_SIGNS_OF_FOUR)(c_word_of:Cal P w K mg base "word_of" 1 ["signs"] eL):Ax P w K mg base CX0 2 f fd ["text"] (Vm K):=by
 refine F.ok Zs (fun vs H Q E h=>?_) (fun cdv A outer s H vs Q E hr h=>?_)
 ·obtain ⟨l,rfl,_⟩:=h
  rfl
 ·obtain ⟨l,rfl,hl,q⟩:=h
  have hz:(Au l).length<=sizeLine:=by rw [A7];exact Nat.le_of_lt (Ao (by omega))
  refine ⟨_,(Ae (Am (Dk Ig (by rfl) T.n_tuple Vl (Af (Nq rfl To (Ov rfl T.n_range (Af Ag (Af (Av Cz (by rfl) T.n_len Ef (Af (pv 0) Aa rfl)) (Af (Ba rfl T.g_WORD_BITS) Aa rfl) rfl) rfl)) (fun _ _ _ _=>Db) (fun _ _ _ _=>(Bb c_word_of (hr.mono (by decide:1<=_)) (Af (Cs Rb (pv 1) (Bw (pv 0)) (Bw (Aj Bd (pv 0) (Ba rfl T.g_WORD_BITS)))) Aa rfl)))) Aa rfl)))),?_⟩
  k_is
  refine ⟨_,rfl,hz,?_⟩
  rw [A7]
  k_is
  refine ⟨0,l.length,32,rfl,by omega,?_⟩
  have hn:Ca 0 (l.length:Int) 32=Bp l.length:=Rs l.length 32 (by decide)
  rw [hn]
  refine bQ (fun i=>nV ((List.range i).map fun j=>val (A5 l j))) rfl (fun i hi=>?_) (fun i H1 R A hi sm kR kA=>?_) (fun D H1 hD sm hl'=>?_)
  ·have:=bI hi
   rw [List.length_map,List.length_map,List.length_range]
   exact Ao (by omega)
  ·k_is
   refine rP hz ?_
   have hi':=bI hi
   rw [show (0+(i:Int)*32)=((32*i:Nat):Int) by omega,show (((32*i:Nat):Int)+32)=((32*i+32:Nat):Int) by omega,Il]
   k_is
   refine ⟨A5 l i,?_,?_,?_,?_⟩
   ·unfold A5
    rw [show 32*i+32-32*i=32 by omega]
    rfl
   ·unfold A5
    rw [List.length_take,List.length_drop]
    omega
   ·unfold A5
    rw [List.length_take]
    omega
   ·refine kA _ _ ?_ (Al.refl _)
    exact K7 _ _
  ·k_is
   refine ⟨D,_,rfl,.inl ⟨SqL.of hl',fun p hp=>?_⟩⟩
   exact q p _ (sm.trans (Ah hp)) (sm.free hp) Ac
theorem mU:∀ r:Nat,r<16->aP[r]?=some (.str (Au (eF r))):=by
 intro r hr
 have:r=0\/r=1\/r=2\/r=3\/r=4\/r=5\/r=6\/r=7\/r=8\/r=9\/r=10\/r=11\/r=12\/r=13\/r=14\/r=15:=by omega
 rcases this with rfl | rfl | rfl | rfl | rfl | rfl | rfl | rfl | rfl | rfl | rfl | rfl | rfl | rfl | rfl | rfl<;>rfl
theorem kL (ls:List (List Bool)):Txt.join ("":Str) (ls.map Au)=Au ls.flatten:=by
 refine Hv ?_
 rw [Rl,Cq]
 induction ls with
 | nil=>rfl
 | cons a r ih =>
  rw [List.map_cons,List.map_cons,List.flatten_cons,ih,List.flatten_cons,List.map_append,Cq]
theorem nM (ls:List (List Bool)):((ls.map Au).map (·.length)).sum=ls.flatten.length:=by
 induction ls with
 | nil=>rfl
 | cons a r ih=>rw [List.map_cons,List.map_cons,List.sum_cons,ih,List.flatten_cons,List.length_append,A7]
theorem Zr {K:PySem.W.Frag}{H1:Hp}{Q:VK}{p:Addr}{ls:List (List Bool)}(hl:H1 p=some (.lst (ls.map fun l=>V.str (Au l))))(hz:ls.flatten.length<=100000)(q:Q (.str (Au ls.flatten)) H1):jS K (.str "") [.ref p] H1 Q:=by
 refine ⟨"",p,ls.map Au,rfl,rfl,SqL.of ?_,?_,?_⟩
 ·rw [hl,List.map_map]
  rfl
 ·rw [nM]
  show ls.flatten.length+_*0<=_
  omega
 ·rw [kL]
  exact q
theorem fS (n k:Nat){j:Int}(h:j=(k:Int)):(n:Int)/2 ^ j.toNat=((n/2 ^ k:Nat):Int):=by
 subst h
 rw [Int.toNat_natCast]
 exact (Int.natCast_ediv n (2 ^ k)).symm
def N1 (K:PySem.W.Frag):Sp:=fun vs H Q _=>∃ n:Nat,vs=[.int n]/\∀ H',Al H H'->Q (.str (Au (Nv n))) H'
theorem bA {f:Addr}{fd:FuncData}(F:Fun K "signs_of" "signs_of" Hg f fd)(T:Txt K mg a_ONES_OF_FOUR a_SIGNS_OF_FOUR):Ax P w K mg base CX0 1 f fd ["word"] (N1 K):=by
 refine F.ok Zm (fun vs H Q E h=>?_) (fun cdv A outer s H vs Q E hr h=>?_)
 ·obtain ⟨n,rfl,_⟩:=h
  rfl
 ·obtain ⟨n,rfl,q⟩:=h
  refine ⟨_,(Ae (Am (Eg PySem.F.plainAttrs_str PySem.F.slot_str_join PySem.F.type_str_join Vq Fq (Af (Nq rfl Tm (Ov rfl T.n_range (Af Ag (Af (Ba rfl T.g_WORD_BITS) (Af Ag Aa rfl) rfl) rfl)) (fun _ _ _ _=>Db) (fun _ _ _ _=>(Ck (pB K) (P3 (v:=.ref _) rfl T.g_SIGNS_OF_FOUR rfl) (Aj Mj (Aj cR (pv 1) (pv 0)) Ag) (fun _ _=>rfl)))) Aa rfl)))),?_⟩
  k_is
  refine ⟨rfl,?_⟩
  k_is
  refine ⟨0,32,4,rfl,by omega,?_⟩
  refine bQ (fun i=>((List.range i).map fun j=>eF (n/2 ^ (4*j)%16)).map fun l=>V.str (Au l)) rfl (fun i hi=>?_) (fun i H1 R A hi sm kR kA=>?_) (fun D H1 hD sm hl=>?_)
  ·have hi:i<8:=hi
   rw [List.length_map,List.length_map,List.length_range]
   exact D5 (by omega)
  ·have hi:i<8:=hi
   k_is
   refine gE (by omega) ?_
   k_is
   rw [fS n (4*i) (by omega),fR]
   refine Hh (T.q_SIGNS_OF_FOUR _) (B7 (mU _ (Nat.mod_lt _ (by decide)))) ?_
   refine kA _ _ ?_ (Al.refl _)
   rw [List.range_succ,List.map_append,List.map_append]
   rfl
  ·k_is
   have hl:H1 D=some (.lst (((List.range 8).map fun j=>eF (n/2 ^ (4*j)%16)).map fun l=>V.str (Au l))):=hl
   refine Zr hl ?_ ?_
   ·rw [Rf]
    unfold Nv
    rw [List.length_map,List.length_range]
    decide
   ·rw [Rf]
    exact q _ sm
def mV (l:List Bool)(t:Addr):List (Str×V):=[("length",.int (l.length:Nat)),("many_ones",.int (l.count true:Nat)),("kept_words",.ref t)]
def Ez (K:PySem.W.Frag)(C:Addr)(H:Hp)(a:Addr)(l:List Bool):Prop:=∃ dx t,H a=some (.ins C dx (mV l t))/\H t=some (.tup (nV (wordsOf l)))/\l.length<=20000
theorem He {K:PySem.W.Frag}{C x b:Addr}{H H':Hp}{l:List Bool}(s:SameBut x H H')(n:mS H x)(hne:b≠x)(h:Ez K C H b l):Ez K C H' b l:=by
 obtain ⟨dx,t,h1,h2,h3⟩:=h
 exact ⟨dx,t,s _ _ hne h1,s _ _ (fun e=>by subst e;exact (n _).1 (.inl h2)) h2,h3⟩
theorem Ez.same {K:PySem.W.Frag}{C b:Addr}{H H':Hp}{l:List Bool}(s:Al H H')(h:Ez K C H b l):Ez K C H' b l:=by
 obtain ⟨dx,t,h1,h2,h3⟩:=h
 exact ⟨dx,t,s _ _ h1,s _ _ h2,h3⟩
def Mb (K:PySem.W.Frag)(C:Addr):Sp:=fun vs H Q _=>∃ (x dx:Addr) (l:List Bool),vs=[.ref x,.str (Au l)]/\H x=some (.ins C dx [])/\l.length<=20000/\∀ H',SameBut x H H'->Ez K C H' x l->Q .non H'
theorem bZ {l:List Bool}(h:l.length<=20000):rB (Au l)=true:=by
 unfold rB
 rw [A7,if_neg (by omega)]
 exact decide_eq_true (Uc l).2
theorem Yt {f : Addr}{fd : FuncData}(F : Fun K "__init__" "Bits.__init__" Ht f fd)(T : Txt K mg a_ONES_OF_FOUR a_SIGNS_OF_FOUR)(Z : Qh K C_Bits)(c_is_row : Cal P w K mg base "is_row" 1 ["thing"] Vh)(c_words_of : Cal P w K mg base "words_of" 2 ["text"] (Vm K)) :
    Ax P w K mg base CX0 3 f fd ["self", "text"] (Mb K C_Bits) := by
  refine F.ok X6 (fun vs H Q E h => ?_) (fun cdv A outer s H vs Q E hr h => ?_)
  · obtain ⟨x, dx, l, rfl, _⟩ := h
    rfl
  · obtain ⟨x, dx, l, rfl, hx, hl, q⟩ := h
    have hz : (Au l).length <= sizeLine := by rw [A7]; exact Nat.le_of_lt (Ao (by omega))
    refine ⟨_, (Ab (B4 (Hd (Dl (Bb c_is_row (hr.mono (by decide : 1 <= _)) (Af (pv 1) Aa rfl)))) (Ae Cw)
      A9)
      (Ab (Ft (pv 0) (Av Cz (by rfl) T.n_len Ef (Af (pv 1) Aa rfl)) rfl)
      (Ab (Ft (pv 0) (Eg PySem.F.plainAttrs_str PySem.F.slot_str_count PySem.F.type_str_count Rx (pv 1) (Af Fq Aa rfl)) rfl)
      (Ae (Ft (pv 0) (Bb c_words_of (hr.mono (by decide : 2 <= _)) (Af (pv 1) Aa rfl)) rfl))))), ?_⟩
    k_is
    refine ⟨_, rfl, hz, ?_⟩
    rw [bZ hl]
    k_is
    refine ⟨_, rfl, hz, ?_⟩
    rw [A7]
    k_is
    refine Ds hx Z.cl Z.n_length (by decide) ?_
    k_is
    refine ⟨rfl, ?_⟩
    k_is
    refine ⟨_, 49, rfl, rfl, ?_⟩
    rw [(Uc l).1]
    k_is
    refine Ds Ac Z.cl Z.n_many_ones (show 1 < 1000 by decide) ?_
    rw [Pu]
    k_is
    refine ⟨l, rfl, hl, fun t H' sm hf ht => ?_⟩
    k_is
    refine Ds (sm _ _ Ac) Z.cl Z.n_kept_words (show 2 < 1000 by decide) ?_
    k_is
    refine q _ ((Be.trans sm.but).trans Be) ⟨dx, t, Ac, ?_, hl⟩
    have hne : t ≠ x := fun e => by
      subst e
      rw [Ac] at hf
      cases hf
    rw [Ap hne]
    exact ht
def L9 (K:PySem.W.Frag)(C:Addr):Sp:=fun vs H Q _=>∃ (x:Addr) (l:List Bool),vs=[.ref x]/\Ez K C H x l/\Q (.int (l.length:Nat)) H
theorem Yu {f:Addr}{fd:FuncData}(F:Fun K "size" "Bits.size" Hq f fd)(T:Txt K mg a_ONES_OF_FOUR a_SIGNS_OF_FOUR)(Z:Qh K C_Bits):Ax P w K mg base CX0 1 f fd ["self"] (L9 K C_Bits):=by
 refine F.ok Xc (fun vs H Q E h=>?_) (fun cdv A outer s H vs Q E hr h=>?_)
 ·obtain ⟨x,l,rfl,_⟩:=h
  rfl
 ·obtain ⟨x,l,rfl,⟨dx,t,hx,ht,hl⟩,q⟩:=h
  refine ⟨_,(Ae (Am (A0 (pv 0) rfl))),?_⟩
  k_is
  exact oG hx Z.cl Z.n_length rfl q
def Kx (K:PySem.W.Frag)(C:Addr):Sp:=fun vs H Q _=>∃ (x:Addr) (l:List Bool),vs=[.ref x]/\Ez K C H x l/\∀ t,H t=some (.tup (nV (wordsOf l)))->Q (.ref t) H
theorem Yo {f:Addr}{fd:FuncData}(F:Fun K "words" "Bits.words" G4 f fd)(T:Txt K mg a_ONES_OF_FOUR a_SIGNS_OF_FOUR)(Z:Qh K C_Bits):Ax P w K mg base CX0 1 f fd ["self"] (Kx K C_Bits):=by
 refine F.ok Tt (fun vs H Q E h=>?_) (fun cdv A outer s H vs Q E hr h=>?_)
 ·obtain ⟨x,l,rfl,_⟩:=h
  rfl
 ·obtain ⟨x,l,rfl,⟨dx,t,hx,ht,hl⟩,q⟩:=h
  refine ⟨_,(Ae (Am (A0 (pv 0) rfl))),?_⟩
  k_is
  exact oG hx Z.cl Z.n_kept_words rfl (q t ht)
def N9 (K:PySem.W.Frag)(C:Addr):Sp:=fun vs H Q _=>∃ (a:Addr) (l:List Bool) (low high:Nat),vs=[.ref a,.int low,.int high]/\Ez K C H a l/\low<=high/\high<=l.length/\∀ H',Al H H'->Q (.str (Au ((l.drop low).take (high-low)))) H'
theorem W7 {f : Addr}{fd : FuncData}(F : Fun K "stretch" "Bits.stretch" Dz f fd)(T : Txt K mg a_ONES_OF_FOUR a_SIGNS_OF_FOUR)(Z : Qh K C_Bits)(c_check_stretch : Cal P w K mg base "check_stretch" 4 ["low", "high", "greatest"] eB)(c_signs_of : Cal P w K mg base "signs_of" 1 ["word"] (N1 K)) :
    Ax P w K mg base CX0 5 f fd ["self", "low", "high"] (N9 K C_Bits) := by
  refine F.ok Df (fun vs H Q E h => ?_) (fun cdv A outer s H vs Q E hr h => ?_)
  · obtain ⟨a, l, low, high, rfl, _⟩ := h
    rfl
  · obtain ⟨a, l, low, high, rfl, ⟨dx, t, hx, ht, hl⟩, h1, h2, q1⟩ := h
    refine ⟨_, (Ab (Bi (Bb c_check_stretch (hr.mono (by decide : 4 <= _)) (Af (pv 1) (Af (pv 2) (Af (A0 (pv 0) rfl) Aa rfl) rfl) rfl)))
      (Ab (An (i := 3) Df.nd rfl (Or.inl rfl) (Aj Dc (pv 1) (Ba rfl T.g_WORD_BITS)))
      (Ab (An (i := 4) Df.nd rfl (Or.inl rfl) (Aj Dc (Aj Bn (Aj Bd (pv 2) (Ba rfl T.g_WORD_BITS)) Ag) (Ba rfl T.g_WORD_BITS)))
      (Ab (An (i := 5) Df.nd rfl (Or.inl rfl) (Eg PySem.F.plainAttrs_str PySem.F.slot_str_join PySem.F.type_str_join Vq Fq (Af (Nq rfl Mu (cG (Cs Y0 (A0 (pv 0) rfl) (Bw (pv 3)) (Bw (pv 4)))) (fun _ _ _ _ => Db) (fun _ _ _ _ => (Bb c_signs_of (hr.mono (by decide : 1 <= _)) (Af (pv 0) Aa rfl)))) Aa rfl)))
      (Ab (An (i := 6) Df.nd rfl (Or.inl rfl) (Aj Hb (pv 3) (Ba rfl T.g_WORD_BITS)))
      (Ae (Am (Cs Rb (pv 5) (Bw (Aj Bn (pv 1) (pv 6))) (Bw (Aj Bn (pv 2) (pv 6))))))))))), ?_⟩
    k_is
    refine ⟨a, C_Bits, dx, _, _, rfl, hx, Z.cl, Z.n_length, rfl, ?_⟩
    k_is
    refine ⟨low, high, _, rfl, by omega, by omega, by omega, ?_⟩
    k_is
    refine ⟨rfl, ?_⟩
    k_is
    refine ⟨a, C_Bits, dx, _, _, rfl, hx, Z.cl, Z.n_kept_words, rfl, ?_⟩
    k_is
    refine ⟨t, _, rfl, SqT.of ht, fun p2 H2 s2 hp2 => ?_⟩
    rw [show ((low : Int) / 32) = ((low / 32 : Nat) : Int) by omega, show ((high : Int) + 32 - 1) / 32 = (((high + 31) / 32 : Nat) : Int) by omega, Rc] at hp2
    have hW : (wordsOf l).length = Bp l.length := by unfold TW.wordsOf; rw [List.length_map, List.length_range]
    have e8 : ((nV (wordsOf l)).drop (low / 32)).take ((high + 31) / 32 - low / 32) = nV ((List.range ((high + 31) / 32 - low / 32)).map fun j => val (A5 l (low / 32 + j))) := by
      unfold nV
      have : min ((high + 31) / 32 - low / 32) (Bp l.length - low / 32) = (high + 31) / 32 - low / 32 := by unfold Bp; omega
      rw [<- List.map_drop, <- List.map_take, T6, this]
    rw [e8] at hp2
    refine ⟨p2, rfl, ⟨_, hp2⟩, ?_⟩
    generalize hm : (high + 31) / 32 - low / 32 = m at hp2
    refine kI hp2 (fun j => ((List.range j).map fun i => Nv (val (A5 l (low / 32 + i)))).map fun l => V.str (Au l)) rfl (fun j hj => ?_) (fun j z H3 R A hz s3 kR kA => ?_) (fun D H3 hD s3 hl3 => ?_)
    · rw [List.length_map, List.length_map, List.length_range] at hj
      rw [List.length_map, List.length_map, List.length_range]
      exact D5 (by omega)
    · have hj : j < m := by
        have := (List.getElem?_eq_some_iff.mp hz).1
        rwa [List.length_map, List.length_map, List.length_range] at this
      have hze : z = .int (val (A5 l (low / 32 + j)) : Nat) := by
        unfold nV at hz
        rw [List.getElem?_map, List.getElem?_map, List.getElem?_range hj] at hz
        exact (Option.some.inj hz).symm
      subst hze
      k_is
      refine ⟨_, rfl, fun H4 s4 => ?_⟩
      refine kA _ _ ?_ s4
      rw [List.range_succ, List.map_append, List.map_append]
      rfl
    · rw [List.length_map, List.length_map, List.length_range] at hl3
      have hfl : ((List.range m).map fun i => Nv (val (A5 l (low / 32 + i)))).flatten.length <= 100000 := by
        rw [P5, List.length_map, List.length_range]
        omega
      k_is
      refine Zr hl3 hfl ?_
      k_is
      refine rP ?_ ?_
      · rw [A7]
        exact Nat.le_of_lt (Ao hfl)
      rw [P5, show ((low : Int) - (low : Int) / 32 * 32) = ((low - 32 * (low / 32) : Nat) : Int) by omega, show ((high : Int) - (low : Int) / 32 * 32) = ((high - 32 * (low / 32) : Nat) : Int) by omega, Il,
        show high - 32 * (low / 32) - (low - 32 * (low / 32)) = high - low by omega, lG l (low / 32) m low (high - low) (by omega) (by omega) (by omega)]
      exact q1 _ (s2.trans s3)
def nN (K:PySem.W.Frag)(C:Addr):Sp:=fun vs H Q _=>∃ (a:Addr) (l:List Bool) (n:Nat),vs=[.ref a,.int n]/\Ez K C H a l/\n<l.length/\Q (.int ((l.getD n false).toNat:Nat)) H
theorem tW (l:List Bool)(i:Nat):Builtin.bitAnd (((val (A5 l (i/32))/2 ^ (i%32):Nat):Int)) 1=((l.getD i false).toNat:Nat):=by
 rw [xL,P4,Ks l _ (Nat.mod_lt _ (by decide)),show 32*(i/32)+i%32=i by omega]
theorem Yw {f : Addr}{fd : FuncData}(F : Fun K "bit" "Bits.bit" Jr f fd)(T : Txt K mg a_ONES_OF_FOUR a_SIGNS_OF_FOUR)(Z : Qh K C_Bits)(c_check_place : Cal P w K mg base "check_place" 3 ["place", "greatest"] Gj) :
    Ax P w K mg base CX0 4 f fd ["self", "place"] (nN K C_Bits) := by
  refine F.ok aZ (fun vs H Q E h => ?_) (fun cdv A outer s H vs Q E hr h => ?_)
  · obtain ⟨a, l, n, rfl, _⟩ := h
    rfl
  · obtain ⟨a, l, n, rfl, ⟨dx, t, hx, ht, hl⟩, hn, q1⟩ := h
    refine ⟨_, (Ab (Bi (Bb c_check_place (hr.mono (by decide : 3 <= _)) (Af (pv 1) (Af (Aj Bn (A0 (pv 0) rfl) Ag) Aa rfl) rfl)))
      (Ae (Am (Aj Mj (Aj cR (Ck Ey (A0 (pv 0) rfl) (Aj Dc (pv 1) (Ba rfl T.g_WORD_BITS)) (fun _ _ => rfl)) (Aj Ek (pv 1) (Ba rfl T.g_WORD_BITS))) Ag)))), ?_⟩
    k_is
    refine ⟨a, C_Bits, dx, _, _, rfl, hx, Z.cl, Z.n_length, rfl, ?_⟩
    k_is
    refine ⟨n, _, rfl, by omega, by omega, ?_⟩
    k_is
    refine ⟨a, C_Bits, dx, _, _, rfl, hx, Z.cl, Z.n_kept_words, rfl, ?_⟩
    k_is
    rw [show ((n : Int) / 32) = ((n / 32 : Nat) : Int) by omega]
    refine Hh (SqT.of ht) (Nm (by unfold Bp; omega)) ?_
    k_is
    refine gE (by omega) ?_
    k_is
    rw [fS _ (n % 32) (by omega), tW]
    exact q1
theorem Ts {f : Addr}{fd : FuncData}(F : Fun K "first_that" "first_that" Gu f fd)(T : Txt K mg a_ONES_OF_FOUR a_SIGNS_OF_FOUR) : Ax P w K mg base CX0 3 f fd ["low", "high", "holds"] (M3 P w K mg base 2) := by
  refine F.ok F7 (fun vs H Q E h => ?_) (fun cdv A outer s H vs Q E hr h => ?_)
  · obtain ⟨lo, hi, g, p, rfl, _⟩ := h
    rfl
  · obtain ⟨lo, hi, g, p, rfl, hle, hA, q⟩ := h
    refine ⟨_, (Ab (Gb PassesOwn.never (As L7 (pv 0) (pv 1) (Aw _))
      (Ab (An (i := 3) F7.nd rfl (Or.inl rfl) (Aj Dc (Aj Bd (pv 0) (pv 1)) Ag))
      (Ae (B4 (Dl (uI (k := 2) (hr.mono (by decide : 2 <= _)) (i := 2) rfl rfl (pv 3))) (Ae (An (i := 1) F7.nd rfl (Or.inl rfl) (pv 3)))
      (Ae (An (i := 0) F7.nd rfl (Or.inl rfl) (Aj Bd (pv 3) Ag)))))))
      (Ae (Am (pv 0)))), ?_⟩
    k_is
    refine Ge (fun σ H' => Al H H'/\∃ (x y : Int) (v : Option V), σ = [some (.int x), some (.int y), some (.ref g), v]/\lo <= x/\x <= y/\y <= hi/\(lo < x->p (x - 1) = false)/\(y < hi->p y = true)) (fun σ _ => match σ with | [some (.int x), some (.int y), _, _] => (y - x).toNat | _ => 0) ⟨Al.refl _, lo, hi, none, rfl, Int.le_refl _, hle, Int.le_refl _, fun z => absurd z (Int.lt_irrefl _), fun z => absurd z (Int.lt_irrefl _)⟩ ?_
    rintro μ σ H' ⟨sm, x, y, v, rfl, h1, h2, h3, h4, h5⟩ hμ
    k_is
    refine B6 (fun hw => ?_) (fun hw => ?_)
    · refine Lb ?_
      k_is
      refine ⟨g, _, p, rfl, hA.same sm, ?_⟩
      k_is
      refine ⟨_, rfl, Al.refl _, by constructor <;> omega, fun H2 s2 => ?_⟩
      k_is
      have hμ' : y - x = (μ : Int) := by
        have : (y - x).toNat = μ := hμ
        omega
      cases hp : p ((x + y) / 2) with
      | true =>
        k_is
        refine ⟨⟨sm.trans s2, x, (x + y) / 2, _, rfl, h1, by omega, by omega, h4, fun _ => hp⟩, ?_⟩
        show ((x + y) / 2 - x).toNat < μ
        omega
      | false =>
        k_is
        refine ⟨⟨sm.trans s2, (x + y) / 2 + 1, y, _, rfl, by omega, by omega, h3, fun _ => by rw [show (x + y) / 2 + 1 - 1 = (x + y) / 2 by omega]; exact hp, h5⟩, ?_⟩
        show (y - ((x + y) / 2 + 1)).toNat < μ
        omega
    · k_is
      obtain rfl : x = y := by omega
      exact q x H' h1 h3 h4 h5 sm
def kC:Sp:=fun vs H Q _=>∃ (a:Addr) (xs:List Nat),vs=[.ref a]/\H a=some (.lst (nV xs))/\xs.length<=1000/\∀ p H',Al H H'->H p=none->H' p=some (.lst (nV ((List.range (xs.length+1)).map fun i=>(xs.take i).sum)))->Q (.ref p) H'
theorem Pe {f:Addr}{fd:FuncData}(F:Fun K "running_sums" "running_sums" Fd f fd)(T:Txt K mg a_ONES_OF_FOUR a_SIGNS_OF_FOUR):Ax P w K mg base CX0 1 f fd ["numbers"] kC:=by
 refine F.ok Gm (fun vs H Q E h=>?_) (fun cdv A outer s H vs Q E hr h=>?_)
 ·obtain ⟨a,xs,rfl,_⟩:=h
  rfl
 ·obtain ⟨a,xs,rfl,ha,hn,q⟩:=h
  refine ⟨_,(Ab (An (i:=1) Gm.nd rfl (Or.inl rfl) (By (Af Ag Aa rfl)))
   (Ab (E4 PassesOwn.never rfl (Eb (pv 0)) (Bl (i:=2) Gm.nd rfl (Or.inl rfl))
   (Ae (Bi (Eg PySem.F.plainAttrs_list PySem.F.slot_list_append PySem.F.type_list_append Cb (pv 1) (Af (Aj Bd (Ck Ec (pv 1) (Gh Dy Ag) (fun _ _=>rfl)) (pv 2)) Aa rfl)))))
   (Ae (Am (pv 1))))),?_⟩
  k_is
  refine ⟨few (by simp),fun p hp=>?_⟩
  have t0:=Ah (o:=.lst [V.int 0]) hp
  k_is
  refine ⟨a,rfl,⟨_,SqL.of (t0 _ _ ha)⟩,?_⟩
  refine Kz (xs:=nV xs) (fun i σ H1=>(∃ v:Option V,σ=[some (.ref a),some (.ref p),v])/\H1 p=some (.lst (nV ((List.range (i+1)).map fun i=>(xs.take i).sum)))/\Al H H1) ⟨⟨_,rfl⟩,Ac,t0⟩ (fun i σ H1 _ h=>SqL.of (h.2.2 _ _ ha)) ?_ ?_
  ·rintro i x σ H1 hx ⟨⟨v,rfl⟩,hp1,s1⟩
   have hi:=Cy hx
   rw [show (nV xs).length=xs.length by unfold nV;rw [List.length_map]] at hi
   obtain rfl:x=.int (xs[i]:Nat):=by
    unfold nV at hx
    rw [List.getElem?_map,List.getElem?_eq_getElem hi] at hx
    exact (Option.some.inj hx).symm
   k_is
   refine ⟨.inl ⟨rfl,_,SqL.of hp1⟩,?_⟩
   k_is
   refine Gs (SqL.of hp1) (v:=.int ((xs.take i).sum:Nat)) ?_ ?_
   ·rw [K7]
    exact Z5 _ _
   k_is
   refine De hp1 ?_ ?_
   ·unfold nV
    rw [List.length_map,List.length_map,List.length_range]
    exact Ao (by omega)
   k_is
   refine ⟨⟨_,rfl⟩,?_,fun b u e=>?_⟩
   ·rw [Ac,K7 _ (i+1),List.take_add_one,List.getElem?_eq_getElem hi,List.sum_append]
    show some (HO.lst (_++[V.int (((xs.take i).sum:Nat)+(xs[i]:Nat):Int)]))=some (HO.lst (_++[V.int (((xs.take i).sum+[xs[i]].sum:Nat):Int)]))
    rw [List.sum_singleton,Int.natCast_add]
   ·rw [Ap (Ar e hp)]
    exact s1 _ _ e
  ·rintro σ H1 ⟨⟨v,rfl⟩,hp1,s1⟩
   rw [show (nV xs).length=xs.length by unfold nV;rw [List.length_map]] at hp1
   k_is
   exact q p H1 s1 hp hp1
def B1 (n:Nat):Nat:=(Bp n+7)/8
def Ho (l:List Bool):List Nat:=(List.range (B1 l.length+1)).map fun b=>cnt l (256*b)
def Y9 (K:PySem.W.Frag):Sp:=fun vs H Q _=>∃ (t:Addr) (l:List Bool),vs=[.ref t]/\H t=some (.tup (nV (wordsOf l)))/\l.length<=20000/\∀ p H',Al H H'->H p=none->H' p=some (.tup (nV (Ho l)))->Q (.ref p) H'
theorem bL (l:List Bool)(b:Nat):((wordsOf l).drop (8*b)).take 8=(List.range (min 8 (Bp l.length-8*b))).map fun i=>val (A5 l (8*b+i)):=by
 unfold TW.wordsOf
 refine List.ext_getElem? fun i=>?_
 rw [List.getElem?_take]
 by_cases h8:i<8
 ·rw [if_pos h8,List.getElem?_drop,List.getElem?_map,List.getElem?_map]
  by_cases hm:8*b+i<Bp l.length
  ·rw [List.getElem?_range hm,List.getElem?_range (by omega)]
   rfl
  ·rw [List.getElem?_eq_none (by rw [List.length_range];omega),List.getElem?_eq_none (by rw [List.length_range];omega)]
   rfl
 ·rw [if_neg h8,List.getElem?_eq_none (by rw [List.length_map,List.length_range];omega)]
def blk (l:List Bool)(i:Nat):List Nat:=(List.range (min 8 (Bp l.length-8*i))).map fun j=>val (A5 l (8*i+j))
def cV (l:List Bool)(i:Nat):Nat:=((List.range (min 8 (Bp l.length-8*i))).map fun m=>pc (val (A5 l (8*i+m)))).sum
theorem aM (l:List Bool):∀ i,(((List.range i).map (cV l)).sum)=cnt l (256*i)
 | 0=>by
  show 0=cnt l 0
  rfl
 | i+1=>by
  rw [List.range_succ,List.map_append,List.sum_append,aM l i]
  show cnt l (256*i)+[cV l i].sum=_
  rw [List.sum_singleton]
  have:=gW l i (min 8 (Bp l.length-8*i)) rfl
  unfold cV
  omega
def jG (K:PySem.W.Frag)(l:List Bool)(i:Nat)(ys:List V)(H:Hp):Prop:=ys.length=i/\∀ j y,ys[j]?=some y->∃ a,y=.ref a/\SqT K H a (nV (blk l j))
theorem kN {K:PySem.W.Frag}{l:List Bool}{i:Nat}{ys:List V}{H:Hp}{D:Addr}{xs:List V}{o:HO}(hD:H D=some (.lst xs))(h:jG K l i ys H):jG K l i ys (upd H D o):=⟨h.1,fun j y e=>by
 obtain ⟨a,rfl,ht⟩:=h.2 j y e
 refine ⟨a,rfl,?_⟩
 rcases ht with (ht | ⟨ob,ht⟩) | ht
 ·exact .inl (.inl (by rw [Ap (Rt ht hD (by intro z;cases z))];exact ht))
 ·exact .inl (.inr ⟨ob,by rw [Ap (Rt ht hD (by intro z;cases z))];exact ht⟩)
 ·exact .inr ht⟩
theorem jG.same {K:PySem.W.Frag}{l:List Bool}{i:Nat}{ys:List V}{H H':Hp}(h:jG K l i ys H)(s:Al H H'):jG K l i ys H':=⟨h.1,fun j y e=>by
 obtain ⟨a,rfl,ht⟩:=h.2 j y e
 exact ⟨a,rfl,s.seqT ht⟩⟩
theorem M1 {f : Addr}{fd : FuncData}(F : Fun K "table_of_words" "table_of_words" B5 f fd)(T : Txt K mg a_ONES_OF_FOUR a_SIGNS_OF_FOUR)(c_ones_in : Cal P w K mg base "ones_in" 1 ["word"] Sj)(c_running_sums : Cal P w K mg base "running_sums" 1 ["numbers"] kC) : Ax P w K mg base CX0 2 f fd ["words"] (Y9 K) := by
  refine F.ok Hr (fun vs H Q E h => ?_) (fun cdv A outer s H vs Q E hr h => ?_)
  · obtain ⟨t, l, rfl, _⟩ := h
    rfl
  · obtain ⟨t, l, rfl, ht, hl, q⟩ := h
    have hW : (wordsOf l).length = Bp l.length := by unfold TW.wordsOf; rw [List.length_map, List.length_range]
    have hM : Bp l.length <= 626 := by unfold Bp; omega
    have hB : B1 l.length <= 80 := by unfold B1; omega
    refine ⟨_, (Ab (Ld (i := 1) rfl L3 Hr.nd rfl rfl (Ov rfl T.n_range (Af Ag (Af (Av Bg (by rfl) T.n_len Ef (Af (pv 0) Aa rfl)) (Af (Ba rfl T.g_BLOCK_WORDS) Aa rfl) rfl) rfl)) (fun _ _ _ _ => Db) (fun _ _ _ _ => (Cs (mP K) (pv 1) (Bw (pv 0)) (Bw (Aj Bd (pv 0) (Ba rfl T.g_BLOCK_WORDS))))))
      (Ae (Am (Dk Ig (by rfl) T.n_tuple Vl (Af (Bb c_running_sums (hr.mono (by decide : 1 <= _)) (Af (Nq rfl L0 (Eb (pv 1)) (fun _ _ _ _ => Db) (fun _ _ _ _ => (Av (jH K rfl) (by rfl) T.n_sum wR (Af (qQ rfl L5 (pE K (pv 0)) (fun _ _ _ _ => Db) (fun _ _ _ _ => (Bb c_ones_in (hr.mono (by decide : 1 <= _)) (Af (pv 0) Aa rfl)))) Aa rfl)))) Aa rfl)) Aa rfl))))), ?_⟩
    k_is
    refine ⟨t, _, rfl, .inr (SqT.of ht), ?_⟩
    k_is
    rw [List.length_map, hW]
    refine ⟨0, Bp l.length, 8, rfl, by omega, ?_⟩
    have hn : Ca 0 (Bp l.length : Int) 8 = B1 l.length := Rs (Bp l.length) 8 (by decide)
    rw [hn]
    refine gO (fun i ys H1 => jG K l i ys H1) (fun H1 _ => ⟨rfl, fun j y e => by cases e⟩) (fun i ys H1 D xs o hD h => kN hD h) (fun i ys H1 hi h => by rw [h.1]; exact D5 (by omega)) (fun i ys H1 A R hi s1 hP kA => ?_) (fun D ys H1 hD s1 hP hDl => ?_)
    · k_is
      refine ⟨t, _, rfl, SqT.of (s1 _ _ ht), fun p2 H2 s2 hp2 => ?_⟩
      rw [show (0 + (i : Int) * 8) = ((8 * i : Nat) : Int) by omega, show (((8 * i : Nat) : Int) + 8) = ((8 * i + 8 : Nat) : Int) by omega, Rc, show 8 * i + 8 - 8 * i = 8 by omega] at hp2
      have e8 : ((nV (wordsOf l)).drop (8 * i)).take 8 = nV (blk l i) := by
        unfold nV blk
        rw [<- List.map_drop, <- List.map_take, bL]
      rw [e8] at hp2
      refine kA _ _ s2 ⟨by rw [List.length_append, hP.1]; rfl, fun j y e => ?_⟩
      by_cases hj : j < ys.length
      · rw [List.getElem?_append_left hj] at e
        exact (hP.same s2).2 j y e
      · rw [List.getElem?_append_right (by omega)] at e
        have e0 : j - ys.length = 0 := by
          have := Cy e
          simp only [List.length_cons, List.length_nil] at this
          omega
        rw [e0] at e
        obtain rfl := Option.some.inj e
        have : j = i := by have := hP.1; omega
        subst this
        exact ⟨p2, rfl, hp2⟩
    · k_is
      refine ⟨D, rfl, ⟨_, SqL.of hDl⟩, ?_⟩
      refine Lg (SqL.of hDl) (fun i => nV ((List.range i).map (cV l))) rfl (fun i hi => ?_) (fun i x H2 R A hx s2 kR kA => ?_) (fun D2 H2 hD2 s2 hl2 => ?_)
      · unfold nV
        rw [List.length_map, List.length_map, List.length_range]
        rw [hP.1] at hi
        exact D5 (by omega)
      · obtain ⟨b, rfl, hb⟩ := (hP.same s2).2 i x hx
        k_is
        refine ⟨b, rfl, ⟨_, hb⟩, ?_⟩
        refine kI hb (fun j => nV ((List.range j).map fun m => pc (val (A5 l (8 * i + m))))) rfl (fun j hj => ?_) (fun j x H3 R3 A3 hx3 s3 kR3 kA3 => ?_) (fun D3 H3 hD3 s3 hl3 => ?_)
        · unfold blk nV at hj
          rw [List.length_map, List.length_map, List.length_range] at hj
          rw [List.length_map, List.length_map, List.length_range]
          exact D5 (by omega)
        · have hj : j < min 8 (Bp l.length - 8 * i) := by
            have := (List.getElem?_eq_some_iff.mp hx3).1
            unfold blk nV at this
            rwa [List.length_map, List.length_map, List.length_range] at this
          have hxe : x = .int (val (A5 l (8 * i + j)) : Nat) := by
            unfold nV blk at hx3
            rw [List.getElem?_map, List.getElem?_map, List.getElem?_range hj] at hx3
            exact (Option.some.inj hx3).symm
          subst hxe
          k_is
          refine ⟨_, rfl, ?_⟩
          refine kA3 _ _ ?_ (Al.refl _)
          exact K7 _ _
        · unfold blk at hl3
          rw [List.length_map, List.length_map, List.length_range] at hl3
          k_is
          refine ⟨D3, _, rfl, SqL.of (by rw [hl3, eY]), ?_⟩
          rw [lA]
          refine kA _ _ ?_ s3
          exact K7 _ _
      · rw [hP.1] at hl2
        k_is
        refine ⟨D2, (List.range (B1 l.length)).map (cV l), rfl, hl2, by rw [List.length_map, List.length_range]; omega, fun p4 H4 s4 hp4 hl4 => ?_⟩
        k_is
        refine ⟨p4, _, rfl, .inl ⟨SqL.of hl4, fun p5 hp5 => ?_⟩⟩
        have et : (List.range (((List.range (B1 l.length)).map (cV l)).length + 1)).map (fun i => (((List.range (B1 l.length)).map (cV l)).take i).sum) = Ho l := by
          rw [List.length_map, List.length_range]
          unfold Ho
          refine List.map_congr_left fun i hi => ?_
          have hi := List.mem_range.mp hi
          rw [<- List.map_take, List.take_range, Nat.min_eq_left (by omega), aM]
        rw [et] at *
        exact q p5 _ (((s1.trans s2).trans s4).trans (Ah hp5)) (((s1.trans s2).trans s4).free hp5) Ac
def mL (l:List Bool)(t u:Addr):List (Str×V):=[("length",.int (l.length:Nat)),("kept_words",.ref t),("kept_table",.ref u)]
def Bh (K:PySem.W.Frag)(C:Addr)(H:Hp)(a:Addr)(l:List Bool):Prop:=∃ dx t u,H a=some (.ins C dx (mL l t u))/\H t=some (.tup (nV (wordsOf l)))/\H u=some (.tup (nV (Ho l)))/\l.length<=20000
theorem Bh.same {K:PySem.W.Frag}{C b:Addr}{H H':Hp}{l:List Bool}(s:Al H H')(h:Bh K C H b l):Bh K C H' b l:=by
 obtain ⟨dx,t,u,h1,h2,h3,h4⟩:=h
 exact ⟨dx,t,u,s _ _ h1,s _ _ h2,s _ _ h3,h4⟩
def Ju (K:PySem.W.Frag)(CB C:Addr):Sp:=fun vs H Q _=>∃ (x dx b:Addr) (l:List Bool),vs=[.ref x,.ref b]/\H x=some (.ins C dx [])/\Ez K CB H b l/\∀ H',SameBut x H H'->Bh K C H' x l->Q .non H'
theorem Ym {f : Addr}{fd : FuncData}(F : Fun K "__init__" "Counts.__init__" F1 f fd)(T : Txt K mg a_ONES_OF_FOUR a_SIGNS_OF_FOUR)(Z : Qc K C_Counts)(Yv : Mth P w K mg base C_Bits "size" 1 ["self"] (L9 K C_Bits))
    (Yr : Mth P w K mg base C_Bits "words" 1 ["self"] (Kx K C_Bits))(c_table_of_words : Cal P w K mg base "table_of_words" 2 ["words"] (Y9 K)) :
    Ax P w K mg base CX0 3 f fd ["self", "bits"] (Ju K C_Bits C_Counts) := by
  refine F.ok Su (fun vs H Q E h => ?_) (fun cdv A outer s H vs Q E hr h => ?_)
  · obtain ⟨x, dx, b, l, rfl, _⟩ := h
    rfl
  · obtain ⟨x, dx, b, l, rfl, hx, hb, q⟩ := h
    have hb0 := hb
    obtain ⟨dxb, t, hbx, ht, hl⟩ := hb0
    have hbne : b ≠ x := Rt hbx hx (by intro z; cases z)
    refine ⟨_, (Ab (Ft (pv 0) (Kj Yv (hr.mono (by decide : 1 <= _)) (pv 1)) rfl)
      (Ab (Ft (pv 0) (Kj Yr (hr.mono (by decide : 1 <= _)) (pv 1)) rfl)
      (Ae (Ft (pv 0) (Bb c_table_of_words (hr.mono (by decide : 2 <= _)) (Af (A0 (pv 0) rfl) Aa rfl)) rfl)))), ?_⟩
    k_is
    refine ⟨b, dxb, _, rfl, hbx, rfl, ?_⟩
    k_is
    refine ⟨b, l, rfl, hb, ?_⟩
    k_is
    refine Ds hx Z.cl Z.n_length (by decide) ?_
    k_is
    refine ⟨b, dxb, mV l t, rfl, by rw [Ap hbne]; exact hbx, rfl, ?_⟩
    k_is
    refine ⟨b, l, rfl, He Be (E8 hx) hbne hb, fun t2 ht2 => ?_⟩
    k_is
    refine Ds Ac Z.cl Z.n_kept_words (show 1 < 1000 by decide) ?_
    rw [Pu]
    have ht3 : (upd H x (.ins C_Counts dx (Gk "kept_words" (.ref t2) (Gk "length" (.int (l.length : Nat)) [])))) t2 = some (.tup (nV (wordsOf l))) := by
      have hne : t2 ≠ x := Rt ht2 Ac (by intro z; cases z)
      rw [Ap hne] at ht2 ⊢
      exact ht2
    k_is
    refine ⟨x, C_Counts, dx, _, .ref t2, rfl, Ac, Z.cl, Z.n_kept_words, rfl, ?_⟩
    k_is
    refine ⟨t2, l, rfl, ht3, hl, fun u H' sm hf hu => ?_⟩
    k_is
    refine Ds (sm _ _ Ac) Z.cl Z.n_kept_table (show 2 < 1000 by decide) ?_
    k_is
    have hix := sm _ _ (Ac (H := H) (a := x))
    have n1 : t2 ≠ x := Rt (sm _ _ ht3) hix (by intro z; cases z)
    have n2 : u ≠ x := Rt hu hix (by intro z; cases z)
    exact q _ ((Be.trans sm.but).trans Be) ⟨dx, t2, u, Ac, by rw [Ap n1]; exact sm _ _ ht3, by rw [Ap n2]; exact hu, hl⟩
theorem Z6 {l:List Bool}{b:Nat}(h:b<=B1 l.length):atI (nV (Ho l)) (b:Int)=some (.int (cnt l (256*b):Nat)):=by
 refine B7 ?_
 unfold nV Ho
 rw [List.getElem?_map,List.getElem?_map,List.getElem?_range (by omega)]
 rfl
def Kv (K:PySem.W.Frag)(C:Addr):Sp:=fun vs H Q _=>∃ (a:Addr) (l:List Bool) (n:Nat),vs=[.ref a,.int n]/\Bh K C H a l/\n<=l.length/\∀ H',Al H H'->Q (.int (cnt l n:Nat)) H'
theorem Q7 {f : Addr}{fd : FuncData}(F : Fun K "ones_ahead" "Counts.ones_ahead" Cn f fd)(T : Txt K mg a_ONES_OF_FOUR a_SIGNS_OF_FOUR)(Z : Qc K C_Counts)(c_ones_in : Cal P w K mg base "ones_in" 1 ["word"] Sj) : Ax P w K mg base CX0 2 f fd ["self", "place"] (Kv K C_Counts) := by
  refine F.ok Bf (fun vs H Q E h => ?_) (fun cdv A outer s H vs Q E hr h => ?_)
  · obtain ⟨a, l, n, rfl, _⟩ := h
    rfl
  · obtain ⟨a, l, n, rfl, ⟨dx, t, u, hx, ht, hu, hl⟩, hn, q⟩ := h
    refine ⟨_, (Ab (An (i := 2) Bf.nd rfl (Or.inl rfl) (Aj Dc (pv 1) (Ba rfl T.g_WORD_BITS)))
      (Ab (An (i := 3) Bf.nd rfl (Or.inl rfl) (Aj Dc (pv 2) (Ba rfl T.g_BLOCK_WORDS)))
      (Ab (An (i := 4) Bf.nd rfl (Or.inl rfl) (Ck Ey (A0 (pv 0) rfl) (pv 3) (fun _ _ => rfl)))
      (Ab (E4 PassesOwn.never rfl (cG (Cs Y0 (A0 (pv 0) rfl) (Bw (Aj Hb (pv 3) (Ba rfl T.g_BLOCK_WORDS))) (Bw (pv 2)))) (Bl (i := 5) Bf.nd rfl (Or.inl rfl))
      (Ae (Ha (i := 4) Bf.nd rfl (Or.inl rfl) (Bb c_ones_in (hr.mono (by decide : 1 <= _)) (Af (pv 5) Aa rfl)) J6)))
      (Ab (An (i := 6) Bf.nd rfl (Or.inl rfl) (Aj Ek (pv 1) (Ba rfl T.g_WORD_BITS)))
      (Ab (B4 (As Ir (pv 6) Ag (Aw _)) (Ae (Ha (i := 4) Bf.nd rfl (Or.inl rfl) (Bb c_ones_in (hr.mono (by decide : 1 <= _)) (Af (Aj Mj (Ck Ey (A0 (pv 0) rfl) (pv 2) (fun _ _ => rfl)) (Aj Bn (Aj vE Ag (pv 6)) Ag)) Aa rfl)) J6))
      A9)
      (Ae (Am (pv 4))))))))), ?_⟩
    k_is
    refine ⟨a, C_Counts, dx, _, _, rfl, hx, Z.cl, Z.n_kept_table, rfl, ?_⟩
    k_is
    rw [show ((n : Int) / 32 / 8) = ((n / 256 : Nat) : Int) by omega, show ((n : Int) / 32) = ((n / 32 : Nat) : Int) by omega]
    refine Hh (SqT.of hu) (Z6 (by unfold B1 Bp; omega)) ?_
    k_is
    refine ⟨a, C_Counts, dx, _, _, rfl, hx, Z.cl, Z.n_kept_words, rfl, ?_⟩
    k_is
    refine ⟨t, _, rfl, SqT.of ht, fun p2 H2 s2 hp2 => ?_⟩
    rw [show ((n / 256 : Nat) : Int) * 8 = ((8 * (n / 256) : Nat) : Int) by omega, Rc] at hp2
    have e8 : ((nV (wordsOf l)).drop (8 * (n / 256))).take (n / 32 - 8 * (n / 256)) = nV ((List.range (n / 32 - 8 * (n / 256))).map fun j => val (A5 l (8 * (n / 256) + j))) := by
      unfold nV
      have : min (n / 32 - 8 * (n / 256)) (Bp l.length - 8 * (n / 256)) = n / 32 - 8 * (n / 256) := by unfold Bp; omega
      rw [<- List.map_drop, <- List.map_take, T6, this]
    rw [e8] at hp2
    refine ⟨p2, rfl, ⟨_, hp2⟩, ?_⟩
    generalize hm : n / 32 - 8 * (n / 256) = m at hp2
    refine oU (xs := nV ((List.range m).map fun j => val (A5 l (8 * (n / 256) + j)))) (fun i σ H' => H' = H2/\∃ v5 v6 : Option V, σ = [some (.ref a), some (.int n), some (.int ((n / 32 : Nat) : Int)), some (.int ((n / 256 : Nat) : Int)), some (.int (cnt l (32 * (8 * (n / 256) + i)) : Nat)), v5, v6]) ?_ (fun i σ H' _ h => by rw [h.1]; exact hp2) ?_ ?_
    · refine ⟨rfl, none, none, ?_⟩
      rw [show 32 * (8 * (n / 256) + 0) = 256 * (n / 256) by omega]
      rfl
    · rintro i x σ H' hx' ⟨rfl, v5, v6, rfl⟩
      have hi : i < m := by
        have := (List.getElem?_eq_some_iff.mp hx').1
        rwa [List.length_map, List.length_map, List.length_range] at this
      have hze : x = .int (val (A5 l (8 * (n / 256) + i)) : Nat) := by
        unfold nV at hx'
        rw [List.getElem?_map, List.getElem?_map, List.getElem?_range hi] at hx'
        exact (Option.some.inj hx').symm
      subst hze
      k_is
      refine ⟨_, rfl, ?_⟩
      k_is
      refine ⟨rfl, some (.int (val (A5 l (8 * (n / 256) + i)) : Nat)), v6, ?_⟩
      have := Z3 l (8 * (n / 256) + i)
      rw [show 8 * (n / 256) + (i + 1) = 8 * (n / 256) + i + 1 by omega, this]
      rfl
    · rintro σ H' ⟨rfl, v5, v6, rfl⟩
      rw [show (nV ((List.range m).map fun j => val (A5 l (8 * (n / 256) + j)))).length = m by unfold nV; rw [List.length_map, List.length_map, List.length_range], show 8 * (n / 256) + m = n / 32 by omega]
      k_is
      have ec : cnt l n = cnt l (32 * (n / 32)) + ((l.drop (32 * (n / 32))).take (n % 32)).count true := by
        rw [<- fC]
        congr 1
        omega
      refine B6 (fun hr' => ?_) (fun hr' => ?_)
      · have hr0 : 0 < n % 32 := by omega
        k_is
        refine ⟨a, C_Counts, dx, _, _, rfl, s2 _ _ hx, Z.cl, Z.n_kept_words, rfl, ?_⟩
        k_is
        refine Hh (SqT.of (s2 _ _ ht)) (Nm (by unfold Bp; omega)) ?_
        k_is
        refine zF ⟨by omega, by omega, by decide⟩ ?_
        k_is
        rw [jO _ (n % 32) (by omega)]
        refine ⟨_, rfl, ?_⟩
        k_is
        rw [jL, Mo]
        have e2 : (A5 l (n / 32)).take (n % 32) = (l.drop (32 * (n / 32))).take (n % 32) := by
          unfold A5
          rw [List.take_take, Nat.min_eq_left (by omega)]
        rw [e2]
        have := q _ s2
        rw [ec] at this
        exact this
      · have hr0 : n % 32 = 0 := by omega
        k_is
        have := q _ s2
        rw [ec, hr0, List.take_zero] at this
        exact this
def Px (K:PySem.W.Frag)(C:Addr):Sp:=fun vs H Q _=>∃ (a:Addr) (l:List Bool) (b:Bool) (n:Nat),vs=[.ref a,.int (b.toNat:Nat),.int n]/\Bh K C H a l/\n<=l.length/\∀ H',Al H H'->Q (.int ((occ b l n).length:Nat)) H'
theorem Yd {f : Addr}{fd : FuncData}(F : Fun K "ahead" "Counts.ahead" Fw f fd)(T : Txt K mg a_ONES_OF_FOUR a_SIGNS_OF_FOUR)(Z : Qc K C_Counts)(c_check_bit : Cal P w K mg base "check_bit" 3 ["bit"] Xp)(c_check_place : Cal P w K mg base "check_place" 3 ["place", "greatest"] Gj)
    (Wb : Mth P w K mg base C_Counts "ones_ahead" 2 ["self", "place"] (Kv K C_Counts)) : Ax P w K mg base CX0 4 f fd ["self", "bit", "place"] (Px K C_Counts) := by
  refine F.ok Kd (fun vs H Q E h => ?_) (fun cdv A outer s H vs Q E hr h => ?_)
  · obtain ⟨a, l, b, n, rfl, _⟩ := h
    rfl
  · obtain ⟨a, l, b, n, rfl, hC, hn, q1⟩ := h
    obtain ⟨dx, t, u, hx, ht, hu, hl⟩ := id hC
    refine ⟨_, (Ab (Bi (Bb c_check_bit (hr.mono (by decide : 3 <= _)) (Af (pv 1) Aa rfl)))
      (Ab (Bi (Bb c_check_place (hr.mono (by decide : 3 <= _)) (Af (pv 2) (Af (A0 (pv 0) rfl) Aa rfl) rfl)))
      (Ab (An (i := 3) Kd.nd rfl (Or.inl rfl) (A4 Wb (hr.mono (by decide : 2 <= _)) (pv 0) (Af (pv 2) Aa rfl)))
      (Ae (Am (B2 (As Fm (pv 1) Ag (Aw _)) (pv 3) (Aj Bn (pv 2) (pv 3)))))))), ?_⟩
    k_is
    refine ⟨b, rfl, ?_⟩
    k_is
    refine ⟨a, C_Counts, dx, _, _, rfl, hx, Z.cl, Z.n_length, rfl, ?_⟩
    k_is
    refine ⟨n, _, rfl, by omega, by omega, ?_⟩
    k_is
    refine ⟨a, dx, _, rfl, hx, rfl, ?_⟩
    k_is
    refine ⟨a, l, n, rfl, hC, hn, fun H' s' => ?_⟩
    k_is
    have ho := M9 l n
    cases b with
    | true =>
      refine B6 (fun _ => ?_) (fun z => absurd rfl z)
      k_is
      have := q1 H' s'
      rw [ho.1] at this
      exact this
    | false =>
      refine B6 (fun z => absurd z (by decide)) (fun _ => ?_)
      k_is
      have := q1 H' s'
      rw [show ((n : Int) - (cnt l n : Nat)) = ((occ false l n).length : Nat) by omega]
      exact this
def Fu (K:PySem.W.Frag)(C:Addr):Sp:=fun vs H Q _=>∃ (a:Addr) (l:List Bool) (b:Bool) (k:Nat),vs=[.ref a,.int (b.toNat:Nat),.int k]/\Bh K C H a l/\k<=B1 l.length/\Q (.int ((occ b l (min (256*k) l.length)).length:Nat)) H
theorem Qz {f:Addr}{fd:FuncData}(F:Fun K "ahead_of_block" "Counts.ahead_of_block" Bz f fd)(T:Txt K mg a_ONES_OF_FOUR a_SIGNS_OF_FOUR)(Z:Qc K C_Counts):Ax P w K mg base CX0 1 f fd ["self","bit","block"] (Fu K C_Counts):=by
 refine F.ok Er (fun vs H Q E h=>?_) (fun cdv A outer s H vs Q E hr h=>?_)
 ·obtain ⟨a,l,b,k,rfl,_⟩:=h
  rfl
 ·obtain ⟨a,l,b,k,rfl,⟨dx,t,u,hx,ht,hu,hl⟩,hk,q⟩:=h
  have ec:cnt l (256*k)=cnt l (min (256*k) l.length):=by
   by_cases h:256*k<=l.length
   ·rw [Nat.min_eq_left h]
   ·rw [Nat.min_eq_right (by omega),P0 l (by omega),P0 l (Nat.le_refl _)]
  refine ⟨_,(Ab (An (i:=3) Er.nd rfl (Or.inl rfl) (Ck Ey (A0 (pv 0) rfl) (pv 2) (fun _ _=>rfl)))
   (Ae (Am (B2 (As Fm (pv 1) Ag (Aw _)) (pv 3) (Aj Bn (Av (Ob rfl) (by rfl) T.n_min Ul (Af (Aj Hb (pv 2) (Ba rfl T.g_BLOCK_BITS)) (Af (A0 (pv 0) rfl) Aa rfl) rfl)) (pv 3)))))),?_⟩
  k_is
  refine ⟨a,C_Counts,dx,_,_,rfl,hx,Z.cl,Z.n_kept_table,rfl,?_⟩
  k_is
  refine Hh (SqT.of hu) (Z6 hk) ?_
  k_is
  have ho:=M9 l (min (256*k) l.length)
  cases b with
  | true =>
   refine B6 (fun _=>?_) (fun z=>absurd rfl z)
   k_is
   rw [ho.1] at q
   rw [ec]
   exact q
  | false =>
   refine B6 (fun z=>absurd z (by decide)) (fun _=>?_)
   k_is
   refine ⟨a,C_Counts,dx,_,_,rfl,hx,Z.cl,Z.n_length,rfl,?_⟩
   k_is
   refine ⟨_,_,rfl,?_⟩
   k_is
   have em:(if ((l.length:Nat):Int)<(k:Int)*256 then ((l.length:Nat):Int) else (k:Int)*256)=((min (256*k) l.length:Nat):Int):=by
    split<;>omega
   rw [em,ec,show ((min (256*k) l.length:Nat):Int)-(cnt l (min (256*k) l.length):Nat)=((occ false l (min (256*k) l.length)).length:Nat) by omega]
   exact q
def Ma (K:PySem.W.Frag)(C:Addr):Sp:=fun vs H Q _=>∃ (a:Addr) (l:List Bool) (b:Bool),vs=[.ref a,.int (b.toNat:Nat)]/\Bh K C H a l/\Q (.int ((occ b l l.length).length:Nat)) H
theorem Ud (l:List Bool):(nV (Ho l)).length=B1 l.length+1:=by
 unfold nV Ho
 rw [List.length_map,List.length_map,List.length_range]
theorem eC (l:List Bool):min (256*B1 l.length) l.length=l.length:=by unfold B1 Bp;omega
theorem Wg {f:Addr}{fd:FuncData}(F:Fun K "many_like" "Counts.many_like" C0 f fd)(T:Txt K mg a_ONES_OF_FOUR a_SIGNS_OF_FOUR)(Z:Qc K C_Counts)(Qd:Mth P w K mg base C_Counts "ahead_of_block" 1 ["self","bit","block"] (Fu K C_Counts)):Ax P w K mg base CX0 2 f fd ["self","bit"] (Ma K C_Counts):=by
 refine F.ok L4 (fun vs H Q E h=>?_) (fun cdv A outer s H vs Q E hr h=>?_)
 ·obtain ⟨a,l,b,rfl,_⟩:=h
  rfl
 ·obtain ⟨a,l,b,rfl,hC,q⟩:=h
  obtain ⟨dx,t,u,hx,ht,hu,hl⟩:=id hC
  refine ⟨_,(Ae (Am (A4 Qd (hr.mono (by decide:1<=_)) (pv 0) (Af (pv 1) (Af (Aj Bn (Av Bg (by rfl) T.n_len Ef (Af (A0 (pv 0) rfl) Aa rfl)) Ag) Aa rfl) rfl)))),?_⟩
  k_is
  refine ⟨a,dx,_,rfl,hx,rfl,?_⟩
  k_is
  refine ⟨a,C_Counts,dx,_,_,rfl,hx,Z.cl,Z.n_kept_table,rfl,?_⟩
  k_is
  refine ⟨u,_,rfl,.inr (SqT.of hu),?_⟩
  rw [Ud]
  k_is
  refine ⟨a,l,b,B1 l.length,?_,hC,Nat.le_refl _,?_⟩
  ·rw [show (((B1 l.length+1:Nat):Int)-1)=((B1 l.length:Nat):Int) by omega]
   rfl
  ·rw [eC]
   exact q
theorem Bh.sameT {K:PySem.W.Frag}{C b:Addr}{H H':Hp}{l:List Bool}(s:Jg H H')(h:Bh K C H b l):Bh K C H' b l:=by
 obtain ⟨dx,t,u,h1,h2,h3,h4⟩:=h
 exact ⟨dx,t,u,s.keep _ _ (by intro ps e;cases e) h1,s.tup h2,s.tup h3,h4⟩
theorem Bh.sm {K:PySem.W.Frag}{C b:Addr}{ts:List Tb}{H H':Hp}{l:List Bool}(h:Bh K C H b l)(s:SmT ts H H'):Bh K C H' b l:=h.sameT s.sm
def Lc (K:PySem.W.Frag)(C:Addr)(ts:List Tb):Sp:=fun vs H Q _=>∃ (a:Addr) (l:List Bool) (b:Bool) (n:Nat),vs=[.ref a,.int (b.toNat:Nat),.int n]/\Bh K C H a l/\n<(occ b l l.length).length/\Tbs ts H/\∀ (k:Nat) (H':Hp),k<B1 l.length->(occ b l (256*k)).length<=n->SmT ts H H'->Q (.int k) H'
theorem Q6 {f c Pt:Addr}{fd:FuncData}{ts:List Tb}(F:Zt K "block_with" "Counts.block_with" A8 f fd c Pt)(T:Txt K mg a_ONES_OF_FOUR a_SIGNS_OF_FOUR)(hK:K.In base)(hB:base.BuiltinsAt mg Pt)(hts:(⟨Pt,Ak,"Counts.block_with.<locals>.<lambda>"⟩:Tb)∈ts)(Z:Qc K C_Counts)(Qd:Mth P w K mg base C_Counts "ahead_of_block" 1 ["self","bit","block"] (Fu K C_Counts))(c_first_that:Cal P w K mg base "first_that" 3 ["low","high","holds"] (M3 P w K mg base 2)):Ax P w K mg base CX0 4 f fd ["self","bit","nth"] (Lc K C_Counts ts):=by
 refine F.ok Kp (fun vs H Q E h=>?_) (fun A outer s H vs Q E hr h=>?_)
 ·obtain ⟨a,l,b,n,rfl,_⟩:=h
  rfl
 ·obtain ⟨a,l,b,n,rfl,hC,hn,hT,q⟩:=h
  obtain ⟨dx,t,u,hx,ht,hu,hl⟩:=id hC
  have hpos:0<B1 l.length:=by
   have:0<l.length:=by
    rcases Nat.eq_zero_or_pos l.length with z | z
    ·rw [z] at hn
     exact absurd hn (Nat.not_lt_zero _)
    ·exact z
   unfold B1 Bp
   omega
  refine ⟨_,(Ae (Am (vH (qual:="Counts.block_with.<locals>.<lambda>") (k:=1) c_first_that (hr.mono (by decide:3<=_)) Ag (Aj Bn (Av Bg (by rfl) T.n_len Ef (Af (A0 (pv 0) rfl) Aa rfl)) Ag) (F.code hK) hB rfl (by kernel_rfl) Ik (fun _ _ _ _ _ _ _ hr=>(G5 Ir (A4 Qd (hr.mono (by decide:1<=_)) (pv 3) (Af (pv 1) (Af (Aj Bd (pv 0) Ag) Aa rfl) rfl)) (pv 2) (Aw _)))))),?_⟩
  k_is
  refine ⟨a,C_Counts,dx,_,_,rfl,hx,Z.cl,Z.n_kept_table,rfl,?_⟩
  k_is
  refine ⟨u,_,rfl,.inr (SqT.of hu),?_⟩
  rw [Ud]
  k_is
  have hk:=hT.1 _ hts
  refine ⟨0,((B1 l.length-1:Nat):Int),fun i=>decide (n<(occ b l (min (256*(i.toNat+1)) l.length)).length),rfl,?_,by omega,hk,fun i H3 hi1 hi2 s3=>?_,fun m H' hm1 hm2 hm3 hm4 s' t'=>?_⟩
  ·rw [show (((B1 l.length+1:Nat):Int)-2)=((B1 l.length-1:Nat):Int) by omega]
  ·obtain ⟨pt,hpt⟩:=Tb.tbl hk
   have kp:∀ {b:Addr} {u:HO},(∀ ps,u≠.tbl ps)->H b=some u->H3 b=some u:=fun {b u} nt e=>s3 b u (fun z=>by rw [z,hpt] at e;cases e;exact nt pt rfl) e
   have hx3:=kp (by intro ps e;cases e) hx
   have hC3:Bh K C_Counts H3 a l:=⟨dx,t,u,hx3,kp (by intro ps e;cases e) ht,kp (by intro ps e;cases e) hu,hl⟩
   k_is
   refine ⟨a,dx,_,rfl,hx3,rfl,?_⟩
   k_is
   obtain ⟨k,rfl⟩:=Int.eq_ofNat_of_zero_le hi1
   refine ⟨a,l,b,k+1,rfl,hC3,by omega,?_⟩
   k_is
   refine ⟨?_,Al.refl _⟩
   rw [Int.toNat_natCast]
   exact congrArg V.bl (decide_eq_decide.mpr (by omega))
  ·obtain ⟨k,rfl⟩:=Int.eq_ofNat_of_zero_le hm1
   have hk1:k<B1 l.length:=by omega
   have h256:256*k<=l.length:=by unfold B1 Bp at hk1;omega
   refine q k H' hk1 ?_ (vN hT hts s' t')
   rcases Nat.eq_zero_or_pos k with rfl | hk0
   ·exact Nat.zero_le _
   ·have:=hm3 (by omega)
    dsimp only at this
    rw [show (((k:Int)-1).toNat+1)=k by omega,Nat.min_eq_left h256] at this
    have:=of_decide_eq_false this
    omega
def K4 (K:PySem.W.Frag)(C:Addr):Sp:=fun vs H Q _=>∃ (a:Addr) (l:List Bool) (b:Bool) (j k t:Nat),vs=[.ref a,.int (b.toNat:Nat),.int j,.int k]/\Bh K C H a l/\(occ b l (32*Bp l.length))[(occ b l (32*j)).length+k]?=some t/\∀ H',Al H H'->Q (.int t) H'
theorem M6 {b:Bool}{l:List Bool}{W j k t:Nat}(h:(occ b l (32*W))[(occ b l (32*j)).length+k]?=some t):j<W:=by
 rcases Nat.lt_or_ge j W with z | z
 ·exact z
 ·exfalso
  have h1:=(List.getElem?_eq_some_iff.mp h).1
  have h2:=tD (b:=b) (l:=l) (show 32*W<=32*j by omega)
  omega
theorem bX {b:Bool}{l:List Bool}{W j k t p:Nat}(h:(occ b l (32*W))[(occ b l (32*j)).length+k]?=some t)(hp:(Lu b l j)[k]?=some p):t=32*j+p:=by
 have hj:=M6 h
 have hk:=(List.getElem?_eq_some_iff.mp hp).1
 have hlen:(occ b l (32*(j+1))).length=(occ b l (32*j)).length+(Lu b l j).length:=by rw [S0,List.length_append,List.length_map]
 rw [U9 (show 32*(j+1)<=32*W by omega) (by omega),S0,List.getElem?_append_right (Nat.le_add_right _ _),Nat.add_sub_cancel_left,List.getElem?_map,hp] at h
 exact (Option.some.inj h).symm
theorem bU {b:Bool}{l:List Bool}{W j k t:Nat}(h:(occ b l (32*W))[(occ b l (32*j)).length+k]?=some t)(hp:(Lu b l j)[k]?=none):(Lu b l j).length<=k/\(occ b l (32*W))[(occ b l (32*(j+1))).length+(k-(Lu b l j).length)]?=some t:=by
 have hk:=List.getElem?_eq_none_iff.mp hp
 refine ⟨hk,?_⟩
 rw [S0,List.length_append,List.length_map,show (occ b l (32*j)).length+(Lu b l j).length+(k-(Lu b l j).length)=(occ b l (32*j)).length+k by omega]
 exact h
theorem Q8 {f : Addr}{fd : FuncData}(F : Fun K "place_from" "Counts.place_from" Cp f fd)(T : Txt K mg a_ONES_OF_FOUR a_SIGNS_OF_FOUR)(Z : Qc K C_Counts)(c_ones_in : Cal P w K mg base "ones_in" 1 ["word"] Sj)(c_nth_one : Cal P w K mg base "nth_one" 2 ["word", "nth"] jT) : Ax P w K mg base CX0 3 f fd ["self", "bit", "number", "nth"] (K4 K C_Counts) := by
  refine F.ok Bo (fun vs H Q E h => ?_) (fun cdv A outer s H vs Q E hr h => ?_)
  · obtain ⟨a, l, b, j, k, t, rfl, _⟩ := h
    rfl
  · obtain ⟨a, l, b, j, k, t, rfl, ⟨dx, tw, u, hx, ht, hu, hl⟩, hp, q⟩ := h
    refine ⟨_, (Ab (An (i := 4) Bo.nd rfl (Or.inl rfl) (B2 (As Fm (pv 1) Ag (Aw _)) Ag (Ba rfl T.g_FULL_WORD)))
      (Ab (An (i := 5) Bo.nd rfl (Or.inl rfl) (Bb c_nth_one (hr.mono (by decide : 2 <= _)) (Af (Aj eK (Ck Ey (A0 (pv 0) rfl) (pv 2) (fun _ _ => rfl)) (pv 4)) (Af (pv 3) Aa rfl) rfl)))
      (Ab (Gb PassesOwn.never (K2 (tJ (pv 5)))
      (Ab (Ha (i := 3) Bo.nd rfl (Or.inl rfl) (Bb c_ones_in (hr.mono (by decide : 1 <= _)) (Af (Aj eK (Ck Ey (A0 (pv 0) rfl) (pv 2) (fun _ _ => rfl)) (pv 4)) Aa rfl)) lR)
      (Ab (Ha (i := 2) Bo.nd rfl (Or.inl rfl) Ag J6)
      (Ae (An (i := 5) Bo.nd rfl (Or.inl rfl) (Bb c_nth_one (hr.mono (by decide : 2 <= _)) (Af (Aj eK (Ck Ey (A0 (pv 0) rfl) (pv 2) (fun _ _ => rfl)) (pv 4)) (Af (pv 3) Aa rfl) rfl)))))))
      (Ae (Am (Aj Bd (Aj Hb (pv 2) (Ba rfl T.g_WORD_BITS)) (pv 5))))))), ?_⟩
    have hfl : ∀ {σ : St} {H1 : Hp} {Q' : VK}, Q' (.int (Nt b : Nat)) H1->(if decide (V.int (b.toNat : Nat) = V.int 1) = true then tC (.int 0) σ H1 Q' else tC (.int 4294967295) σ H1 Q') := fun {σ H1 Q'} h => by
      cases b with
      | true => exact B6 (fun _ => h) (fun z => absurd rfl z)
      | false => exact B6 (fun z => absurd z (by decide)) (fun _ => h)
    have hj0 := M6 hp
    k_is
    refine hfl ?_
    k_is
    refine ⟨a, C_Counts, dx, _, _, rfl, hx, Z.cl, Z.n_kept_words, rfl, ?_⟩
    k_is
    refine Hh (SqT.of ht) (Nm hj0) ?_
    k_is
    rw [Tc]
    refine ⟨_, k, rfl, fun H1 s1 => ?_⟩
    rw [aN]
    k_is
    refine Ge (fun σ H' => Al H H'/\∃ j k : Nat, σ = [some (.ref a), some (.int (b.toNat : Nat)), some (.int j), some (.int k), some (.int (Nt b : Nat)), some (wA ((Lu b l j)[k]?))]/\(occ b l (32 * Bp l.length))[(occ b l (32 * j)).length + k]? = some t) (fun σ _ => match σ with | [_, _, some (.int j), _, _, _] => Bp l.length - j.toNat | _ => 0) ⟨s1, j, k, rfl, hp⟩ ?_
    rintro μ σ H2 ⟨s2, j, k, rfl, hp⟩ hμ
    have hj := M6 hp
    have hμ : Bp l.length - j = μ := hμ
    k_is
    cases hw : (Lu b l j)[k]? with
    | some p =>
      have := bX hp hw
      subst this
      refine B6 (fun z => absurd z (by intro y; cases y)) (fun _ => ?_)
      k_is
      have := q H2 s2
      show rI0 _ _ (V.int ((p : Nat) : Int)) H2 Q
      refine rX ?_
      rw [show ((j : Int) * 32 + ((p : Nat) : Int)) = ((32 * j + p : Nat) : Int) by omega]
      exact this
    | none =>
      obtain ⟨hk, hp'⟩ := bU hp hw
      refine B6 (fun _ => ?_) (fun z => absurd rfl z)
      refine Lb ?_
      k_is
      refine ⟨a, C_Counts, dx, _, _, rfl, s2 _ _ hx, Z.cl, Z.n_kept_words, rfl, ?_⟩
      k_is
      refine Hh (SqT.of (s2 _ _ ht)) (Nm hj) ?_
      k_is
      rw [Tc]
      refine ⟨_, rfl, ?_⟩
      rw [qY]
      k_is
      refine ⟨a, C_Counts, dx, _, _, rfl, s2 _ _ hx, Z.cl, Z.n_kept_words, rfl, ?_⟩
      k_is
      rw [show ((j : Int) + 1) = ((j + 1 : Nat) : Int) by omega, show ((k : Int) - ((Lu b l j).length : Nat)) = ((k - (Lu b l j).length : Nat) : Int) by omega]
      refine Hh (SqT.of (s2 _ _ ht)) (Nm (M6 hp')) ?_
      k_is
      rw [Tc]
      refine ⟨_, k - (Lu b l j).length, rfl, fun H3 s3 => ?_⟩
      rw [aN]
      k_is
      refine ⟨⟨s2.trans s3, j + 1, k - (Lu b l j).length, rfl, hp'⟩, ?_⟩
      show Bp l.length - (j + 1) < μ
      omega
def Oh (K:PySem.W.Frag)(C:Addr)(ts:List Tb):Sp:=fun vs H Q _=>∃ (a:Addr) (l:List Bool) (b:Bool) (n tt:Nat),vs=[.ref a,.int (b.toNat:Nat),.int n]/\Bh K C H a l/\Tbs ts H/\(occ b l l.length)[n]?=some tt/\∀ H',SmT ts H H'->Q (.int tt) H'
theorem Wn {f : Addr}{fd : FuncData}{ts : List Tb}(F : Fun K "place_of" "Counts.place_of" Do f fd)(T : Txt K mg a_ONES_OF_FOUR a_SIGNS_OF_FOUR)(Z : Qc K C_Counts)(c_check_bit : Cal P w K mg base "check_bit" 3 ["bit"] Xp)(c_check_place : Cal P w K mg base "check_place" 3 ["place", "greatest"] Gj)
    (Qd : Mth P w K mg base C_Counts "ahead_of_block" 1 ["self", "bit", "block"] (Fu K C_Counts))(Wk : Mth P w K mg base C_Counts "many_like" 2 ["self", "bit"] (Ma K C_Counts))(Wa : Mth P w K mg base C_Counts "block_with" 4 ["self", "bit", "nth"] (Lc K C_Counts ts))
    (Wc : Mth P w K mg base C_Counts "place_from" 3 ["self", "bit", "number", "nth"] (K4 K C_Counts)) : Ax P w K mg base CX0 5 f fd ["self", "bit", "nth"] (Oh K C_Counts ts) := by
  refine F.ok G9 (fun vs H Q E h => ?_) (fun cdv A outer s H vs Q E hr h => ?_)
  · obtain ⟨a, l, b, n, tt, rfl, _⟩ := h
    rfl
  · obtain ⟨a, l, b, n, tt, rfl, hC, hT, htt, q1⟩ := h
    obtain ⟨dx, t, u, hx, ht, hu, hl⟩ := id hC
    refine ⟨_, (Ab (Bi (Bb c_check_bit (hr.mono (by decide : 3 <= _)) (Af (pv 1) Aa rfl)))
      (Ab (Bi (Bb c_check_place (hr.mono (by decide : 3 <= _)) (Af (pv 2) (Af (Aj Bn (A4 Wk (hr.mono (by decide : 2 <= _)) (pv 0) (Af (pv 1) Aa rfl)) Ag) Aa rfl) rfl)))
      (Ab (An (i := 3) G9.nd rfl (Or.inl rfl) (A4 Wa (hr.mono (by decide : 4 <= _)) (pv 0) (Af (pv 1) (Af (pv 2) Aa rfl) rfl)))
      (Ae (Am (A4 Wc (hr.mono (by decide : 3 <= _)) (pv 0) (Af (pv 1) (Af (Aj Hb (pv 3) (Ba rfl T.g_BLOCK_WORDS)) (Af (Aj Bn (pv 2) (A4 Qd (hr.mono (by decide : 1 <= _)) (pv 0) (Af (pv 1) (Af (pv 3) Aa rfl) rfl))) Aa rfl) rfl) rfl))))))), ?_⟩
    k_is
    refine ⟨b, rfl, ?_⟩
    k_is
    refine ⟨a, dx, _, rfl, hx, rfl, ?_⟩
    k_is
    refine ⟨a, l, b, rfl, hC, ?_⟩
    k_is
    have hn := Cy htt
    refine ⟨n, _, rfl, by omega, by omega, ?_⟩
    k_is
    refine ⟨a, dx, _, rfl, hx, rfl, ?_⟩
    k_is
    refine ⟨a, l, b, n, rfl, hC, hn, hT, fun kb H1 hkb hle s1 => ?_⟩
    have h256 : 256 * kb <= l.length := by unfold B1 Bp at hkb; omega
    have hx1 := s1.k hx
    have hC1 := hC.sm s1
    k_is
    refine ⟨a, dx, _, rfl, hx1, rfl, ?_⟩
    k_is
    refine ⟨a, dx, _, rfl, hx1, rfl, ?_⟩
    k_is
    refine ⟨a, l, b, kb, rfl, hC1, by omega, ?_⟩
    rw [Nat.min_eq_left h256]
    k_is
    refine ⟨a, l, b, 8 * kb, n - (occ b l (256 * kb)).length, tt, ?_, hC1, ?_, fun H' s' => ?_⟩
    · rw [show ((kb : Int) * 8) = ((8 * kb : Nat) : Int) by omega, show ((n : Int) - ((occ b l (256 * kb)).length : Nat)) = ((n - (occ b l (256 * kb)).length : Nat) : Int) by omega]
      rfl
    · rw [show 32 * (8 * kb) = 256 * kb by omega, show (occ b l (256 * kb)).length + (n - (occ b l (256 * kb)).length) = n by omega, U9 (bB l.length) hn]
      exact htt
    · k_is
      exact q1 H' (s1.then s')
def hts (l:List Bool)(i:Nat):List Int:=(List.range i).map fun j=>hgt l (j+1)
theorem kE (l:List Bool)(i:Nat):hts l (i+1)=hts l i++[hgt l (i+1)]:=by
 unfold hts
 rw [List.range_succ,List.map_append]
 rfl
def htB (l:List Bool)(b:Int)(i:Nat):List Int:=(hts l i).map (b + ·)
def Jj:Sp:=fun vs H Q _=>∃ (l:List Bool) (bg:Int),vs=[.str (Au l),.int bg]/\l.length<=1000/\∀ p H',Al H H'->H p=none->H' p=some (.lst ((htB l bg l.length).map V.int))->Q (.ref p) H'
theorem Tv {f:Addr}{fd:FuncData}(F:Fun K "heights_of" "heights_of" Gv f fd)(T:Txt K mg a_ONES_OF_FOUR a_SIGNS_OF_FOUR):Ax P w K mg base CX0 1 f fd ["text","begin"] Jj:=by
 refine F.ok Em (fun vs H Q E h=>?_) (fun cdv A outer s H vs Q E hr h=>?_)
 ·obtain ⟨l,bg,rfl,_⟩:=h
  rfl
 ·obtain ⟨l,bg,rfl,hl,q⟩:=h
  refine ⟨_,(Ab (An (i:=2) Em.nd rfl (Or.inl rfl) (pv 1))
   (Ab (An (i:=3) Em.nd rfl (Or.inl rfl) (By Aa))
   (Ab (E4 PassesOwn.never rfl (tH (pv 0)) (Bl (i:=4) Em.nd rfl (Or.inl rfl))
   (Ab (Ha (i:=2) Em.nd rfl (Or.inl rfl) (B2 (As Fm (pv 4) Fq (Aw _)) Ag (Gh Dy Ag)) J6)
   (Ae (Bi (Eg PySem.F.plainAttrs_list PySem.F.slot_list_append PySem.F.type_list_append Cb (pv 3) (Af (pv 2) Aa rfl))))))
   (Ae (Am (pv 3)))))),?_⟩
  k_is
  refine ⟨Nat.zero_le _,fun p hp=>?_⟩
  k_is
  refine ⟨_,rfl,?_⟩
  refine pR (fun i σ H1=>∃ v:Option V,σ=[some (.str (Au l)),some (.int bg),some (.int (bg+hgt l i)),some (.ref p),v]/\H1 p=some (.lst ((htB l bg i).map V.int))/\Al H H1) ⟨_,by rw [show bg+hgt l 0=bg by unfold hgt;simp];rfl,Ac,Ah hp⟩ ?_ ?_
  ·rintro i c σ H1 hc ⟨v,rfl,hp1,sm⟩
   obtain ⟨b,hb,rfl⟩:=gJ hc
   have hi:=Cy hb
   have hh:=Nb hb
   have hz1:((htB l bg i).map V.int).length<sizeLine:=by
    rw [List.length_map]
    unfold htB hts
    rw [List.length_map,List.length_map,List.length_range]
    exact D5 (by omega)
   have fin:∀ d:Int,hgt l (i+1)=hgt l i+d->∃ v:Option V,[some (V.str (Au l)),some (V.int bg),some (V.int (bg+hgt l i+d)),some (V.ref p),some (V.str (sgn (if b then 49 else 48)))]=[some (V.str (Au l)),some (V.int bg),some (V.int (bg+hgt l (i+1))),some (V.ref p),v] /\
     (upd H1 p (.lst ((htB l bg i).map V.int++[V.int (bg+hgt l i+d)]))) p=some (.lst ((htB l bg (i+1)).map V.int))/\Al H (upd H1 p (.lst ((htB l bg i).map V.int++[V.int (bg+hgt l i+d)]))):=fun d hd=>by
    refine ⟨_,by rw [hd,Int.add_assoc],?_,fun b' u e=>?_⟩
    ·unfold htB
     rw [Ac,kE,hd,List.map_append,List.map_append,Int.add_assoc]
     rfl
    ·rw [Ap (Ar e hp)]
     exact sm _ _ e
   k_is
   refine B6 (fun h1=>?_) (fun h1=>?_)
   ·have hd:hgt l (i+1)=hgt l i+1:=by cases b with | true=>exact hh | false=>exact absurd h1 (by decide)
    k_is
    refine ⟨.inl ⟨rfl,_,SqL.of hp1⟩,?_⟩
    k_is
    exact De hp1 hz1 (fin 1 hd)
   ·have hd:hgt l (i+1)=hgt l i + -1:=by cases b with | false=>exact hh | true=>exact absurd rfl h1
    k_is
    refine ⟨.inl ⟨rfl,_,SqL.of hp1⟩,?_⟩
    k_is
    exact De hp1 hz1 (fin (-1) hd)
  ·rintro σ H1 ⟨v,rfl,hp1,sm⟩
   rw [show (Au l).cps.size=l.length from A7 l] at *
   k_is
   exact q p H1 sm hp hp1
def Y6:Sp:=fun vs H Q _=>∃ l:List Bool,vs=[.str (Au l)]/\Vs 0 l/\l.length<=8000/\∀ H',Al H H'->Q .non H'
theorem Xb {f : Addr}{fd : FuncData}(F : Fun K "check_row" "check_row" Hn f fd)(T : Txt K mg a_ONES_OF_FOUR a_SIGNS_OF_FOUR) : Ax P w K mg base CX0 1 f fd ["text"] Y6 := by
  refine F.ok Fp (fun vs H Q E h => ?_) (fun cdv A outer s H vs Q E hr h => ?_)
  · obtain ⟨l, rfl, _⟩ := h
    rfl
  · obtain ⟨l, rfl, hv, hn, q⟩ := h
    refine ⟨_, (Ab (B4 (Hd (Dl (Av Gg (by rfl) T.n_isinstance Fg (Af (pv 0) (Af (Nh (v := .ty "str") rfl T.n_str sJ rfl) Aa rfl) rfl)))) (Ae Cw)
      A9)
      (Ab (An (i := 1) Fp.nd rfl (Or.inl rfl) Ag)
      (Ab (E4 PassesOwn.never rfl (jU rfl T.n_enumerate (Af (pv 0) Aa rfl)) (Mg rfl (Cc (Bl (i := 2) Fp.nd rfl (Or.inl rfl)) (Cc (Bl (i := 3) Fp.nd rfl (Or.inl rfl)) Ka)))
      (Ab (Ha (i := 1) Fp.nd rfl (Or.inl rfl) (B2 (As Fm (pv 3) Fq (Aw _)) Ag (Gh Dy Ag)) J6)
      (Ae (B4 (PW.pt (O1 (As Xx (pv 3) Fq rfl) (O1 (As L7 (pv 1) Ag (Aw _)) (Oc (As Fm (pv 2) (Ba rfl T.g_MOST_SIGNS) (Aw _)))))) (Ae Cw)
      A9))))
      (Ae (B4 (As Ir (pv 1) Ag (Aw _)) (Ae Cw)
      A9))))), ?_⟩
    k_is
    refine ⟨_, _, _, _, rfl, .str _, O2, ?_⟩
    k_is
    refine ⟨_, rfl, ?_⟩
    refine gM (fun i σ H1 => (∃ v2 v3 : Option V, σ = [some (.str (Au l)), some (.int (hgt l i)), v2, v3])/\Al H H1) ⟨⟨_, _, rfl⟩, Al.refl _⟩ ?_ ?_
    · rintro i c σ H1 t hc ⟨⟨v2, v3, rfl⟩, s1⟩ ht
      obtain ⟨b, hb, rfl⟩ := gJ hc
      have hi := Cy hb
      have hs := Nb hb
      obtain ⟨h, hh, _⟩ := Z1 hv (i + 1) (by omega)
      have s2 := s1.trans (Ah (o := .tup [.int i, .str (sgn (if b then 49 else 48))]) ht)
      generalize upd H1 t (.tup [.int i, .str (sgn (if b then 49 else 48))]) = H2 at *
      k_is
      cases b with
      | true =>
        refine B6 (fun _ => ?_) (fun h => absurd rfl h)
        k_is
        refine ⟨_, _, rfl, rfl, ?_⟩
        k_is
        have hs : hgt l (i + 1) = hgt l i + 1 := hs
        rw [<- hs, hh]
        rw [show (!(!(Builtin.Str.occurrences ("01" : Str) (sgn (if true = true then 49 else 48)) 0 ("01" : Str).length 1).isEmpty)) = false by decide +kernel]
        k_is
        refine B6 (fun h => by omega) (fun _ => ?_)
        k_is
        refine B6 (fun h => ?_) (fun _ => ?_)
        · have := V.int.inj h
          omega
        k_is
        exact ⟨⟨_, _, rfl⟩, s2⟩
      | false =>
        refine B6 (fun h => absurd h (by decide)) (fun _ => ?_)
        k_is
        refine ⟨_, _, rfl, rfl, ?_⟩
        k_is
        have hs : hgt l (i + 1) = hgt l i + -1 := hs
        rw [<- hs, hh]
        rw [show (!(!(Builtin.Str.occurrences ("01" : Str) (sgn (if false = true then 49 else 48)) 0 ("01" : Str).length 1).isEmpty)) = false by decide +kernel]
        k_is
        refine B6 (fun h => by omega) (fun _ => ?_)
        k_is
        refine B6 (fun h => ?_) (fun _ => ?_)
        · have := V.int.inj h
          omega
        k_is
        exact ⟨⟨_, _, rfl⟩, s2⟩
    · rintro σ H1 ⟨⟨v2, v3, rfl⟩, s1⟩
      rw [show (Au l).cps.size = l.length from A7 l]
      obtain ⟨h, hh, hv2, _⟩ := Z1 hv l.length (Nat.le_refl _)
      rw [List.drop_of_length_le (Nat.le_refl _)] at hv2
      have hv2 : h = 0 := hv2
      k_is
      refine B6 (fun h => by omega) (fun _ => ?_)
      k_is
      exact q H1 s1
def Jl (b:V):List (Str×V):=[("bits",b)]
def G6 (b c:V):List (Str×V):=[("bits",b),("counts",c)]
def mT (b c n t o:V):List (Str×V):=[("bits",b),("counts",c),("length",n),("kept_table",t),("often_least",o)]
def Xi (K:PySem.W.Frag)(CP:Addr):Sp:=fun vs H Q _=>∃ (x dx:Addr) (b c n t o:V),vs=[.ref x,n,t,o]/\H x=some (.ins CP dx (G6 b c))/\Q .non (upd H x (.ins CP dx (mT b c n t o)))
theorem Ye {f:Addr}{fd:FuncData}(F:Fun K "__init__" "Heights.__init__" Fv f fd)(T:Txt K mg a_ONES_OF_FOUR a_SIGNS_OF_FOUR)(Z:Qb K C_Pairs):Ax P w K mg base CX0 1 f fd ["self","length","table","often_least"] (Xi K C_Pairs):=by
 refine F.ok Pj (fun vs H Q E h=>?_) (fun cdv A outer s H vs Q E hr h=>?_)
 ·obtain ⟨x,dx,b,c,n,t,o,rfl,_⟩:=h
  rfl
 ·obtain ⟨x,dx,b,c,n,t,o,rfl,hx,q⟩:=h
  refine ⟨_,(Ab (Ft (pv 0) (pv 1) rfl)
   (Ab (Ft (pv 0) (pv 2) rfl)
   (Ae (Ft (pv 0) (pv 3) rfl)))),?_⟩
  k_is
  refine Ds hx Z.cl Z.n_length (show 2<1000 by decide) ?_
  k_is
  refine Ds Ac Z.cl Z.n_kept_table (show 3<1000 by decide) ?_
  rw [Pu]
  k_is
  refine Ds Ac Z.cl Z.n_often_least (show 4<1000 by decide) ?_
  rw [Pu]
  exact q
def Y3 (K:PySem.W.Frag)(CC CP:Addr):Sp:=fun vs H Q _=>∃ (x dx c:Addr) (fs:List (Str×V)) (l:List Bool) (n:Nat),vs=[.ref x,.int n]/\H x=some (.ins CP dx fs)/\fs.lookup ("counts":Str)=some (.ref c)/\Bh K CC H c l/\n<=l.length/\∀ H',Al H H'->Q (.int ((occ true l n).length:Nat)) H'
theorem Q9 {f:Addr}{fd:FuncData}(F:Fun K "opens_ahead" "Pairs.opens_ahead" Cl f fd)(T:Txt K mg a_ONES_OF_FOUR a_SIGNS_OF_FOUR)(Z:Qb K C_Pairs)(Qv:Mth P w K mg base C_Counts "ahead" 4 ["self","bit","place"] (Px K C_Counts)):Ax P w K mg base CX0 5 f fd ["self","place"] (Y3 K C_Counts C_Pairs):=by
 refine F.ok Ko (fun vs H Q E h=>?_) (fun cdv A outer s H vs Q E hr h=>?_)
 ·obtain ⟨x,dx,c,fs,l,n,rfl,_⟩:=h
  rfl
 ·obtain ⟨x,dx,c,fs,l,n,rfl,hx,hc,hC,hn,q⟩:=h
  refine ⟨_,(Ae (Am (A4 Qv (hr.mono (by decide:4<=_)) (A0 (pv 0) rfl) (Af Ag (Af (pv 1) Aa rfl) rfl)))),?_⟩
  k_is
  refine ⟨x,C_Pairs,dx,fs,.ref c,rfl,hx,Z.cl,Z.n_counts,hc,?_⟩
  obtain ⟨dc,t,u,hc1,_⟩:=id hC
  k_is
  refine ⟨c,dc,_,rfl,hc1,rfl,?_⟩
  k_is
  exact ⟨c,l,true,n,rfl,hC,hn,q⟩
def Nj (K:PySem.W.Frag)(CC CP:Addr):Sp:=fun vs H Q _=>∃ (x dx c:Addr) (fs:List (Str×V)) (l:List Bool) (n:Nat),vs=[.ref x,.int n]/\H x=some (.ins CP dx fs)/\fs.lookup ("counts":Str)=some (.ref c)/\Bh K CC H c l/\n<=l.length/\∀ H',Al H H'->Q (.int ((occ false l n).length:Nat)) H'
theorem Q4 {f:Addr}{fd:FuncData}(F:Fun K "closes_ahead" "Pairs.closes_ahead" Ce f fd)(T:Txt K mg a_ONES_OF_FOUR a_SIGNS_OF_FOUR)(Z:Qb K C_Pairs)(Qv:Mth P w K mg base C_Counts "ahead" 4 ["self","bit","place"] (Px K C_Counts)):Ax P w K mg base CX0 5 f fd ["self","place"] (Nj K C_Counts C_Pairs):=by
 refine F.ok Kh (fun vs H Q E h=>?_) (fun cdv A outer s H vs Q E hr h=>?_)
 ·obtain ⟨x,dx,c,fs,l,n,rfl,_⟩:=h
  rfl
 ·obtain ⟨x,dx,c,fs,l,n,rfl,hx,hc,hC,hn,q⟩:=h
  refine ⟨_,(Ae (Am (A4 Qv (hr.mono (by decide:4<=_)) (A0 (pv 0) rfl) (Af Ag (Af (pv 1) Aa rfl) rfl)))),?_⟩
  k_is
  refine ⟨x,C_Pairs,dx,fs,.ref c,rfl,hx,Z.cl,Z.n_counts,hc,?_⟩
  obtain ⟨dc,t,u,hc1,_⟩:=id hC
  k_is
  refine ⟨c,dc,_,rfl,hc1,rfl,?_⟩
  k_is
  exact ⟨c,l,false,n,rfl,hC,hn,q⟩
def Ix (K:PySem.W.Frag)(CC CP:Addr):Sp:=fun vs H Q _=>∃ (x dx c:Addr) (fs:List (Str×V)) (l:List Bool) (n:Nat),vs=[.ref x,.int n]/\H x=some (.ins CP dx fs)/\fs.lookup ("counts":Str)=some (.ref c)/\fs.lookup ("opens_ahead":Str)=none/\Bh K CC H c l/\n<=l.length/\∀ H',Al H H'->Q (.int (2*((occ true l n).length:Int)-n)) H'
theorem Wu {f:Addr}{fd:FuncData}(F:Fun K "height" "Heights.height" Ed f fd)(T:Txt K mg a_ONES_OF_FOUR a_SIGNS_OF_FOUR)(Z:Qb K C_Pairs)(Wf:Mth P w K mg base C_Pairs "opens_ahead" 5 ["self","place"] (Y3 K C_Counts C_Pairs)):Ax P w K mg base CX0 6 f fd ["self","place"] (Ix K C_Counts C_Pairs):=by
 refine F.ok M4 (fun vs H Q E h=>?_) (fun cdv A outer s H vs Q E hr h=>?_)
 ·obtain ⟨x,dx,c,fs,l,n,rfl,_⟩:=h
  rfl
 ·obtain ⟨x,dx,c,fs,l,n,rfl,hx,hc,ho,hC,hn,q⟩:=h
  refine ⟨_,(Ae (Am (Aj Bn (Aj Hb Ag (A4 Wf (hr.mono (by decide:5<=_)) (pv 0) (Af (pv 1) Aa rfl))) (pv 1)))),?_⟩
  k_is
  refine ⟨x,dx,fs,rfl,hx,ho,?_⟩
  k_is
  refine ⟨x,dx,c,fs,l,n,rfl,hx,hc,hC,hn,fun H' s=>?_⟩
  k_is
  exact q H' s
def J5 (K:PySem.W.Frag)(CB CP:Addr):Sp:=fun vs H Q _=>∃ (x dx b:Addr) (fs:List (Str×V)) (l:List Bool) (i j:Nat),vs=[.ref x,.int i,.int j]/\H x=some (.ins CP dx fs)/\fs.lookup ("bits":Str)=some (.ref b)/\Ez K CB H b l/\i<=j/\j<=l.length/\∀ H',Al H H'->Q (.str (Au ((l.drop i).take (j-i)))) H'
theorem W3 {f:Addr}{fd:FuncData}(F:Fun K "stretch" "Pairs.stretch" Es f fd)(T:Txt K mg a_ONES_OF_FOUR a_SIGNS_OF_FOUR)(Z:Qb K C_Pairs)(Yj:Mth P w K mg base C_Bits "stretch" 5 ["self","low","high"] (N9 K C_Bits)):Ax P w K mg base CX0 6 f fd ["self","low","high"] (J5 K C_Bits C_Pairs):=by
 refine F.ok Ou (fun vs H Q E h=>?_) (fun cdv A outer s H vs Q E hr h=>?_)
 ·obtain ⟨x,dx,b,fs,l,i,j,rfl,_⟩:=h
  rfl
 ·obtain ⟨x,dx,b,fs,l,i,j,rfl,hx,hb,hB,hij,hj,q⟩:=h
  refine ⟨_,(Ae (Am (A4 Yj (hr.mono (by decide:5<=_)) (A0 (pv 0) rfl) (Af (pv 1) (Af (pv 2) Aa rfl) rfl)))),?_⟩
  k_is
  refine ⟨x,C_Pairs,dx,fs,.ref b,rfl,hx,Z.cl,Z.n_bits,hb,?_⟩
  obtain ⟨db,t,hb1,_⟩:=id hB
  k_is
  refine ⟨b,db,_,rfl,hb1,rfl,?_⟩
  k_is
  exact ⟨b,l,i,j,rfl,hB,hij,hj,q⟩
def bgH (l:List Bool)(t:Nat):Int:=2*((occ true l (t*256)).length:Int)-(t*256:Nat)
def sgH (l:List Bool)(t:Nat):List Bool:=(l.drop (t*256)).take 256
theorem pP (l:List Bool)(t:Nat):(sgH l t).length<=1000:=by unfold sgH;rw [List.length_take];omega
def Si (l:List Bool)(t:Nat):List Int:=htB (sgH l t) (bgH l t) (sgH l t).length
def mO (l:List Bool)(H:Hp)(r:Addr)(j:Nat):Prop:=∃ mn mx:Int,H r=some (.tup [.int (bgH l j),.int mn,.int mx])/\Vi (Si l j) mn/\cI (Si l j) mx
def Oz (l:List Bool)(H:Hp)(t:Addr):Prop:=∃ rs:List Addr,H t=some (.tup (rs.map V.ref))/\rs.length=(l.length+256-1)/256/\∀ (j:Nat) r,rs[j]?=some r->mO l H r j
theorem Oz.keep {l:List Bool}{H H':Hp}{t:Addr}(k:∀ b xs,H b=some (.tup xs)->H' b=some (.tup xs))(h:Oz l H t):Oz l H' t:=by
 obtain ⟨rs,h1,h2,h3⟩:=h
 refine ⟨rs,k _ _ h1,h2,fun j r e=>?_⟩
 obtain ⟨mn,mx,e1,e2,e3⟩:=h3 j r e
 exact ⟨mn,mx,k _ _ e1,e2,e3⟩
theorem Oz.same {l:List Bool}{H H':Hp}{t:Addr}(s:Al H H')(h:Oz l H t):Oz l H' t:=h.keep fun b xs e=>s _ _ e
def Bs (K:PySem.W.Frag)(CB CC CP:Addr)(H:Hp)(x:Addr)(l:List Bool):Prop:=∃ (dx b c t:Addr) (o:V),H x=some (.ins CP dx (mT (.ref b) (.ref c) (.int (l.length:Nat)) (.ref t) o))/\Ez K CB H b l/\Bh K CC H c l/\Oz l H t/\Vs 0 l/\l.length<=8192
theorem Bs.same {K:PySem.W.Frag}{CB CC CP:Addr}{H H':Hp}{x:Addr}{l:List Bool}(h:Bs K CB CC CP H x l)(s:Al H H'):Bs K CB CC CP H' x l:=by
 obtain ⟨dx,b,c,t,o,h1,h2,h3,h4,h5⟩:=h
 exact ⟨dx,b,c,t,o,s _ _ h1,h2.same s,h3.same s,h4.same s,h5⟩
def fM (K:PySem.W.Frag)(CB CC CP:Addr):Sp:=fun vs H Q _=>∃ (x:Addr) (l:List Bool),vs=[.ref x]/\Bs K CB CC CP H x l/\Q (.int (l.length:Nat)) H
theorem Yg {f:Addr}{fd:FuncData}(F:Fun K "size" "Heights.size" Fn f fd)(T:Txt K mg a_ONES_OF_FOUR a_SIGNS_OF_FOUR)(Z:Qb K C_Pairs):Ax P w K mg base CX0 1 f fd ["self"] (fM K C_Bits C_Counts C_Pairs):=by
 refine F.ok Pb (fun vs H Q E h=>?_) (fun cdv A outer s H vs Q E hr h=>?_)
 ·obtain ⟨x,l,rfl,_⟩:=h
  rfl
 ·obtain ⟨x,l,rfl,⟨dx,b,c,t,o,hx,_⟩,q⟩:=h
  refine ⟨_,(Ae (Am (A0 (pv 0) rfl))),?_⟩
  k_is
  exact ⟨x,C_Pairs,dx,_,_,rfl,hx,Z.cl,Z.n_length,rfl,q⟩
def Xg (K:PySem.W.Frag)(CB CC CP:Addr):Sp:=fun vs H Q _=>∃ (x:Addr) (l:List Bool),vs=[.ref x]/\Bs K CB CC CP H x l/\∀ H',Al H H'->Q (.str (Au l)) H'
theorem Yh {f:Addr}{fd:FuncData}(F:Fun K "text" "Heights.text" Fk f fd)(T:Txt K mg a_ONES_OF_FOUR a_SIGNS_OF_FOUR)(Z:Qb K C_Pairs)(Qu:Mth P w K mg base C_Pairs "stretch" 6 ["self","low","high"] (J5 K C_Bits C_Pairs)):Ax P w K mg base CX0 7 f fd ["self"] (Xg K C_Bits C_Counts C_Pairs):=by
 refine F.ok Pl (fun vs H Q E h=>?_) (fun cdv A outer s H vs Q E hr h=>?_)
 ·obtain ⟨x,l,rfl,_⟩:=h
  rfl
 ·obtain ⟨x,l,rfl,⟨dx,b,c,t,o,hx,hB,hC,_⟩,q⟩:=h
  refine ⟨_,(Ae (Am (A4 Qu (hr.mono (by decide:6<=_)) (pv 0) (Af Ag (Af (A0 (pv 0) rfl) Aa rfl) rfl)))),?_⟩
  k_is
  refine ⟨x,dx,_,rfl,hx,rfl,?_⟩
  k_is
  refine ⟨x,C_Pairs,dx,_,_,rfl,hx,Z.cl,Z.n_length,rfl,?_⟩
  k_is
  refine ⟨x,dx,b,_,l,0,l.length,rfl,hx,rfl,hB,Nat.zero_le _,Nat.le_refl _,fun H' s=>?_⟩
  simpa using q H' s
theorem Je {H1 H2:Hp}{x dx C:Addr}(hx:H1 x=none)(hd:H1 dx=none)(s:SameBut x (upd (upd H1 dx (.own x)) x (.ins C dx [])) H2):Al H1 H2:=fun b u e=>s b u (Ar e hx) (by rw [Ap (Ar e hx),Ap (Ar e hd)];exact e)
theorem R9 {H1:Hp}{x dx:Addr}{o o':HO}(hx:H1 x=none)(hd:H1 dx=none):Al H1 (upd (upd H1 dx o) x o'):=fun b u e=>by rw [Ap (Ar e hx),Ap (Ar e hd)];exact e
theorem J8 {K:PySem.W.Frag}{C x b:Addr}{H H':Hp}{l:List Bool}(s:SameBut x H H')(n:mS H x)(hne:b≠x)(h:Bh K C H b l):Bh K C H' b l:=by
 obtain ⟨dx,t,u,h1,h2,h3,h4⟩:=h
 exact ⟨dx,t,u,s _ _ hne h1,s _ _ (fun e=>by subst e;exact (n _).1 (.inl h2)) h2,s _ _ (fun e=>by subst e;exact (n _).1 (.inl h3)) h3,h4⟩
def Yz (K:PySem.W.Frag)(CB CC CP:Addr):Sp:=fun vs H Q _=>∃ (x dx:Addr) (l:List Bool),vs=[.ref x,.str (Au l)]/\H x=some (.ins CP dx [])/\Vs 0 l/\l.length<=8000/\∀ H',SameBut x H H'->Bs K CB CC CP H' x l->Q .non H'
theorem Yp {f : Addr}{fd : FuncData}(F : Fun K "__init__" "Pairs.__init__" Cf f fd)(T : Txt K mg a_ONES_OF_FOUR a_SIGNS_OF_FOUR)(Z : Qb K C_Pairs)(c_check_row : Cal P w K mg base "check_row" 1 ["text"] Y6)(c_Bits : Mkr P w K mg base "Bits" C_Bits 3 ["self", "text"] (Mb K C_Bits))
    (c_Counts : Mkr P w K mg base "Counts" C_Counts 3 ["self", "bits"] (Ju K C_Bits C_Counts))(Qf : Mth P w K mg base C_Pairs "height" 6 ["self", "place"] (Ix K C_Counts C_Pairs))(c_heights_of : Cal P w K mg base "heights_of" 1 ["text", "begin"] Jj)
    (Yi : tX P w K mg base "Heights" "__init__" 1 ["self", "length", "table", "often_least"] (Xi K C_Pairs)) : Ax P w K mg base CX0 7 f fd ["self", "text"] (Yz K C_Bits C_Counts C_Pairs) := by
  refine F.ok Ep (fun vs H Q E h => ?_) (fun cdv A outer s H vs Q E hr h => ?_)
  · obtain ⟨x, dx, l, rfl, _⟩ := h
    rfl
  · obtain ⟨x, dx, l, rfl, hx, hV, hl8, q⟩ := h
    refine ⟨_, (Ab (Bi (Bb c_check_row (hr.mono (by decide : 1 <= _)) (Af (pv 1) Aa rfl)))
      (Ab (Ft (pv 0) (Zf c_Bits (hr.mono (by decide : 4 <= _)) (Af (pv 1) Aa rfl)) rfl)
      (Ab (Ft (pv 0) (Zf c_Counts (hr.mono (by decide : 4 <= _)) (Af (A0 (pv 0) rfl) Aa rfl)) rfl)
      (Ab (An (i := 2) Ep.nd rfl (Or.inl rfl) (Sd rfl rfl T.n_list rfl T.n_range (Af Ag (Af (Av Cz (by rfl) T.n_len Ef (Af (pv 1) Aa rfl)) (Af (Ba rfl T.g_STRETCH_BITS) Aa rfl) rfl) rfl)))
      (Ab (Ld (i := 3) rfl Pk Ep.nd rfl rfl (Eb (pv 2)) (fun _ _ _ _ => Db) (fun _ _ _ _ => (A4 Qf (hr.mono (by decide : 6 <= _)) (pv 1) (Af (pv 0) Aa rfl))))
      (Ab (U1 (i := 4) rfl O9 Ep.nd rfl rfl (kT rfl T.n_zip (Af (pv 2) (Af (pv 3) Aa rfl) rfl)) (fun _ _ _ _ => Db) (fun _ _ _ _ => (Bb c_heights_of (hr.mono (by decide : 1 <= _)) (Af (Cs Rb (pv 2) (Bw (pv 0)) (Bw (Aj Bd (pv 0) (Ba rfl T.g_STRETCH_BITS)))) (Af (pv 1) Aa rfl) rfl))))
      (Ab (U1 (i := 5) rfl Ph Ep.nd rfl rfl (kT rfl T.n_zip (Af (pv 3) (Af (pv 4) Aa rfl) rfl)) (fun _ _ _ _ => Db) (fun _ _ _ _ => (N8 (Af (pv 0) (Af (Av (Sq K rfl) (by rfl) T.n_min Ul (Af (pv 1) Aa rfl)) (Af (Av (dQ K rfl) (by rfl) T.n_max rV (Af (pv 1) Aa rfl)) Aa rfl) rfl) rfl))))
      (Ae (Bi (xS Yi (hr.mono (by decide : 1 <= _)) rfl (Af (pv 0) (Af (Av Cz (by rfl) T.n_len Ef (Af (pv 1) Aa rfl)) (Af (Dk Ig (by rfl) T.n_tuple Vl (Af (pv 5) Aa rfl)) (Af (Nq rfl O8 (Eb (pv 4)) (fun _ _ _ _ => Db) (fun _ _ _ _ => (vF K PySem.F.plainAttrs_list PySem.F.slot_list_count PySem.F.type_list_count iJ (pv 0) (Af (Av (Sq K rfl) (by rfl) T.n_min Ul (Af (pv 0) Aa rfl)) Aa rfl)))) Aa rfl) rfl) rfl) rfl))))))))))), ?_⟩
    k_is
    refine ⟨l, rfl, hV, hl8, fun H1 s1 => ?_⟩
    have hl : l.length <= 8192 := by omega
    have hx1 := s1 _ _ hx
    k_is
    intro b db hb hdb hbd
    refine ⟨b, db, l, rfl, Ac, by omega, fun H2 s2 hB2 => ⟨rfl, ?_⟩⟩
    have s2 := Je hb hdb s2
    have hx2 := s2 _ _ hx1
    have nbx : b ≠ x := (Ar hx1 hb).symm
    k_is
    refine Ds hx2 Z.cl Z.n_bits (show 0 < 1000 by decide) ?_
    rw [show Gk ("bits" : Str) (V.ref b) [] = (Jl (.ref b)) from rfl]
    have hB3 : Ez K C_Bits (upd H2 x (.ins C_Pairs dx (Jl (.ref b)))) b l := He Be (E8 hx2) nbx hB2
    have hx3 : upd H2 x (.ins C_Pairs dx (Jl (.ref b))) x = some (.ins C_Pairs dx (Jl (.ref b))) := Ac
    have b3 : SameBut x H2 (upd H2 x (.ins C_Pairs dx (Jl (.ref b)))) := Be
    generalize upd H2 x (.ins C_Pairs dx (Jl (.ref b))) = H3 at *
    k_is
    refine ⟨x, C_Pairs, dx, _, .ref b, rfl, hx3, Z.cl, Z.n_bits, rfl, ?_⟩
    k_is
    intro c dc hc hdc hcd
    refine ⟨c, dc, b, l, rfl, Ac, hB3.same (R9 hc hdc), fun H4 s4 hC4 => ⟨rfl, ?_⟩⟩
    have s4 := Je hc hdc s4
    have hx4 := s4 _ _ hx3
    have ncx : c ≠ x := (Ar hx3 hc).symm
    have hB4 := hB3.same s4
    k_is
    refine Ds hx4 Z.cl Z.n_counts (show 1 < 1000 by decide) ?_
    rw [show Gk ("counts" : Str) (V.ref c) (Jl (.ref b)) = G6 (.ref b) (.ref c) from rfl]
    have hB5 : Ez K C_Bits (upd H4 x (.ins C_Pairs dx (G6 (.ref b) (.ref c)))) b l := He Be (E8 hx4) nbx hB4
    have hC5 : Bh K C_Counts (upd H4 x (.ins C_Pairs dx (G6 (.ref b) (.ref c)))) c l := J8 Be (E8 hx4) ncx hC4
    have hx5 : upd H4 x (.ins C_Pairs dx (G6 (.ref b) (.ref c))) x = some (.ins C_Pairs dx (G6 (.ref b) (.ref c))) := Ac
    have b5 : SameBut x H4 (upd H4 x (.ins C_Pairs dx (G6 (.ref b) (.ref c)))) := Be
    have but5 : SameBut x H (upd H4 x (.ins C_Pairs dx (G6 (.ref b) (.ref c)))) := (((s1.trans s2).but.trans b3).trans s4.but).trans b5
    generalize upd H4 x (.ins C_Pairs dx (G6 (.ref b) (.ref c))) = H5 at *
    k_is
    refine ⟨_, rfl, Nat.le_of_lt (Ao (by rw [A7]; omega)), ?_⟩
    rw [A7]
    k_is
    refine ⟨l.length, 256, rfl, by omega, by decide, by decide, fun lo hlo => ?_⟩
    have u6 := Ah (o := .lst ((List.range ((l.length + 256 - 1) / 256)).map fun t : Nat => V.int (t * 256 : Nat))) hlo
    have hlo6 : upd H5 lo (.lst ((List.range ((l.length + 256 - 1) / 256)).map fun t : Nat => V.int (t * 256 : Nat))) lo = some (.lst ((List.range ((l.length + 256 - 1) / 256)).map fun t : Nat => V.int (t * 256 : Nat))) := Ac
    have hx6 := u6 _ _ hx5
    have hB6 := hB5.same u6
    have hC6 := hC5.same u6
    have but6 := but5.trans u6.but
    generalize upd H5 lo (.lst ((List.range ((l.length + 256 - 1) / 256)).map fun t : Nat => V.int (t * 256 : Nat))) = H6 at *
    obtain ⟨m, hm⟩ : ∃ m, (l.length + 256 - 1) / 256 = m := ⟨_, rfl⟩
    rw [hm] at hlo6
    have hll : ((List.range m).map fun t : Nat => V.int (t * 256 : Nat)).length = m := by rw [List.length_map, List.length_range]
    k_is
    refine ⟨lo, rfl, ⟨_, SqL.of hlo6⟩, ?_⟩
    refine Lg (xs := (List.range m).map fun t : Nat => V.int (t * 256 : Nat)) (SqL.of hlo6) (fun i => (List.range i).map fun t : Nat => V.int (bgH l t)) rfl (fun i hi => ?_) (fun i y H7 R A hy s7 _ hA => ?_) (fun D7 H7 hD7 s7 h7 => ?_)
    · rw [List.length_map, List.length_range]
      exact Ao (by omega)
    · have hi : i < m := by have := Cy hy; rw [hll] at this; exact this
      rw [List.getElem?_map, List.getElem?_range hi] at hy
      obtain rfl : y = V.int (i * 256 : Nat) := (Option.some.inj hy).symm
      k_is
      refine ⟨x, dx, _, rfl, s7 _ _ hx6, rfl, ?_⟩
      k_is
      refine ⟨x, dx, c, _, l, i * 256, rfl, s7 _ _ hx6, rfl, rfl, hC6.same s7, by omega, fun H8 s8 => ?_⟩
      refine hA _ _ ?_ s8
      rw [List.range_succ, List.map_append]
      rfl
    rw [hll] at h7
    have hx7 := s7 _ _ hx6
    have hB7 := hB6.same s7
    have hC7 := hC6.same s7
    have but7 := but6.trans s7.but
    have hlo7 := s7 _ _ hlo6
    have hbl : ((List.range m).map fun t : Nat => V.int (bgH l t)).length = m := by rw [List.length_map, List.length_range]
    k_is
    refine ⟨lo, D7, rfl, ⟨_, SqL.of hlo7⟩, ⟨_, SqL.of h7⟩, ?_⟩
    refine eR (SqL.of hlo7) (SqL.of h7) (fun D i zs H' => ∃ rs : List Addr, zs = rs.map V.ref/\rs.length = i/\∀ (j : Nat) r, rs[j]? = some r->r ≠ D/\H' r = some (.lst ((Si l j).map V.int))) (fun D H' _ _ => ⟨[], rfl, rfl, fun j r e => by cases e⟩) ?_ ?_ ?_ ?_ ?_
    · rintro D i zs H' us o hD ⟨rs, e1, e2, e3⟩
      exact ⟨rs, e1, e2, fun j r e => ⟨(e3 j r e).1, by rw [Ap (e3 j r e).1]; exact (e3 j r e).2⟩⟩
    · rintro D i zs H' hi ⟨rs, rfl, e2, e3⟩
      rw [List.length_map, e2]
      rw [hll, hbl] at hi
      exact Ao (by omega)
    · rintro D i zs H' H'' s ⟨rs, e1, e2, e3⟩
      exact ⟨rs, e1, e2, fun j r e => ⟨(e3 j r e).1, s _ _ (e3 j r e).2⟩⟩
    · intro D i zs y y2 H8 A R hy hy2 s8 hD0 hD8 hPv hA
      obtain ⟨rs, rfl, e2, e3⟩ := hPv
      have hi : i < m := by have := Cy hy; rw [hll] at this; exact this
      rw [List.getElem?_map, List.getElem?_range hi] at hy hy2
      obtain rfl : y = V.int (i * 256 : Nat) := (Option.some.inj hy).symm
      obtain rfl : y2 = V.int (bgH l i) := (Option.some.inj hy2).symm
      k_is
      refine ⟨_, rfl, Nat.le_of_lt (Ao (by rw [A7]; omega)), ?_⟩
      k_is
      have ec : Xk (Au l) (some ((i * 256 : Nat) : Int)) (some (((i * 256 : Nat) : Int) + 256)) = Au (sgH l i) := by
        have := Il l (i * 256) (i * 256 + 256)
        rw [Nat.add_sub_cancel_left] at this
        exact this
      rw [ec]
      refine ⟨sgH l i, bgH l i, rfl, pP l i, fun p H9 s9 hp h9 => ?_⟩
      refine hA _ _ s9 ⟨rs ++ [p], by rw [List.map_append]; rfl, by rw [List.length_append, e2]; rfl, fun j r e => ?_⟩
      by_cases hj : j < rs.length
      · rw [List.getElem?_append_left hj] at e
        exact ⟨(e3 j r e).1, s9 _ _ (e3 j r e).2⟩
      · have hj2 := Cy e
        rw [List.length_append] at hj2
        have hj3 : j = rs.length := by simp at hj2; omega
        subst hj3
        rw [List.getElem?_append_right (Nat.le_refl _), Nat.sub_self] at e
        obtain rfl : p = r := Option.some.inj e
        rw [e2]
        exact ⟨(Ar hD8 hp).symm, h9⟩
    · intro D8 zs H8 hD8 s8 hPv h8
      obtain ⟨rs, rfl, e2, e3⟩ := hPv
      rw [hll, hbl, Nat.min_self] at e2
      have hx8 := s8 _ _ hx7
      have hB8 := hB7.same s8
      have hC8 := hC7.same s8
      have but8 := but7.trans s8.but
      have h78 := s8 _ _ h7
      have hrl : (rs.map V.ref).length = m := by rw [List.length_map, e2]
      have hne : ∀ i, i < m->Si l i ≠ [] := fun i hi e => by
        have e := congrArg List.length e
        unfold Si htB hts sgH at e
        simp at e
        omega
      k_is
      refine ⟨D7, D8, rfl, ⟨_, SqL.of h78⟩, ⟨_, SqL.of h8⟩, ?_⟩
      refine eR (SqL.of h78) (SqL.of h8) (fun D i zs H' => ∃ ts : List Addr, zs = ts.map V.ref/\ts.length = i/\∀ (j : Nat) r, ts[j]? = some r->mO l H' r j) (fun D H' _ _ => ⟨[], rfl, rfl, fun j r e => by cases e⟩) ?_ ?_ ?_ ?_ ?_
      · rintro D i zs H' us o hD ⟨ts, e1, e2, e3⟩
        refine ⟨ts, e1, e2, fun j r e => ?_⟩
        obtain ⟨mn, mx, h1, h2⟩ := e3 j r e
        exact ⟨mn, mx, by rw [Ap (fun z => by rw [z, hD] at h1; cases h1)]; exact h1, h2⟩
      · rintro D i zs H' hi ⟨ts, rfl, e2, e3⟩
        rw [hbl, hrl] at hi
        rw [List.length_map, e2]
        exact Ao (by omega)
      · rintro D i zs H' H'' s ⟨ts, e1, e2, e3⟩
        refine ⟨ts, e1, e2, fun j r e => ?_⟩
        obtain ⟨mn, mx, h1, h2⟩ := e3 j r e
        exact ⟨mn, mx, s _ _ h1, h2⟩
      · intro D i zs y y2 H9 A R hy hy2 s9 hD0 hD9 hPv hA
        obtain ⟨ts, rfl, ts2, ts3⟩ := hPv
        have hi : i < m := by have := Cy hy; rw [hbl] at this; exact this
        rw [List.getElem?_map, List.getElem?_range hi] at hy
        obtain rfl : y = V.int (bgH l i) := (Option.some.inj hy).symm
        have er : rs[i]? = some (rs[i]'(by omega)) := List.getElem?_eq_getElem _
        generalize rs[i]'(by omega) = r at er
        rw [List.getElem?_map, er] at hy2
        obtain rfl : y2 = V.ref r := (Option.some.inj hy2).symm
        have hr9 := s9 _ _ (e3 i r er).2
        k_is
        refine ⟨r, Si l i, rfl, SqL.of hr9, hne i hi, fun mn hmn => ?_⟩
        k_is
        refine ⟨r, Si l i, rfl, SqL.of hr9, hne i hi, fun mx hmx => ?_⟩
        k_is
        refine ⟨few (by simp), fun tp htp => ?_⟩
        refine hA _ _ (Ah htp) ⟨ts ++ [tp], by rw [List.map_append]; rfl, by rw [List.length_append, ts2]; rfl, fun j q e => ?_⟩
        by_cases hj : j < ts.length
        · rw [List.getElem?_append_left hj] at e
          obtain ⟨mn', mx', h1, h2⟩ := ts3 j q e
          exact ⟨mn', mx', Ah htp _ _ h1, h2⟩
        · have hj2 := Cy e
          rw [List.length_append] at hj2
          have hj3 : j = ts.length := by simp at hj2; omega
          subst hj3
          rw [List.getElem?_append_right (Nat.le_refl _), Nat.sub_self] at e
          obtain rfl : tp = q := Option.some.inj e
          rw [ts2]
          exact ⟨mn, mx, Ac, hmn, hmx⟩
      · intro D9 zs H9 hD9 s9 hPv h9
        rw [hbl, hrl, Nat.min_self] at hPv
        obtain ⟨ts, rfl, ts2, ts3⟩ := hPv
        have hx9 := s9 _ _ hx8
        have hB9 := hB8.same s9
        have hC9 := hC8.same s9
        have but9 := but8.trans s9.but
        have h89 := s9 _ _ h8
        k_is
        refine ⟨_, rfl, Nat.le_of_lt (Ao (by rw [A7]; omega)), ?_⟩
        rw [A7]
        k_is
        refine ⟨D9, _, rfl, .inl ⟨SqL.of h9, fun tq htq => ?_⟩⟩
        have s10 := Ah (o := .tup (ts.map V.ref)) htq
        have hx10 := s10 _ _ hx9
        have hB10 := hB9.same s10
        have hC10 := hC9.same s10
        have but10 := but9.trans s10.but
        have h810 := s10 _ _ h89
        have e310 : ∀ (j : Nat) r, rs[j]? = some r->upd H9 tq (.tup (ts.map V.ref)) r = some (.lst ((Si l j).map V.int)) := fun j r e => s10 _ _ (s9 _ _ (e3 j r e).2)
        have hTab10 : Oz l (upd H9 tq (.tup (ts.map V.ref))) tq := ⟨ts, Ac, by rw [ts2, hm], fun j r e => by
          obtain ⟨mn, mx, h1, h2⟩ := ts3 j r e
          exact ⟨mn, mx, s10 _ _ h1, h2⟩⟩
        generalize upd H9 tq (.tup (ts.map V.ref)) = H10 at *
        k_is
        refine ⟨D8, rfl, ⟨_, SqL.of h810⟩, ?_⟩
        refine lN (SqL.of h810) (fun i ys H' => ys.length = i) (fun _ _ => rfl) (fun i ys H' D zs o _ h => h) (fun i ys H' hi h => ?_) ?_ ?_
        · rw [hrl] at hi
          rw [h]
          exact Ao (by omega)
        · intro i ys y H11 A R hy s11 hPv hA
          have hi : i < m := by have := Cy hy; rw [hrl] at this; exact this
          have er : rs[i]? = some (rs[i]'(by omega)) := List.getElem?_eq_getElem _
          generalize rs[i]'(by omega) = r at er
          rw [List.getElem?_map, er] at hy
          obtain rfl : y = V.ref r := (Option.some.inj hy).symm
          have hr := s11 _ _ (e310 i r er)
          k_is
          refine ⟨.inl ⟨rfl, _, SqL.of hr⟩, ?_⟩
          k_is
          refine ⟨r, Si l i, rfl, SqL.of hr, hne i hi, fun mn _ => ?_⟩
          k_is
          refine ⟨r, _, _, rfl, rfl, hr, G8 _, rfl, ?_⟩
          exact hA _ _ (Al.refl _) (by rw [List.length_append, hPv]; rfl)
        · intro D12 ys H12 hD12 s12 hPv h12
          have hx12 := s12 _ _ hx10
          k_is
          refine ⟨x, dx, .ref b, .ref c, .int (l.length : Nat), .ref tq, .ref D12, rfl, hx12, ?_⟩
          exact q _ ((but10.trans s12.but).trans Be) ⟨dx, b, c, tq, _, Ac, He Be (E8 hx12) nbx (hB10.same s12), J8 Be (E8 hx12) ncx (hC10.same s12), (hTab10.same s12).keep (fun b2 xs e => by rw [Ap (fun z => by rw [z, hx12] at e; cases e)]; exact e), hV, hl⟩
theorem Nk (l:List Bool)(i:Nat):2*((occ true l i).length:Int)-(i:Int)=hgt l i:=by
 unfold hgt
 rw [(M9 l i).1]
 rfl
theorem pL (l:List Bool)(a m j:Nat)(hj:j<=m):hgt l a+hgt ((l.drop a).take m) j=hgt l (a+j):=by
 unfold hgt
 rw [List.take_add,List.count_append,List.take_take,Nat.min_eq_left hj]
 omega
def hw (l:List Bool)(lo hi:Nat):List Int:=(List.range (hi-lo)).map fun j=>hgt l (lo+j+1)
theorem Vt (l:List Bool)(lo hi:Nat):(hw l lo hi).length=hi-lo:=by unfold hw;rw [List.length_map,List.length_range]
theorem oM {l:List Bool}{lo hi j:Nat}(h:j<hi-lo):(hw l lo hi)[j]?=some (hgt l (lo+j+1)):=by unfold hw;rw [List.getElem?_map,List.getElem?_range h];rfl
theorem Xq {l:List Bool}{lo hi i:Nat}(h1:lo<i)(h2:i<=hi):hgt l i∈hw l lo hi:=by
 unfold hw
 exact List.mem_map.mpr ⟨i-lo-1,List.mem_range.mpr (by omega),by rw [show lo+(i-lo-1)+1=i by omega]⟩
theorem mF {l:List Bool}{lo hi:Nat}(h1:lo<=hi)(h2:hi<=l.length):htB ((l.drop lo).take (hi-lo)) (hgt l lo) ((l.drop lo).take (hi-lo)).length=hw l lo hi:=by
 have e:((l.drop lo).take (hi-lo)).length=hi-lo:=by rw [List.length_take,List.length_drop];omega
 rw [e]
 unfold htB hts hw
 rw [List.map_map]
 refine List.map_congr_left fun j hj=>?_
 have:=List.mem_range.mp hj
 show hgt l lo+hgt ((l.drop lo).take (hi-lo)) (j+1)=_
 rw [pL l lo (hi-lo) (j+1) (by omega)]
 rfl
theorem sP (l:List Bool)(t:Nat):bgH l t=hgt l (t*256):=Nk l (t*256)
def aY (l:List Bool)(t:Nat):Nat:=min ((t+1)*256) l.length
theorem pC {l:List Bool}{t:Nat}(h:t*256<=l.length):Si l t=hw l (t*256) (aY l t):=by
 have e:sgH l t=(l.drop (t*256)).take (aY l t-t*256):=by
  unfold sgH aY
  by_cases h2:(t+1)*256<=l.length
  ·rw [Nat.min_eq_left h2,show (t+1)*256-t*256=256 by omega]
  ·rw [Nat.min_eq_right (by omega),List.take_of_length_le (by rw [List.length_drop];omega),List.take_of_length_le (by rw [List.length_drop];exact Nat.le_refl _)]
 unfold Si
 rw [e,sP]
 exact mF (by unfold aY;omega) (by unfold aY;omega)
def Hs:Sp:=fun vs H Q _=>∃ (x:V) (p:Nat),vs=[x,.int p]/\Q (.int ((p/256:Nat):Int)) H
theorem Wj {f:Addr}{fd:FuncData}(F:Fun K "stretch_at" "Pairs.stretch_at" C7 f fd)(T:Txt K mg a_ONES_OF_FOUR a_SIGNS_OF_FOUR)(Z:Qb K C_Pairs):Ax P w K mg base CX0 1 f fd ["self","place"] Hs:=by
 refine F.ok L1 (fun vs H Q E h=>?_) (fun cdv A outer s H vs Q E hr h=>?_)
 ·obtain ⟨x,p,rfl,_⟩:=h
  rfl
 ·obtain ⟨x,p,rfl,q⟩:=h
  refine ⟨_,(Ae (Am (Aj Dc (pv 1) (Ba rfl T.g_STRETCH_BITS)))),?_⟩
  k_is
  rw [show ((p:Int)/256)=((p/256:Nat):Int) by omega]
  exact q
def Oj (K:PySem.W.Frag)(CB CC CP:Addr):Sp:=fun vs H Q _=>∃ (x:Addr) (l:List Bool) (n:Nat),vs=[.ref x,.int n]/\Bs K CB CC CP H x l/\Q (.int ((min (n*256) l.length:Nat):Int)) H
theorem Wv {f:Addr}{fd:FuncData}(F:Fun K "begin_of" "Pairs.begin_of" Ee f fd)(T:Txt K mg a_ONES_OF_FOUR a_SIGNS_OF_FOUR)(Z:Qb K C_Pairs):Ax P w K mg base CX0 1 f fd ["self","number"] (Oj K C_Bits C_Counts C_Pairs):=by
 refine F.ok Ms (fun vs H Q E h=>?_) (fun cdv A outer s H vs Q E hr h=>?_)
 ·obtain ⟨x,l,n,rfl,_⟩:=h
  rfl
 ·obtain ⟨x,l,n,rfl,⟨dx,b,c,t,o,hx,_⟩,q⟩:=h
  refine ⟨_,(Ae (Am (Av (Ob rfl) (by rfl) T.n_min Ul (Af (Aj Hb (pv 1) (Ba rfl T.g_STRETCH_BITS)) (Af (A0 (pv 0) rfl) Aa rfl) rfl)))),?_⟩
  k_is
  refine ⟨x,C_Pairs,dx,_,_,rfl,hx,Z.cl,Z.n_length,rfl,?_⟩
  k_is
  refine ⟨_,_,rfl,?_⟩
  have e:(if (l.length:Int)<(n:Int)*256 then (l.length:Int) else (n:Int)*256)=((min (n*256) l.length:Nat):Int):=by
   split<;>omega
  rw [e]
  exact q
def pM (lo hi:Nat):Nat:=if lo<hi then (hi-1)/256-lo/256+1 else 0
def loN (lo i:Nat):Nat:=if i=0 then lo else (lo/256+i)*256
def hiN (lo hi i:Nat):Nat:=if i=(hi-1)/256-lo/256 then hi else (lo/256+i+1)*256
def pLo (lo hi:Nat):List Nat:=(List.range (pM lo hi)).map (loN lo)
def pHi (lo hi:Nat):List Nat:=(List.range (pM lo hi)).map (hiN lo hi)
theorem Pw (lo hi:Nat):(pLo lo hi).length=pM lo hi:=by unfold pLo;rw [List.length_map,List.length_range]
theorem Xs (lo hi:Nat):(pHi lo hi).length=pM lo hi:=by unfold pHi;rw [List.length_map,List.length_range]
theorem fF {lo hi i:Nat}(h:i<pM lo hi):lo<=loN lo i/\loN lo i<hiN lo hi i/\hiN lo hi i<=hi/\loN lo i/256=lo/256+i/\hiN lo hi i<=(lo/256+i+1)*256/\lo<hi:=by
 unfold pM at h
 split at h
 ·unfold loN hiN
  split<;>split<;>omega
 ·omega
theorem Sy {lo hi:Nat}(h:lo<hi):loN lo 0=lo/\0<pM lo hi:=⟨rfl,by unfold pM;rw [if_pos h];omega⟩
theorem U4 {lo hi i:Nat}(h:i+1<pM lo hi):hiN lo hi i=loN lo (i+1):=by
 unfold pM at h
 split at h
 ·unfold loN hiN
  rw [if_neg (by omega),if_neg (by omega),Nat.add_assoc]
 ·omega
theorem T5 {lo hi i:Nat}(h:i+1=pM lo hi):hiN lo hi i=hi:=by
 unfold pM at h
 split at h
 ·unfold hiN
  rw [if_pos (by omega)]
 ·omega
def P2 (K:PySem.W.Frag)(CB CC CP:Addr):Sp:=fun vs H Q _=>∃ (x:Addr) (l:List Bool) (lo:Nat) (hi:Int),vs=[.ref x,.int lo,.int hi]/\Bs K CB CC CP H x l/\hi<=(l.length:Int) /\
 ∀ p as H',Al H H'->H p=none->H' p=some (.lst (as.map V.ref))->uG H H' as (nV (pLo lo hi.toNat)) (nV (pHi lo hi.toNat))->Q (.ref p) H'
theorem W1 {f : Addr}{fd : FuncData}(F : Fun K "parts" "Heights.parts" Dg f fd)(T : Txt K mg a_ONES_OF_FOUR a_SIGNS_OF_FOUR)(Z : Qb K C_Pairs)(Qj : Mth P w K mg base C_Pairs "stretch_at" 1 ["self", "place"] Hs)(Wx : Mth P w K mg base C_Pairs "begin_of" 1 ["self", "number"] (Oj K C_Bits C_Counts C_Pairs)) : Ax P w K mg base CX0 2 f fd ["self", "low", "high"] (P2 K C_Bits C_Counts C_Pairs) := by
  refine F.ok Iq (fun vs H Q E h => ?_) (fun cdv A outer s H vs Q E hr h => ?_)
  · obtain ⟨x, l, lo, hi, rfl, _⟩ := h
    rfl
  · obtain ⟨x, l, lo, hi, rfl, hP, hl, q⟩ := h
    obtain ⟨dx, b, c, t, o, hx, _, _, _, _, hl8⟩ := id hP
    refine ⟨_, (Ab (B4 (As lB (pv 1) (pv 2) (Aw _)) (Ae (Am (By Aa)))
      A9)
      (Ab (Ld (i := 3) rfl Mh Iq.nd rfl rfl (iE rfl T.n_range (Af (Aj Bd (A4 Qj (hr.mono (by decide : 1 <= _)) (pv 0) (Af (pv 1) Aa rfl)) Ag) (Af (Aj Bd (A4 Qj (hr.mono (by decide : 1 <= _)) (pv 0) (Af (Aj Bn (pv 2) Ag) Aa rfl)) Ag) Aa rfl) rfl)) (fun _ _ _ _ => Db) (fun _ _ _ _ => (A4 Wx (hr.mono (by decide : 1 <= _)) (pv 1) (Af (pv 0) Aa rfl))))
      (Ae (Am (pW rfl rfl T.n_list rfl T.n_zip (Af (Aj Jz (By (Af (pv 1) Aa rfl)) (pv 3)) (Af (Aj Jz (pv 3) (By (Af (pv 2) Aa rfl))) Aa rfl) rfl)))))), ?_⟩
    k_is
    refine B6 (fun h0 => ?_) (fun h0 => ?_)
    · k_is
      refine ⟨Nat.zero_le _, fun p hp => ?_⟩
      have e : pM lo hi.toNat = 0 := by unfold pM; rw [if_neg (by omega)]
      refine q p [] _ (Ah hp) hp Ac ⟨?_, fun i t x y e => by cases e⟩
      unfold pLo
      rw [e]
      rfl
    · obtain ⟨hn, rfl⟩ : ∃ hn : Nat, hi = (hn : Int) := ⟨hi.toNat, by omega⟩
      rw [Int.toNat_natCast] at q
      have hlt : lo < hn := by omega
      obtain ⟨k1, hk1⟩ : ∃ k1, lo / 256 = k1 := ⟨_, rfl⟩
      obtain ⟨k2, hk2⟩ : ∃ k2, (hn - 1) / 256 = k2 := ⟨_, rfl⟩
      have hk12 : k1 <= k2 := by omega
      have hk33 : k2 <= 31 := by omega
      k_is
      refine ⟨x, dx, _, rfl, hx, rfl, ?_⟩
      k_is
      refine ⟨.ref x, lo, rfl, ?_⟩
      rw [hk1]
      k_is
      refine ⟨x, dx, _, rfl, hx, rfl, ?_⟩
      k_is
      refine ⟨.ref x, hn - 1, by rw [show ((hn - 1 : Nat) : Int) = (hn : Int) - 1 by omega]; rfl, ?_⟩
      rw [hk2]
      k_is
      refine ⟨_, _, rfl, ⟨by omega, by omega, by omega, by omega⟩, ?_⟩
      rw [show ((k2 : Int) + 1 - ((k1 : Int) + 1)).toNat = k2 - k1 by omega]
      refine aK (fun i => nV ((List.range i).map fun j => (k1 + 1 + j) * 256)) rfl (fun i hi => ?_) (fun i H1 R A hi s1 _ hA => ?_) (fun D1 H1 hD1 s1 h1 => ?_)
      · rw [El, List.length_map, List.length_range]
        exact Ao (by omega)
      · k_is
        refine ⟨x, dx, _, rfl, s1 _ _ hx, rfl, ?_⟩
        k_is
        refine ⟨x, l, k1 + 1 + i, by rw [show ((k1 + 1 + i : Nat) : Int) = (k1 : Int) + 1 + (i : Int) by omega]; rfl, hP.same s1, ?_⟩
        refine hA _ _ ?_ (Al.refl _)
        rw [Nat.min_eq_left (by omega), List.range_succ, List.map_append]
        unfold nV
        rw [List.map_append]
        rfl
      k_is
      refine ⟨few (by simp), fun a1 ha1 => ?_⟩
      have t1 := Ah (o := .lst [V.int (lo : Int)]) ha1
      have e1 : upd H1 a1 (.lst [V.int (lo : Int)]) a1 = some (.lst [V.int (lo : Int)]) := Ac
      have h12 := t1 _ _ h1
      have s2 := s1.trans t1
      generalize upd H1 a1 (.lst [V.int (lo : Int)]) = H2 at *
      obtain ⟨cs, hcs⟩ : ∃ cs, cs = (List.range (k2 - k1)).map fun j => (k1 + 1 + j) * 256 := ⟨_, rfl⟩
      have hcl : cs.length = k2 - k1 := by rw [hcs, List.length_map, List.length_range]
      rw [<- hcs] at h12
      k_is
      refine ⟨a1, D1, _, _, rfl, rfl, e1, h12, Nat.le_of_lt (Ao (by rw [El, hcl, List.length_singleton]; omega)), fun a2 ha2 => ?_⟩
      have t2 := Ah (o := .lst ([V.int (lo : Int)] ++ nV cs)) ha2
      have e2 : upd H2 a2 (.lst ([V.int (lo : Int)] ++ nV cs)) a2 = some (.lst (nV (lo :: cs))) := Ac
      have h13 := t2 _ _ h12
      have s3 := s2.trans t2
      generalize upd H2 a2 (.lst ([V.int (lo : Int)] ++ nV cs)) = H3 at *
      k_is
      refine ⟨few (by simp), fun a3 ha3 => ?_⟩
      have t3 := Ah (o := .lst [V.int (hn : Int)]) ha3
      have e3 : upd H3 a3 (.lst [V.int (hn : Int)]) a3 = some (.lst [V.int (hn : Int)]) := Ac
      have h14 := t3 _ _ h13
      have e23 := t3 _ _ e2
      have s4 := s3.trans t3
      generalize upd H3 a3 (.lst [V.int (hn : Int)]) = H4 at *
      k_is
      refine ⟨D1, a3, _, _, rfl, rfl, h14, e3, Nat.le_of_lt (Ao (by rw [El, hcl, List.length_singleton]; omega)), fun a4 ha4 => ?_⟩
      have t4 := Ah (o := .lst (nV cs ++ [V.int (hn : Int)])) ha4
      have e4 : upd H4 a4 (.lst (nV cs ++ [V.int (hn : Int)])) a4 = some (.lst (nV (cs ++ [hn]))) := by rw [Ac, <- kS]; rfl
      have e24 := t4 _ _ e23
      have s5 := s4.trans t4
      generalize upd H4 a4 (.lst (nV cs ++ [V.int (hn : Int)])) = H5 at *
      have hpm : pM lo hn = k2 - k1 + 1 := by unfold pM; rw [if_pos hlt, hk1, hk2]
      have eLo : lo :: cs = pLo lo hn := by
        refine List.ext_getElem? fun i => ?_
        unfold pLo
        rw [hpm]
        by_cases hi : i < k2 - k1 + 1
        · rw [List.getElem?_map, List.getElem?_range hi]
          cases i with
          | zero => rfl
          | succ i =>
            rw [List.getElem?_cons_succ, hcs, List.getElem?_map, List.getElem?_range (by omega)]
            show some ((k1 + 1 + i) * 256) = some ((lo / 256 + (i + 1)) * 256)
            rw [hk1, show k1 + 1 + i = k1 + (i + 1) by omega]
        · rw [List.getElem?_eq_none (by rw [List.length_cons, hcl]; omega), List.getElem?_eq_none (by rw [List.length_map, List.length_range]; omega)]
      have eHi : cs ++ [hn] = pHi lo hn := by
        refine List.ext_getElem? fun i => ?_
        unfold pHi
        rw [hpm]
        by_cases hi : i < k2 - k1 + 1
        · rw [List.getElem?_map, List.getElem?_range hi]
          show _ = some (hiN lo hn i)
          unfold hiN
          rw [hk1, hk2]
          by_cases h2 : i = k2 - k1
          · rw [if_pos h2, List.getElem?_append_right (by omega), h2, hcl, Nat.sub_self]
            rfl
          · rw [if_neg h2, List.getElem?_append_left (by omega), hcs, List.getElem?_map, List.getElem?_range (by omega)]
            show some ((k1 + 1 + i) * 256) = _
            rw [show k1 + 1 + i = k1 + i + 1 by omega]
        · rw [List.getElem?_eq_none (by rw [List.length_append, hcl, List.length_singleton]; omega), List.getElem?_eq_none (by rw [List.length_map, List.length_range]; omega)]
      rw [eLo] at e24
      rw [eHi] at e4
      k_is
      refine ⟨a2, a4, _, _, rfl, SqL.of e24, SqL.of e4, by rw [El, El, Pw, Xs], fun p as H6 s6 hp0 hp hN => ?_⟩
      refine q p as H6 (s5.trans s6) (s5.free hp0) hp ⟨hN.1, fun i t' x' y' g1 g2 g3 => ?_⟩
      obtain ⟨n1, n2⟩ := hN.2 i t' x' y' g1 g2 g3
      exact ⟨s5.free n1, n2⟩
def Le (K:PySem.W.Frag)(CB CC CP:Addr):Sp:=fun vs H Q _=>∃ (x:Addr) (l:List Bool) (lo:Nat) (h:Int),vs=[.ref x,.int lo,.int h]/\Bs K CB CC CP H x l/\lo<l.length/\∀ b:Bool,(b=false->∀ i,lo/256*256<i->i<=aY l (lo/256)->hgt l i≠h)->Q (.bl b) H
theorem Wh {f : Addr}{fd : FuncData}(F : Fun K "may_meet" "Heights.may_meet" C2 f fd)(T : Txt K mg a_ONES_OF_FOUR a_SIGNS_OF_FOUR)(Z : Qb K C_Pairs)(Qj : Mth P w K mg base C_Pairs "stretch_at" 1 ["self", "place"] Hs) : Ax P w K mg base CX0 2 f fd ["self", "low", "height"] (Le K C_Bits C_Counts C_Pairs) := by
  refine F.ok Gr (fun vs H Q E h => ?_) (fun cdv A outer s H vs Q E hr h => ?_)
  · obtain ⟨x, l, lo, h, rfl, _⟩ := h
    rfl
  · obtain ⟨x, l, lo, h, rfl, hP, hl, q⟩ := h
    obtain ⟨dx, b, c, t, o, hx, _, _, ⟨rs, ht, hrl, hrs⟩, _, hl8⟩ := id hP
    refine ⟨_, (Ab (An (i := 3) Gr.nd rfl (Or.inl rfl) (Ck Ey (A0 (pv 0) rfl) (A4 Qj (hr.mono (by decide : 1 <= _)) (pv 0) (Af (pv 1) Aa rfl)) (fun _ _ => rfl)))
      (Ae (Am (aV Uj Uj (Ck Ey (pv 3) Ag (fun _ _ => rfl)) (pv 2) (Ck Ey (pv 3) Ag (fun _ _ => rfl)))))), ?_⟩
    k_is
    refine ⟨x, C_Pairs, dx, _, _, rfl, hx, Z.cl, Z.n_kept_table, rfl, ?_⟩
    k_is
    refine ⟨x, dx, _, rfl, hx, rfl, ?_⟩
    k_is
    refine ⟨.ref x, lo, rfl, ?_⟩
    have hj : lo / 256 < rs.length := by omega
    obtain ⟨mn, mx, hr1, hmn, hmx⟩ := hrs _ _ (List.getElem?_eq_getElem hj)
    rw [pC (by omega)] at hmn hmx
    k_is
    refine Hh (SqT.of ht) (B7 (by rw [List.getElem?_map, List.getElem?_eq_getElem hj]; rfl)) ?_
    k_is
    refine Hh (SqT.of hr1) (v := .int mn) rfl ?_
    k_is
    by_cases h1 : mn <= h
    · rw [decide_eq_true h1]
      k_is
      refine Hh (SqT.of hr1) (v := .int mx) rfl ?_
      k_is
      refine q _ fun hb i hi1 hi2 he => ?_
      have := hmx.2 _ (Xq (l := l) hi1 hi2)
      rw [he] at this
      rw [decide_eq_true this] at hb
      cases hb
    · rw [decide_eq_false h1]
      k_is
      refine q false fun _ i hi1 hi2 he => ?_
      have := hmn.2 _ (Xq (l := l) hi1 hi2)
      omega
def Lh (K:PySem.W.Frag)(CB CC CP:Addr):Sp:=fun vs H Q _=>∃ (x:Addr) (l:List Bool) (lo hi:Nat),vs=[.ref x,.int lo,.int hi]/\Bs K CB CC CP H x l/\lo<=hi/\hi<=l.length/\hi-lo<=1000/\∀ p H',Al H H'->H p=none->H' p=some (.lst ((hw l lo hi).map V.int))->Q (.ref p) H'
theorem Qx {f:Addr}{fd:FuncData}(F:Fun K "heights_within" "Heights.heights_within" Bx f fd)(T:Txt K mg a_ONES_OF_FOUR a_SIGNS_OF_FOUR)(Z:Qb K C_Pairs)(c_heights_of:Cal P w K mg base "heights_of" 1 ["text","begin"] Jj)(Qu:Mth P w K mg base C_Pairs "stretch" 6 ["self","low","high"] (J5 K C_Bits C_Pairs))(Qf:Mth P w K mg base C_Pairs "height" 6 ["self","place"] (Ix K C_Counts C_Pairs)):Ax P w K mg base CX0 7 f fd ["self","low","high"] (Lh K C_Bits C_Counts C_Pairs):=by
 refine F.ok Hj (fun vs H Q E h=>?_) (fun cdv A outer s H vs Q E hr h=>?_)
 ·obtain ⟨x,l,lo,hi,rfl,_⟩:=h
  rfl
 ·obtain ⟨x,l,lo,hi,rfl,hP,h1,h2,h3,q⟩:=h
  obtain ⟨dx,b,c,t,o,hx,hB,hC,_⟩:=id hP
  refine ⟨_,(Ae (Am (Bb c_heights_of (hr.mono (by decide:1<=_)) (Af (A4 Qu (hr.mono (by decide:6<=_)) (pv 0) (Af (pv 1) (Af (pv 2) Aa rfl) rfl)) (Af (A4 Qf (hr.mono (by decide:6<=_)) (pv 0) (Af (pv 1) Aa rfl)) Aa rfl) rfl)))),?_⟩
  k_is
  refine ⟨x,dx,_,rfl,hx,rfl,?_⟩
  k_is
  refine ⟨x,dx,b,_,l,lo,hi,rfl,hx,rfl,hB,h1,h2,fun H1 s1=>?_⟩
  k_is
  refine ⟨x,dx,_,rfl,s1 _ _ hx,rfl,?_⟩
  k_is
  refine ⟨x,dx,c,_,l,lo,rfl,s1 _ _ hx,rfl,rfl,hC.same s1,by omega,fun H2 s2=>?_⟩
  rw [Nk]
  k_is
  refine ⟨(l.drop lo).take (hi-lo),hgt l lo,rfl,by rw [List.length_take];omega,fun p H3 s3 hp0 hp=>?_⟩
  rw [mF h1 h2] at hp
  have s12:=s1.trans s2
  exact q p H3 (s12.trans s3) (s12.free hp0) hp
def Uh (l:List Bool)(lo hi:Nat)(h:Int):Option Nat->Prop
 | some j=>lo<j/\j<=hi/\hgt l j=h/\∀ i,lo<i->i<j->hgt l i≠h
 | none=>∀ i,lo<i->i<=hi->hgt l i≠h
def wN (l:List Bool)(lo hi:Nat)(h:Int):Option Nat->Prop
 | some j=>lo<j/\j<=hi/\hgt l j=h/\∀ i,j<i->i<=hi->hgt l i≠h
 | none=>∀ i,lo<i->i<=hi->hgt l i≠h
def Gn:Option Nat->V
 | some j=>.int (j:Nat)
 | none=>.non
theorem S5:∀ {ns:List Int}{x:Int},x∈ns->∃ j:Nat,ns[j]?=some x/\∀ i:Nat,i<j->ns[i]?≠some x
 | y::ns,x,h=>by
  by_cases e:y=x
  ·exact ⟨0,by rw [e];rfl,fun i hi=>absurd hi (Nat.not_lt_zero _)⟩
  ·obtain ⟨j,h1,h2⟩:=S5 (List.mem_of_ne_of_mem (fun z=>e z.symm) h)
   refine ⟨j+1,h1,fun i hi=>?_⟩
   cases i with
   | zero=>exact fun z=>e (Option.some.inj z)
   | succ i=>exact h2 i (by omega)
theorem gC {w:List Int}{e:Int}:inV (.int e) (w.map V.int)=decide (e∈w):=by
 unfold inV
 rw [List.any_map]
 by_cases h:e∈w
 ·rw [decide_eq_true h,List.any_eq_true]
  exact ⟨e,h,by simp [eqV]⟩
 ·rw [decide_eq_false h]
  refine Bool.eq_false_iff.mpr fun hc=>?_
  obtain ⟨x,hx,hxe⟩:=List.any_eq_true.mp hc
  have:x=e:=by simpa [eqV] using hxe
  exact h (this▸hx)
def Vb (K:PySem.W.Frag)(CB CC CP:Addr):Sp:=fun vs H Q _=>∃ (x:Addr) (l:List Bool) (lo hi:Nat) (h:Int),vs=[.ref x,.int lo,.int hi,.int h]/\Bs K CB CC CP H x l/\lo<=hi/\hi<=l.length/\hi-lo<=1000/\∀ r H',Uh l lo hi h r->Al H H'->Q (Gn r) H'
theorem Q1 {f : Addr}{fd : FuncData}(F : Fun K "next_within" "Heights.next_within" B9 f fd)(T : Txt K mg a_ONES_OF_FOUR a_SIGNS_OF_FOUR)(Z : Qb K C_Pairs)(Qk : Mth P w K mg base C_Pairs "heights_within" 7 ["self", "low", "high"] (Lh K C_Bits C_Counts C_Pairs)) : Ax P w K mg base CX0 8 f fd ["self", "low", "high", "height"] (Vb K C_Bits C_Counts C_Pairs) := by
  refine F.ok Fi (fun vs H Q E h => ?_) (fun cdv A outer s H vs Q E hr h => ?_)
  · obtain ⟨x, l, lo, hi, h, rfl, _⟩ := h
    rfl
  · obtain ⟨x, l, lo, hi, h, rfl, hP, h1, h2, h3, q⟩ := h
    obtain ⟨dx, b, c, t, o, hx, _⟩ := id hP
    refine ⟨_, (Ab (An (i := 4) Fi.nd rfl (Or.inl rfl) (A4 Qk (hr.mono (by decide : 7 <= _)) (pv 0) (Af (pv 1) (Af (pv 2) Aa rfl) rfl)))
      (Ae (Am (B2 (As Uy (pv 3) (pv 4) rfl) (Aj Bd (Aj Bd (pv 1) Ag) (Eg PySem.F.plainAttrs_list PySem.F.slot_list_index PySem.F.type_list_index Sb (pv 4) (Af (pv 3) Aa rfl))) E6)))), ?_⟩
    k_is
    refine ⟨x, dx, _, rfl, hx, rfl, ?_⟩
    k_is
    refine ⟨x, l, lo, hi, rfl, hP, h1, h2, h3, fun p H1 s1 hp0 hp => ?_⟩
    k_is
    refine ⟨p, _, rfl, .inl (SqL.of hp), rfl, G8 _, ?_⟩
    rw [gC]
    by_cases hm : h ∈ hw l lo hi
    · rw [decide_eq_true hm, show (if false = true then !true else true) = true by decide]
      obtain ⟨j, hj, hno⟩ := S5 hm
      have hjl := Cy hj
      rw [Vt] at hjl
      k_is
      refine ⟨.inl ⟨rfl, _, SqL.of hp⟩, ?_⟩
      k_is
      refine ⟨p, _, h, j, rfl, rfl, hp, hj, hno, ?_⟩
      k_is
      rw [oM hjl] at hj
      have := q (some (lo + j + 1)) H1 ⟨by omega, by omega, Option.some.inj hj, fun i hi1 hi2 he => ?_⟩ s1
      · rw [show Gn (some (lo + j + 1)) = V.int ((lo : Int) + 1 + (j : Int)) by show V.int _ = _; congr 1; omega] at this
        exact this
      · refine hno (i - lo - 1) (by omega) ?_
        rw [oM (by omega), show lo + (i - lo - 1) + 1 = i by omega, he]
    · rw [decide_eq_false hm, show (if false = true then !false else false) = false by decide]
      k_is
      exact q none H1 (fun i hi1 hi2 he => hm (he ▸ Xq hi1 hi2)) s1
def Va (K:PySem.W.Frag)(CB CC CP:Addr):Sp:=fun vs H Q _=>∃ (x:Addr) (l:List Bool) (lo hi:Nat) (h:Int),vs=[.ref x,.int lo,.int hi,.int h]/\Bs K CB CC CP H x l/\lo<=hi/\hi<=l.length/\hi-lo<=1000/\∀ r H',wN l lo hi h r->Al H H'->Q (Gn r) H'
theorem Q0 {f : Addr}{fd : FuncData}(F : Fun K "last_within" "Heights.last_within" B8 f fd)(T : Txt K mg a_ONES_OF_FOUR a_SIGNS_OF_FOUR)(Z : Qb K C_Pairs)(Qk : Mth P w K mg base C_Pairs "heights_within" 7 ["self", "low", "high"] (Lh K C_Bits C_Counts C_Pairs)) : Ax P w K mg base CX0 8 f fd ["self", "low", "high", "height"] (Va K C_Bits C_Counts C_Pairs) := by
  refine F.ok Ff (fun vs H Q E h => ?_) (fun cdv A outer s H vs Q E hr h => ?_)
  · obtain ⟨x, l, lo, hi, h, rfl, _⟩ := h
    rfl
  · obtain ⟨x, l, lo, hi, h, rfl, hP, h1, h2, h3, q⟩ := h
    obtain ⟨dx, b, c, t, o, hx, _⟩ := id hP
    refine ⟨_, (Ab (An (i := 4) Ff.nd rfl (Or.inl rfl) (pF (A4 Qk (hr.mono (by decide : 7 <= _)) (pv 0) (Af (pv 1) (Af (pv 2) Aa rfl) rfl))))
      (Ae (Am (B2 (As Uy (pv 3) (pv 4) rfl) (Aj Bn (pv 2) (Eg PySem.F.plainAttrs_list PySem.F.slot_list_index PySem.F.type_list_index Sb (pv 4) (Af (pv 3) Aa rfl))) E6)))), ?_⟩
    k_is
    refine ⟨x, dx, _, rfl, hx, rfl, ?_⟩
    k_is
    refine ⟨x, l, lo, hi, rfl, hP, h1, h2, h3, fun p H1 s1 hp0 hp => ?_⟩
    k_is
    refine ⟨p, _, rfl, SqL.of hp, fun p2 hp2 => ?_⟩
    have t2 := s1.trans (Ah (o := .lst ((hw l lo hi).map V.int).reverse) hp2)
    have e2 : upd H1 p2 (.lst ((hw l lo hi).map V.int).reverse) p2 = some (.lst ((hw l lo hi).reverse.map V.int)) := by rw [Ac, List.map_reverse]
    generalize upd H1 p2 (.lst ((hw l lo hi).map V.int).reverse) = H2 at *
    k_is
    refine ⟨p2, _, rfl, .inl (SqL.of e2), rfl, G8 _, ?_⟩
    rw [gC]
    by_cases hm : h ∈ (hw l lo hi).reverse
    · rw [decide_eq_true hm, show (if false = true then !true else true) = true by decide]
      obtain ⟨j, hj, hno⟩ := S5 hm
      have hjl := Cy hj
      rw [List.length_reverse, Vt] at hjl
      have rev : ∀ k, k < hi - lo->(hw l lo hi).reverse[k]? = some (hgt l (hi - k)) := fun k hk => by
        rw [List.getElem?_reverse (by rw [Vt]; exact hk), Vt, oM (by omega), show lo + (hi - lo - 1 - k) + 1 = hi - k by omega]
      k_is
      refine ⟨.inl ⟨rfl, _, SqL.of e2⟩, ?_⟩
      k_is
      refine ⟨p2, _, h, j, rfl, rfl, e2, hj, hno, ?_⟩
      k_is
      rw [rev j hjl] at hj
      have := q (some (hi - j)) H2 ⟨by omega, by omega, Option.some.inj hj, fun i hi1 hi2 he => ?_⟩ t2
      · rw [show Gn (some (hi - j)) = V.int ((hi : Int) - (j : Int)) by show V.int _ = _; congr 1; omega] at this
        exact this
      · refine hno (hi - i) (by omega) ?_
        rw [rev _ (by omega), show hi - (hi - i) = i by omega, he]
    · rw [decide_eq_false hm, show (if false = true then !false else false) = false by decide]
      k_is
      exact q none H2 (fun i hi1 hi2 he => hm (List.mem_reverse.mpr (he ▸ Xq hi1 hi2))) t2
def Vz:Sp:=fun vs H Q _=>∃ i:Int,vs=[.int i]/\Q .non H
theorem Pc {f : Addr}{fd : FuncData}(F : Fun K "check_height" "check_height" Fj f fd)(T : Txt K mg a_ONES_OF_FOUR a_SIGNS_OF_FOUR)(c_is_whole : Cal P w K mg base "is_whole" 1 ["thing"] Ij) : Ax P w K mg base CX0 3 f fd ["height"] Vz := by
  refine F.ok Pg (fun vs H Q E h => ?_) (fun cdv A outer s H vs Q E hr h => ?_)
  · obtain ⟨i, rfl, _⟩ := h
    rfl
  · obtain ⟨i, rfl, q⟩ := h
    refine ⟨_, (Ae (B4 (Hd (Dl (Bb c_is_whole (hr.mono (by decide : 1 <= _)) (Af (pv 0) Aa rfl)))) (Ae Cw)
      A9)), ?_⟩
    k_is
    refine ⟨i, rfl, ?_⟩
    k_is
    exact q
def Nw (K:PySem.W.Frag)(CB CC CP:Addr):Sp:=fun vs H Q _=>∃ (x:Addr) (l:List Bool) (p:Nat) (h:Int),vs=[.ref x,.int p,.int h]/\Bs K CB CC CP H x l/\p<=l.length/\∀ r H',Uh l p l.length h r->Al H H'->Q (Gn r) H'
def cov (lo hi i:Nat):Nat:=if i<pM lo hi then loN lo i else hi
theorem nB {lo hi i:Nat}(h:i<pM lo hi):cov lo hi i=loN lo i/\cov lo hi (i+1)=hiN lo hi i:=by
 refine ⟨if_pos h,?_⟩
 unfold cov
 by_cases h2:i+1<pM lo hi
 ·rw [if_pos h2,U4 h2]
 ·rw [if_neg h2,T5 (by omega)]
theorem Wp {f : Addr}{fd : FuncData}(F : Fun K "next_at" "Heights.next_at" Dm f fd)(T : Txt K mg a_ONES_OF_FOUR a_SIGNS_OF_FOUR)(Z : Qb K C_Pairs)(c_check_place : Cal P w K mg base "check_place" 3 ["place", "greatest"] Gj)(c_check_height : Cal P w K mg base "check_height" 3 ["height"] Vz)
    (Qw : Mth P w K mg base C_Pairs "parts" 2 ["self", "low", "high"] (P2 K C_Bits C_Counts C_Pairs))(Qp : Mth P w K mg base C_Pairs "may_meet" 2 ["self", "low", "height"] (Le K C_Bits C_Counts C_Pairs))(We : Mth P w K mg base C_Pairs "next_within" 8 ["self", "low", "high", "height"] (Vb K C_Bits C_Counts C_Pairs)) : Ax P w K mg base CX0 9 f fd ["self", "place", "height"] (Nw K C_Bits C_Counts C_Pairs) := by
  refine F.ok C9 (fun vs H Q E h => ?_) (fun cdv A outer s H vs Q E hr h => ?_)
  · obtain ⟨x, l, p, h, rfl, _⟩ := h
    rfl
  · obtain ⟨x, l, p, h, rfl, hP, hp, q⟩ := h
    obtain ⟨dx, b, c, t, o, hx, _, _, _, _, hl8⟩ := id hP
    refine ⟨_, (Ab (Bi (Bb c_check_place (hr.mono (by decide : 3 <= _)) (Af (pv 1) (Af (A0 (pv 0) rfl) Aa rfl) rfl)))
      (Ab (Bi (Bb c_check_height (hr.mono (by decide : 3 <= _)) (Af (pv 2) Aa rfl)))
      (Ab (E4 PassesOwn.never rfl (Eb (A4 Qw (hr.mono (by decide : 2 <= _)) (pv 0) (Af (pv 1) (Af (A0 (pv 0) rfl) Aa rfl) rfl))) (Mg rfl (Cc (Bl (i := 3) C9.nd rfl (Or.inl rfl)) (Cc (Bl (i := 4) C9.nd rfl (Or.inl rfl)) Ka)))
      (Ab (An (i := 5) C9.nd rfl (Or.inl rfl) (B2 (Dl (A4 Qp (hr.mono (by decide : 2 <= _)) (pv 0) (Af (pv 3) (Af (pv 2) Aa rfl) rfl))) (A4 We (hr.mono (by decide : 8 <= _)) (pv 0) (Af (pv 3) (Af (pv 4) (Af (pv 2) Aa rfl) rfl) rfl)) E6))
      (Ae (B4 (K2 (Kb (pv 5))) (Ae (Am (pv 5)))
      A9))))
      (Ae (Am E6))))), ?_⟩
    k_is
    refine ⟨x, C_Pairs, dx, _, _, rfl, hx, Z.cl, Z.n_length, rfl, ?_⟩
    k_is
    refine ⟨p, _, rfl, by omega, by omega, ?_⟩
    k_is
    refine ⟨h, rfl, ?_⟩
    k_is
    refine ⟨x, dx, _, rfl, hx, rfl, ?_⟩
    k_is
    refine ⟨x, C_Pairs, dx, _, _, rfl, hx, Z.cl, Z.n_length, rfl, ?_⟩
    k_is
    refine ⟨x, l, p, (l.length : Int), rfl, hP, Int.le_refl _, fun pa as H1 s1 hpa0 hpa hN => ?_⟩
    rw [Int.toNat_natCast] at hN
    have hP1 := hP.same s1
    have hal : as.length = pM p l.length := by rw [hN.1, El, Pw]
    refine ⟨pa, rfl, ⟨_, SqL.of hpa⟩, ?_⟩
    refine iY (as := as) (xs := nV (pLo p l.length)) (ys := nV (pHi p l.length)) hN.1 (by rw [hal, El, Xs]) (fun i σ H2 => (∃ v3 v4 v5 : Option V, σ = [some (.ref x), some (.int (p : Nat)), some (.int h), v3, v4, v5])/\Al H1 H2/\∀ k, p < k->k <= cov p l.length i->hgt l k ≠ h) ?_ (fun i σ H2 _ h => SqL.of (h.2.1 _ _ hpa)) (fun i t x y σ H2 e1 e2 e3 h => h.2.1 _ _ (hN.2 i t x y e1 e2 e3).2) ?_ ?_
    · refine ⟨⟨_, _, _, rfl⟩, Al.refl _, fun k hk1 hk2 => ?_⟩
      unfold cov at hk2
      split at hk2
      · exact absurd hk2 (by show ¬ k <= p; omega)
      · rename_i hz
        have : ¬ p < l.length := fun h => hz (Sy h).2
        omega
    · rintro i y y2 σ H2 hy hy2 ⟨⟨v3, v4, v5, rfl⟩, s2, hno⟩
      have hi : i < pM p l.length := by have := Cy hy; rwa [El, Pw] at this
      obtain ⟨ok1, ok2, ok3, ok4, ok5, ok6⟩ := fF hi
      obtain ⟨cv1, cv2⟩ := nB hi
      unfold nV pLo at hy
      unfold nV pHi at hy2
      rw [List.getElem?_map, List.getElem?_map, List.getElem?_range hi] at hy hy2
      obtain rfl : V.int ((loN p i : Nat) : Int) = y := Option.some.inj hy
      obtain rfl : V.int ((hiN p l.length i : Nat) : Int) = y2 := Option.some.inj hy2
      have hP2 := hP1.same s2
      have hx2 := s2 _ _ (s1 _ _ hx)
      have go : (∀ k, loN p i < k->k <= hiN p l.length i->hgt l k ≠ h)->∀ k, p < k->k <= cov p l.length (i + 1)->hgt l k ≠ h := fun hh k k1 k2 => by
        by_cases k3 : k <= loN p i
        · exact hno k k1 (by rw [cv1]; exact k3)
        · exact hh k (by omega) (by rw [<- cv2]; exact k2)
      k_is
      refine ⟨x, dx, _, rfl, hx2, rfl, ?_⟩
      k_is
      refine ⟨x, l, loN p i, h, rfl, hP2, by omega, fun bb hbb => ?_⟩
      cases bb with
      | true =>
        k_is
        refine ⟨x, dx, _, rfl, hx2, rfl, ?_⟩
        k_is
        refine ⟨x, l, loN p i, hiN p l.length i, h, rfl, hP2, by omega, ok3, by omega, fun r H3 hr3 s3 => ?_⟩
        cases r with
        | some j =>
          k_is
          obtain ⟨j1, j2, j3, j4⟩ := hr3
          refine q (some j) H3 ⟨by omega, by omega, j3, fun i' i1 i2 he => ?_⟩ ((s1.trans s2).trans s3)
          by_cases k3 : i' <= loN p i
          · exact hno i' i1 (by rw [cv1]; exact k3) he
          · exact j4 i' (by omega) i2 he
        | none =>
          k_is
          rw [show (!decide (Gn none = V.non)) = false from rfl]
          k_is
          exact ⟨⟨_, _, _, rfl⟩, s2.trans s3, go hr3⟩
      | false =>
        k_is
        rw [show (!decide (V.non = V.non)) = false from rfl]
        k_is
        refine ⟨⟨_, _, _, rfl⟩, s2, go fun k k1 k2 => hbb rfl k (by omega) ?_⟩
        unfold aY
        omega
    · rintro σ H2 ⟨⟨v3, v4, v5, rfl⟩, s2, hno⟩
      rw [hal] at hno
      k_is
      refine q none H2 (fun i i1 i2 => hno i i1 ?_) (s1.trans s2)
      unfold cov
      rw [if_neg (Nat.lt_irrefl _)]
      exact i2
def Pp (l:List Bool)(p:Nat)(h:Int):Option Nat->Prop
 | some j=>j<p/\hgt l j=h/\∀ i,j<i->i<p->hgt l i≠h
 | none=>∀ i,i<p->hgt l i≠h
def Sv (K:PySem.W.Frag)(CB CC CP:Addr):Sp:=fun vs H Q _=>∃ (x:Addr) (l:List Bool) (p:Nat) (h:Int),vs=[.ref x,.int p,.int h]/\Bs K CB CC CP H x l/\p<=l.length/\∀ r H',Pp l p h r->Al H H'->Q (Gn r) H'
def jD (hi i:Nat):Nat:=if i=0 then hi else loN 0 (pM 0 hi-i)
theorem iW {hi i:Nat}(h:i<pM 0 hi):jD hi i=hiN 0 hi (pM 0 hi-1-i)/\jD hi (i+1)=loN 0 (pM 0 hi-1-i):=by
 unfold jD
 refine ⟨?_,?_⟩
 ·by_cases h0:i=0
  ·rw [if_pos h0,T5 (by omega)]
  ·rw [if_neg h0,U4 (by omega),show pM 0 hi-1-i+1=pM 0 hi-i by omega]
 ·rw [if_neg (by omega),show pM 0 hi-(i+1)=pM 0 hi-1-i by omega]
theorem Re (l:List Bool):hgt l 0=0:=by unfold hgt;simp
theorem Wo {f : Addr}{fd : FuncData}(F : Fun K "last_at" "Heights.last_at" Dq f fd)(T : Txt K mg a_ONES_OF_FOUR a_SIGNS_OF_FOUR)(Z : Qb K C_Pairs)(c_check_place : Cal P w K mg base "check_place" 3 ["place", "greatest"] Gj)(c_check_height : Cal P w K mg base "check_height" 3 ["height"] Vz)
    (Qw : Mth P w K mg base C_Pairs "parts" 2 ["self", "low", "high"] (P2 K C_Bits C_Counts C_Pairs))(Qp : Mth P w K mg base C_Pairs "may_meet" 2 ["self", "low", "height"] (Le K C_Bits C_Counts C_Pairs))(Wd : Mth P w K mg base C_Pairs "last_within" 8 ["self", "low", "high", "height"] (Va K C_Bits C_Counts C_Pairs)) : Ax P w K mg base CX0 9 f fd ["self", "place", "height"] (Sv K C_Bits C_Counts C_Pairs) := by
  refine F.ok C6 (fun vs H Q E h => ?_) (fun cdv A outer s H vs Q E hr h => ?_)
  · obtain ⟨x, l, p, h, rfl, _⟩ := h
    rfl
  · obtain ⟨x, l, p, h, rfl, hP, hp, q⟩ := h
    obtain ⟨dx, b, c, t, o, hx, _, _, _, _, hl8⟩ := id hP
    refine ⟨_, (Ab (Bi (Bb c_check_place (hr.mono (by decide : 3 <= _)) (Af (pv 1) (Af (A0 (pv 0) rfl) Aa rfl) rfl)))
      (Ab (Bi (Bb c_check_height (hr.mono (by decide : 3 <= _)) (Af (pv 2) Aa rfl)))
      (Ab (E4 PassesOwn.never rfl (qI rfl T.n_reversed (A4 Qw (hr.mono (by decide : 2 <= _)) (pv 0) (Af Ag (Af (Aj Bn (pv 1) Ag) Aa rfl) rfl))) (Mg rfl (Cc (Bl (i := 3) C6.nd rfl (Or.inl rfl)) (Cc (Bl (i := 4) C6.nd rfl (Or.inl rfl)) Ka)))
      (Ab (An (i := 5) C6.nd rfl (Or.inl rfl) (B2 (Dl (A4 Qp (hr.mono (by decide : 2 <= _)) (pv 0) (Af (pv 3) (Af (pv 2) Aa rfl) rfl))) (A4 Wd (hr.mono (by decide : 8 <= _)) (pv 0) (Af (pv 3) (Af (pv 4) (Af (pv 2) Aa rfl) rfl) rfl)) E6))
      (Ae (B4 (K2 (Kb (pv 5))) (Ae (Am (pv 5)))
      A9))))
      (Ae (Am (B2 (PW.pt (N6 (As Ir (pv 1) Ag (Aw _)) (Lm (As Fm (pv 2) Ag (Aw _))))) Ag E6)))))), ?_⟩
    k_is
    refine ⟨x, C_Pairs, dx, _, _, rfl, hx, Z.cl, Z.n_length, rfl, ?_⟩
    k_is
    refine ⟨p, _, rfl, by omega, by omega, ?_⟩
    k_is
    refine ⟨h, rfl, ?_⟩
    k_is
    refine ⟨x, dx, _, rfl, hx, rfl, ?_⟩
    k_is
    refine ⟨x, l, 0, (p : Int) - 1, rfl, hP, by omega, fun pa as H1 s1 hpa0 hpa hN => ?_⟩
    rw [show ((p : Int) - 1).toNat = p - 1 by omega] at hN
    have hP1 := hP.same s1
    have hal : as.length = pM 0 (p - 1) := by rw [hN.1, El, Pw]
    refine ⟨pa, _, rfl, SqL.of hpa, ?_⟩
    rw [List.length_map]
    refine eH (as := as) (xs := nV (pLo 0 (p - 1))) (ys := nV (pHi 0 (p - 1))) hN.1 (by rw [hal, El, Xs]) (fun i σ H2 => (∃ v3 v4 v5 : Option V, σ = [some (.ref x), some (.int (p : Nat)), some (.int h), v3, v4, v5])/\Al H1 H2/\∀ k, jD (p - 1) i < k->k < p->hgt l k ≠ h) ?_ (fun i σ H2 _ h => SqL.of (h.2.1 _ _ hpa)) (fun i j t x y σ H2 e1 e2 e3 h => h.2.1 _ _ (hN.2 j t x y e1 e2 e3).2) ?_ ?_
    · refine ⟨⟨_, _, _, rfl⟩, Al.refl _, fun k hk1 hk2 => ?_⟩
      have hk1 : p - 1 < k := hk1
      omega
    · rintro i y y2 σ H2 hlt hy hy2 ⟨⟨v3, v4, v5, rfl⟩, s2, hno⟩
      rw [hal] at hlt hy hy2
      obtain ⟨j, hj⟩ : ∃ j, pM 0 (p - 1) - 1 - i = j := ⟨_, rfl⟩
      have hi : j < pM 0 (p - 1) := by omega
      obtain ⟨cv1, cv2⟩ := iW hlt
      rw [hj] at hy hy2 cv1 cv2
      obtain ⟨ok1, ok2, ok3, ok4, ok5, ok6⟩ := fF hi
      unfold nV pLo at hy
      unfold nV pHi at hy2
      rw [List.getElem?_map, List.getElem?_map, List.getElem?_range hi] at hy hy2
      obtain rfl : V.int ((loN 0 j : Nat) : Int) = y := Option.some.inj hy
      obtain rfl : V.int ((hiN 0 (p - 1) j : Nat) : Int) = y2 := Option.some.inj hy2
      have hP2 := hP1.same s2
      have hx2 := s2 _ _ (s1 _ _ hx)
      have go : (∀ k, loN 0 j < k->k <= hiN 0 (p - 1) j->hgt l k ≠ h)->∀ k, jD (p - 1) (i + 1) < k->k < p->hgt l k ≠ h := fun hh k k1 k2 => by
        rw [cv2] at k1
        by_cases k3 : k <= hiN 0 (p - 1) j
        · exact hh k k1 k3
        · exact hno k (by rw [cv1]; omega) k2
      k_is
      refine ⟨x, dx, _, rfl, hx2, rfl, ?_⟩
      k_is
      refine ⟨x, l, loN 0 j, h, rfl, hP2, by omega, fun bb hbb => ?_⟩
      cases bb with
      | true =>
        k_is
        refine ⟨x, dx, _, rfl, hx2, rfl, ?_⟩
        k_is
        refine ⟨x, l, loN 0 j, hiN 0 (p - 1) j, h, rfl, hP2, by omega, by omega, by omega, fun r H3 hr3 s3 => ?_⟩
        cases r with
        | some m =>
          k_is
          obtain ⟨j1, j2, j3, j4⟩ := hr3
          refine q (some m) H3 ⟨by omega, j3, fun i' i1 i2 he => ?_⟩ ((s1.trans s2).trans s3)
          by_cases k3 : i' <= hiN 0 (p - 1) j
          · exact j4 i' i1 k3 he
          · exact hno i' (by rw [cv1]; omega) i2 he
        | none =>
          k_is
          rw [show (!decide (Gn none = V.non)) = false from rfl]
          k_is
          exact ⟨⟨_, _, _, rfl⟩, s2.trans s3, go hr3⟩
      | false =>
        k_is
        rw [show (!decide (V.non = V.non)) = false from rfl]
        k_is
        refine ⟨⟨_, _, _, rfl⟩, s2, go fun k k1 k2 => hbb rfl k (by omega) ?_⟩
        unfold aY
        omega
    · rintro σ H2 ⟨⟨v3, v4, v5, rfl⟩, s2, hno⟩
      rw [hal] at hno
      have hno : ∀ k, 0 < k->k < p->hgt l k ≠ h := fun k k1 k2 => by
        refine hno k ?_ k2
        unfold jD
        split
        · rename_i hz
          by_cases hp1 : 0 < p - 1
          · exact absurd hz (by have := (Sy hp1).2; omega)
          · omega
        · rw [Nat.sub_self]
          exact k1
      k_is
      refine B6 (fun h1 => ?_) (fun h1 => ?_)
      · k_is
        refine B6 (fun h2 => ?_) (fun h2 => ?_)
        · k_is
          have h2 := V.int.inj h2
          exact q (some 0) H2 ⟨by omega, by rw [Re, h2], hno⟩ (s1.trans s2)
        · k_is
          refine q none H2 (fun i hi he => ?_) (s1.trans s2)
          by_cases i0 : i = 0
          · rw [i0, Re] at he
            exact h2 (by rw [he])
          · exact hno i (by omega) hi he
      · k_is
        exact q none H2 (fun i hi => absurd hi (by omega)) (s1.trans s2)
def K5 (K:PySem.W.Frag)(CB CC CP:Addr):Sp:=fun vs H Q _=>∃ (x:Addr) (l:List Bool) (p:Nat),vs=[.ref x,.int p]/\Bs K CB CC CP H x l/\p<l.length/\Q (.bl (l.getD p false)) H
theorem Wi {f:Addr}{fd:FuncData}(F:Fun K "is_opening" "Pairs.is_opening" C3 f fd)(T:Txt K mg a_ONES_OF_FOUR a_SIGNS_OF_FOUR)(Z:Qb K C_Pairs)(Yy:Mth P w K mg base C_Bits "bit" 4 ["self","place"] (nN K C_Bits)):Ax P w K mg base CX0 5 f fd ["self","place"] (K5 K C_Bits C_Counts C_Pairs):=by
 refine F.ok Lw (fun vs H Q E h=>?_) (fun cdv A outer s H vs Q E hr h=>?_)
 ·obtain ⟨x,l,p,rfl,_⟩:=h
  rfl
 ·obtain ⟨x,l,p,rfl,⟨dx,b,c,t,o,hx,hB,_⟩,hp,q⟩:=h
  refine ⟨_,(Ae (Am (G5 Fm (A4 Yy (hr.mono (by decide:4<=_)) (A0 (pv 0) rfl) (Af (pv 1) Aa rfl)) Ag (Aw _)))),?_⟩
  k_is
  refine ⟨x,C_Pairs,dx,_,.ref b,rfl,hx,Z.cl,Z.n_bits,rfl,?_⟩
  obtain ⟨db,tb,hb1,_⟩:=id hB
  k_is
  refine ⟨b,db,_,rfl,hb1,rfl,?_⟩
  k_is
  refine ⟨b,l,p,rfl,hB,hp,?_⟩
  k_is
  cases hg:l.getD p false with
  | true =>
   rw [hg] at q
   exact q
  | false =>
   rw [hg] at q
   exact q
theorem nX {l:List Bool}(hV:Vs 0 l){i:Nat}(hi:i<=l.length):0<=hgt l i:=by
 obtain ⟨h,e,_⟩:=Z1 hV i hi
 omega
theorem fW {l:List Bool}(hV:Vs 0 l):hgt l l.length=0:=by
 obtain ⟨h,e,v,_⟩:=Z1 hV l.length (Nat.le_refl _)
 rw [List.drop_of_length_le (Nat.le_refl _)] at v
 have v:h=0:=v
 omega
theorem M0 {l:List Bool}{i:Nat}(hi:i<l.length):hgt l (i+1)=hgt l i+if l.getD i false then 1 else -1:=by
 have h:=Nb (l:=l) (List.getElem?_eq_getElem hi)
 rw [h]
 unfold List.getD
 rw [List.getElem?_eq_getElem hi]
 rfl
theorem uS {l:List Bool}(hV:Vs 0 l){p:Nat}(hp:p<l.length)(ho:l.getD p false=true):¬ Uh l p l.length (hgt l p) none:=fun hn=>by
 have up:∀ d,p+1+d<=l.length->hgt l p<hgt l (p+1+d):=fun d=>by
  induction d with
  | zero =>
   intro _
   have:=M0 hp
   rw [ho] at this
   have this:hgt l (p+1)=hgt l p+1:=this
   show hgt l p<hgt l (p+1)
   omega
  | succ d ih =>
   intro hd
   have h1:=ih (by omega)
   have h2:=M0 (l:=l) (i:=p+1+d) (by omega)
   have h3:=hn (p+1+(d+1)) (by omega) hd
   have e:p+1+(d+1)=p+1+d+1:=by omega
   rw [e] at h3 ⊢
   split at h2<;>omega
 have h1:=up (l.length-(p+1)) (by omega)
 rw [show p+1+(l.length-(p+1))=l.length by omega,fW hV] at h1
 have:=nX hV (i:=p) (by omega)
 omega
theorem vC {l:List Bool}(hV:Vs 0 l){p:Nat}(hp:p<l.length)(ho:l.getD p false=false):¬ Pp l (p+1) (hgt l (p+1)) none:=fun hn=>by
 have hs:=M0 hp
 rw [ho] at hs
 have hs:hgt l (p+1)=hgt l p + -1:=hs
 have up:∀ i,i<=p->hgt l i<hgt l (p+1):=fun i=>by
  induction i with
  | zero =>
   intro _
   have h1:=nX hV (i:=p+1) (by omega)
   have h2:=hn 0 (by omega)
   rw [Re] at h2 ⊢
   omega
  | succ i ih =>
   intro hi
   have h1:=ih (by omega)
   have h2:=M0 (l:=l) (i:=i) (by omega)
   have h3:=hn (i+1) (by omega)
   split at h2<;>omega
 have:=up p (Nat.le_refl _)
 omega
def Ln (K:PySem.W.Frag)(CB CC CP:Addr):Sp:=fun vs H Q _=>∃ (x:Addr) (l:List Bool) (p:Nat),vs=[.ref x,.int p]/\Bs K CB CC CP H x l/\p<l.length /\
 ∀ (j:Nat) H',(l.getD p false=true->Uh l p l.length (hgt l p) (some (j+1)))->(l.getD p false=false->Pp l (p+1) (hgt l (p+1)) (some j))->Al H H'->Q (.int (j:Nat)) H'
theorem Wq {f : Addr}{fd : FuncData}(F : Fun K "partner" "Heights.partner" Dn f fd)(T : Txt K mg a_ONES_OF_FOUR a_SIGNS_OF_FOUR)(Z : Qb K C_Pairs)(Qg : Mth P w K mg base C_Pairs "is_opening" 5 ["self", "place"] (K5 K C_Bits C_Counts C_Pairs))(Qs : Mth P w K mg base C_Pairs "next_at" 9 ["self", "place", "height"] (Nw K C_Bits C_Counts C_Pairs))
    (Qf : Mth P w K mg base C_Pairs "height" 6 ["self", "place"] (Ix K C_Counts C_Pairs))(W6 : Mth P w K mg base C_Pairs "last_at" 9 ["self", "place", "height"] (Sv K C_Bits C_Counts C_Pairs)) : Ax P w K mg base CX0 10 f fd ["self", "place"] (Ln K C_Bits C_Counts C_Pairs) := by
  refine F.ok Mm (fun vs H Q E h => ?_) (fun cdv A outer s H vs Q E hr h => ?_)
  · obtain ⟨x, l, p, rfl, _⟩ := h
    rfl
  · obtain ⟨x, l, p, rfl, hP, hp, q⟩ := h
    obtain ⟨dx, b, c, t, o, hx, _, hC, _, hV, hl8⟩ := id hP
    refine ⟨_, (Ab (B4 (Dl (A4 Qg (hr.mono (by decide : 5 <= _)) (pv 0) (Af (pv 1) Aa rfl))) (Ae (Am (Aj Bn (A4 Qs (hr.mono (by decide : 9 <= _)) (pv 0) (Af (pv 1) (Af (A4 Qf (hr.mono (by decide : 6 <= _)) (pv 0) (Af (pv 1) Aa rfl)) Aa rfl) rfl)) Ag)))
      A9)
      (Ae (Am (A4 W6 (hr.mono (by decide : 9 <= _)) (pv 0) (Af (Aj Bd (pv 1) Ag) (Af (A4 Qf (hr.mono (by decide : 6 <= _)) (pv 0) (Af (Aj Bd (pv 1) Ag) Aa rfl)) Aa rfl) rfl))))), ?_⟩
    k_is
    refine ⟨x, dx, _, rfl, hx, rfl, ?_⟩
    k_is
    refine ⟨x, l, p, rfl, hP, hp, ?_⟩
    cases hg : l.getD p false with
    | true =>
      k_is
      refine ⟨x, dx, _, rfl, hx, rfl, ?_⟩
      k_is
      refine ⟨x, dx, _, rfl, hx, rfl, ?_⟩
      k_is
      refine ⟨x, dx, c, _, l, p, rfl, hx, rfl, rfl, hC, by omega, fun H1 s1 => ?_⟩
      rw [Nk]
      k_is
      refine ⟨x, l, p, hgt l p, rfl, hP.same s1, by omega, fun r H2 hr2 s2 => ?_⟩
      cases r with
      | none => exact absurd hr2 (uS hV hp hg)
      | some j =>
        obtain ⟨j', rfl⟩ : ∃ j', j = j' + 1 := ⟨j - 1, by have := hr2.1; omega⟩
        rw [show Gn (some (j' + 1)) = V.int ((j' : Int) + 1) by show V.int _ = _; congr 1]
        k_is
        rw [show ((j' : Int) + 1 - 1) = (j' : Int) by omega]
        exact q j' H2 (fun _ => hr2) (fun e => by rw [hg] at e; cases e) (s1.trans s2)
    | false =>
      k_is
      refine ⟨x, dx, _, rfl, hx, rfl, ?_⟩
      k_is
      refine ⟨x, dx, _, rfl, hx, rfl, ?_⟩
      k_is
      refine ⟨x, dx, c, _, l, p + 1, by rw [show ((p + 1 : Nat) : Int) = (p : Int) + 1 by omega]; rfl, hx, rfl, rfl, hC, by omega, fun H1 s1 => ?_⟩
      rw [Nk]
      k_is
      refine ⟨x, l, p + 1, hgt l (p + 1), by rw [show ((p + 1 : Nat) : Int) = (p : Int) + 1 by omega]; rfl, hP.same s1, by omega, fun r H2 hr2 s2 => ?_⟩
      cases r with
      | none => exact absurd hr2 (vC hV hp hg)
      | some j => exact q j H2 (fun e => by rw [hg] at e; cases e) (fun _ => hr2) (s1.trans s2)
theorem Bs.sm {K:PySem.W.Frag}{CB CC CP x:Addr}{ts:List Tb}{H H':Hp}{l:List Bool}(h:Bs K CB CC CP H x l)(s:SmT ts H H'):Bs K CB CC CP H' x l:=by
 obtain ⟨dx,b,c,t,o,h1,⟨d2,t2,b1,b2,b3⟩,h3,h4,h5⟩:=h
 exact ⟨dx,b,c,t,o,s.k h1,⟨d2,t2,s.k b1,s.k b2,b3⟩,h3.sm s,h4.keep (fun b xs e=>s.k e),h5⟩
def G7 (K:PySem.W.Frag)(CB CC CP:Addr)(ts:List Tb):Sp:=fun vs H Q _=>∃ (x:Addr) (l:List Bool) (n t:Nat),vs=[.ref x,.int n]/\Bs K CB CC CP H x l/\Tbs ts H/\(occ false l l.length)[n]?=some t/\∀ H',SmT ts H H'->Q (.int t) H'
theorem W2 {f:Addr}{fd:FuncData}{ts:List Tb}(F:Fun K "closing" "Pairs.closing" Ev f fd)(T:Txt K mg a_ONES_OF_FOUR a_SIGNS_OF_FOUR)(Z:Qb K C_Pairs)(Wr:Mth P w K mg base C_Counts "place_of" 5 ["self","bit","nth"] (Oh K C_Counts ts)):Ax P w K mg base CX0 6 f fd ["self","number"] (G7 K C_Bits C_Counts C_Pairs ts):=by
 refine F.ok Oa (fun vs H Q E h=>?_) (fun cdv A outer s H vs Q E hr h=>?_)
 ·obtain ⟨x,l,n,t,rfl,_⟩:=h
  rfl
 ·obtain ⟨x,l,n,t,rfl,⟨dx,b,c,tt,o,hx,hB,hC,_⟩,hT,ht,q⟩:=h
  refine ⟨_,(Ae (Am (A4 Wr (hr.mono (by decide:5<=_)) (A0 (pv 0) rfl) (Af Ag (Af (pv 1) Aa rfl) rfl)))),?_⟩
  k_is
  refine ⟨x,C_Pairs,dx,_,.ref c,rfl,hx,Z.cl,Z.n_counts,rfl,?_⟩
  obtain ⟨dc,t1,u1,hc1,_⟩:=id hC
  k_is
  refine ⟨c,dc,_,rfl,hc1,rfl,?_⟩
  k_is
  exact ⟨c,l,false,n,t,rfl,hC,hT,ht,q⟩
def eE:Sp:=fun vs H Q _=>∃ (a:Addr) (ds:List Nat),vs=[.ref a]/\H a=some (.lst ((Az ds).map V.int))/\Dok ds/\ds.length<4000/\∀ l H',Al H H'->H' l=some (.lst ((Az ds).map V.int))->Q (.ref l) H'
theorem bV {f : Addr}{fd : FuncData}(F : Fun K "look_at" "look_at" Lf f fd)(T : Txt K mg a_ONES_OF_FOUR a_SIGNS_OF_FOUR)(c_is_whole : Cal P w K mg base "is_whole" 1 ["thing"] Ij) : Ax P w K mg base CX0 2 f fd ["elders"] eE := by
  refine F.ok Jx (fun vs H Q E h => ?_) (fun cdv A outer s H vs Q E hr h => ?_)
  · obtain ⟨a, ds, rfl, _⟩ := h
    rfl
  · obtain ⟨a, ds, rfl, ha, hD, hn, q⟩ := h
    refine ⟨_, (Ab (B4 (Hd (Dl (Av Gg (by rfl) T.n_isinstance Fg (Af (pv 0) (Af (Nh (v := .ty "list") rfl T.n_list Kl rfl) Aa rfl) rfl)))) (Ae Cw)
      A9)
      (Ab (An (i := 1) Jx.nd rfl (Or.inl rfl) (By (Af (Gh Dy Ag) Aa rfl)))
      (Ab (E4 PassesOwn.never rfl (eQ rfl T.n_enumerate (Af (pv 0) Aa rfl)) (Mg rfl (Cc (Bl (i := 2) Jx.nd rfl (Or.inl rfl)) (Cc (Bl (i := 3) Jx.nd rfl (Or.inl rfl)) Ka)))
      (Ab (B4 (PW.pt (O1 (As Fm (pv 2) (Ba rfl T.g_MOST_KNOTS) (Aw _)) (O1 (Hd (Dl (Bb c_is_whole (hr.mono (by decide : 1 <= _)) (Af (pv 3) Aa rfl)))) (Oc (As L7 (pv 3) (Gh Dy Ag) (Aw _)))))) (Ae Cw)
      A9)
      (Ab (Gb PassesOwn.never (As Ir (Ck Ec (pv 1) (Gh Dy Ag) (fun _ _ => rfl)) (pv 3) (Aw _))
      (Ae (Bi (cF PySem.F.plainAttrs_list PySem.F.slot_list_pop PySem.F.type_list_pop dF (pv 1)))))
      (Ab (B4 (As U0 (Ck Ec (pv 1) (Gh Dy Ag) (fun _ _ => rfl)) (pv 3) (Aw _)) (Ae Cw)
      A9)
      (Ae (Bi (Eg PySem.F.plainAttrs_list PySem.F.slot_list_append PySem.F.type_list_append Cb (pv 1) (Af (pv 2) Aa rfl))))))))
      (Ae (Am (Dk Gx (by rfl) T.n_list Kl (Af (pv 0) Aa rfl))))))), ?_⟩
    k_is
    refine ⟨_, _, _, _, rfl, .lst ha, Tl, ?_⟩
    k_is
    refine ⟨few (by simp), fun p hp => ?_⟩
    k_is
    have t0 := Ah (o := .lst [V.int (-1)]) hp
    refine ⟨a, rfl, ⟨_, SqL.of (t0 _ _ ha)⟩, ?_⟩
    refine kX (xs := (Az ds).map V.int) (fun k σ H1 => (∃ v2 v3 : Option V, σ = [some (.ref a), some (.ref p), v2, v3])/\H1 p = some (.lst ((way ds k).map V.int))/\Al H H1) ⟨⟨_, _, rfl⟩, Ac, t0⟩ (fun k σ H1 _ h => SqL.of (h.2.2 _ _ ha)) ?_ ?_
    · rintro k x σ H1 t hx ⟨⟨v2, v3, rfl⟩, hp1, s1⟩ ht
      have hk := Cy hx
      rw [List.length_map, Bu] at hk
      obtain ⟨e, he, rfl⟩ := Te hx
      rw [J3 hk] at he
      obtain rfl := Option.some.inj he
      have st := Ah (o := .tup [.int k, .int (eld ds k)]) ht
      have hp2 := st _ _ hp1
      have s2 := s1.trans st
      generalize upd H1 t (.tup [.int k, .int (eld ds k)]) = H2 at *
      k_is
      refine B6 (fun h => ?_) (fun _ => ?_)
      · have := V.int.inj h
        omega
      k_is
      refine ⟨_, rfl, ?_⟩
      k_is
      have hge := E2 hD hk
      refine B6 (fun h => by omega) (fun _ => ?_)
      k_is
      have hl := Co hD k (by omega)
      have hd := hD k hk
      refine Ge (fun σ H3 => σ = [some (.ref a), some (.ref p), some (.int k), some (.int (eld ds k))]/\Al H H3/\∃ m, dAt ds k + 1 <= m/\m <= (way ds k).length/\H3 p = some (.lst (((way ds k).take m).map V.int))) (fun _ H3 => fU H3 p)
        ⟨rfl, s2, (way ds k).length, by omega, Nat.le_refl _, by rw [List.take_of_length_le (Nat.le_refl _)]; exact hp2⟩ ?_
      rintro z σ H3 ⟨rfl, s3, m, hm1, hm2, hp3⟩ hz
      rw [Mv hp3, Nu hm2] at hz
      k_is
      have hx1 : (way ds k)[m - 1]? = some ((way ds k)[m - 1]'(by omega)) := List.getElem?_eq_getElem _
      generalize (way ds k)[m - 1]'(by omega) = y at hx1
      refine Gs (SqL.of hp3) (Um (by omega) hx1) ?_
      k_is
      have hea := Ie hD hk
      refine B6 (fun h => ?_) (fun h => ?_)
      · have hne : m - 1 ≠ dAt ds k := fun e => by
          rw [e, hea] at hx1
          have := Option.some.inj hx1
          omega
        refine Lb ?_
        k_is
        refine ⟨.inl ⟨rfl, _, SqL.of hp3⟩, ?_⟩
        refine ⟨p, _, .int y, rfl, rfl, hp3, ?_, ?_⟩
        · rw [Nu hm2, mX (n := y)]
          rw [List.getElem?_take_of_lt (by omega)]
          exact hx1
        k_is
        rw [jE hm2]
        refine ⟨⟨rfl, Cr s3 hp, m - 1, by omega, by omega, Ac⟩, ?_⟩
        rw [Mv Ac, Nu (by omega)]
        omega
      · have hme : m = dAt ds k + 1 := by
          by_cases e : m - 1 = dAt ds k
          · omega
          · have := R8 hD k (dAt ds k) (m - 1) _ _ (by omega) (by omega) hea hx1
            omega
        subst hme
        have hy : y = eld ds k := by
          rw [show dAt ds k + 1 - 1 = dAt ds k by omega, hea] at hx1
          exact (Option.some.inj hx1).symm
        k_is
        refine Gs (SqL.of hp3) (Um (by omega) hx1) ?_
        k_is
        refine Vj (fun h1 => absurd (congrArg V.int hy) h1) (fun _ => ?_)
        k_is
        refine ⟨.inl ⟨rfl, _, SqL.of hp3⟩, ?_⟩
        k_is
        refine De hp3 ?_ ?_
        · rw [Nu hm2]
          exact Ao (by have := Xm hD k (by omega); omega)
        k_is
        refine ⟨⟨_, _, rfl⟩, ?_, Cr s3 hp⟩
        rw [Ac]
        show _ = some (HO.lst (((way ds k).take (dAt ds k + 1) ++ [(k : Int)]).map V.int))
        rw [List.map_append]
        rfl
    · rintro σ H1 ⟨⟨v2, v3, rfl⟩, hp1, s1⟩
      k_is
      refine ⟨a, _, rfl, .inl (SqL.of (s1 _ _ ha)), fun l hl => ?_⟩
      exact q l _ (s1.trans (Ah hl)) Ac
def Rq:Sp:=fun vs H Q _=>∃ (a:Addr) (ds:List Nat),vs=[.ref a]/\H a=some (.lst ((Az ds).map V.int))/\Dok ds/\ds.length<4000/\∀ l H',Al H H'->H' l=some (.lst (nV ds))->Q (.ref l) H'
theorem Ux {ds:List Nat}{k:Nat}(hk:k<ds.length):nV (ds.take k)++[V.int (dAt ds k:Nat)]=nV (ds.take (k+1)):=by
 rw [List.take_add_one,List.getElem?_eq_getElem hk,<- kS]
 unfold dAt List.getD
 rw [List.getElem?_eq_getElem hk]
 rfl
theorem Y4 {f:Addr}{fd:FuncData}(F:Fun K "depths_of" "depths_of" Hu f fd)(T:Txt K mg a_ONES_OF_FOUR a_SIGNS_OF_FOUR):Ax P w K mg base CX0 1 f fd ["elders"] Rq:=by
 refine F.ok Jp (fun vs H Q E h=>?_) (fun cdv A outer s H vs Q E hr h=>?_)
 ·obtain ⟨a,ds,rfl,_⟩:=h
  rfl
 ·obtain ⟨a,ds,rfl,ha,hD,hn,q⟩:=h
  refine ⟨_,(Ab (An (i:=1) Jp.nd rfl (Or.inl rfl) (By Aa))
   (Ab (E4 PassesOwn.never rfl (Eb (pv 0)) (Bl (i:=2) Jp.nd rfl (Or.inl rfl))
   (Ae (Bi (Eg PySem.F.plainAttrs_list PySem.F.slot_list_append PySem.F.type_list_append Cb (pv 1) (Af (B2 (As Fm (pv 2) (Gh Dy Ag) (Aw _)) Ag (Aj Bd (Ck Ec (pv 1) (pv 2) (fun _ _=>rfl)) Ag)) Aa rfl)))))
   (Ae (Am (pv 1))))),?_⟩
  k_is
  refine ⟨Nat.zero_le _,fun p hp=>?_⟩
  k_is
  have t0:=Ah (o:=.lst []) hp
  refine ⟨a,rfl,⟨_,SqL.of (t0 _ _ ha)⟩,?_⟩
  refine Kz (xs:=(Az ds).map V.int) (fun k σ H1=>(∃ v2:Option V,σ=[some (.ref a),some (.ref p),v2])/\H1 p=some (.lst (nV (ds.take k)))/\Al H H1) ⟨⟨_,rfl⟩,Ac,t0⟩ (fun k σ H1 _ h=>SqL.of (h.2.2 _ _ ha)) ?_ ?_
  ·rintro k x σ H1 hx ⟨⟨v2,rfl⟩,hp1,s1⟩
   have hk:=Cy hx
   rw [List.length_map,Bu] at hk
   obtain ⟨e,he,rfl⟩:=Te hx
   rw [J3 hk] at he
   obtain rfl:=Option.some.inj he
   have hz:(nV (ds.take k)).length<sizeLine:=by
    rw [El,List.length_take]
    exact Ao (by omega)
   k_is
   refine ⟨.inl ⟨rfl,_,SqL.of hp1⟩,?_⟩
   k_is
   refine B6 (fun h=>?_) (fun h=>?_)
   ·have hd:=pX hD hk (V.int.inj h)
    k_is
    refine De hp1 hz ?_
    k_is
    refine ⟨⟨_,rfl⟩,?_,Cr s1 hp⟩
    rw [Ac,<- Ux hk,hd]
    rfl
   ·obtain ⟨v,hv,hlt,hd⟩:=Dx hD hk (fun e=>h (congrArg V.int e))
    k_is
    rw [hv]
    refine Gs (SqL.of hp1) (v:=.int (dAt ds v:Nat)) ?_ ?_
    ·refine B7 (wQ ?_)
     rw [List.getElem?_take_of_lt hlt,List.getElem?_eq_getElem (by omega)]
     unfold dAt List.getD
     rw [List.getElem?_eq_getElem (by omega)]
     rfl
    k_is
    refine De hp1 hz ?_
    k_is
    refine ⟨⟨_,rfl⟩,?_,Cr s1 hp⟩
    rw [Ac,<- Ux hk,hd]
    rfl
  ·rintro σ H1 ⟨⟨v2,rfl⟩,hp1,s1⟩
   rw [List.length_map,Bu,List.take_of_length_le (Nat.le_refl _)] at hp1
   k_is
   exact q p H1 s1 hp1
theorem iP (n:Nat):(List.replicate n [V.int 0]).flatten=(List.replicate n (0:Int)).map V.int:=by
 induction n with
 | zero=>rfl
 | succ n ih=>rw [List.replicate_succ,List.flatten_cons,ih,List.replicate_succ];rfl
def gsK (ds:List Nat)(k:Nat):List Nat:=(List.range (ds.length+1)).map fun j:Nat=>(Ay ds k ((j:Int)-1)).length
theorem Np (ds:List Nat)(k:Nat):(gsK ds k).length=ds.length+1:=by unfold gsK;rw [List.length_map,List.length_range]
theorem Xj {ds:List Nat}{k j:Nat}(hj:j<ds.length+1):(gsK ds k)[j]?=some (Ay ds k ((j:Int)-1)).length:=by unfold gsK;rw [List.getElem?_map,List.getElem?_range hj];rfl
theorem jW (ds:List Nat):gsK ds 0=List.replicate (ds.length+1) 0:=by
 refine List.ext_getElem? fun j=>?_
 by_cases hj:j<ds.length+1
 ·rw [Xj hj,List.getElem?_replicate,if_pos hj];rfl
 ·rw [List.getElem?_eq_none (by rw [Np];omega),List.getElem?_eq_none (by rw [List.length_replicate];omega)]
theorem rA (ds:List Nat):gsK ds ds.length=gsC ds:=by
 unfold gsK gsC
 rw [List.range_succ_eq_map,List.map_cons,List.map_map]
 refine congr (congrArg List.cons rfl) (List.map_congr_left fun j _=>?_)
 show (Ay ds ds.length (((j+1:Nat):Int)-1)).length=_
 rw [show (((j+1:Nat):Int)-1)=(j:Int) by omega]
theorem mQ {ds:List Nat}{k e:Nat}(he:eld ds k=(e:Int)-1)(h1:e<ds.length+1):gsK ds (k+1)=(gsK ds k).set e ((Ay ds k ((e:Int)-1)).length+1):=by
 refine List.ext_getElem? fun j=>?_
 by_cases hj:j<ds.length+1
 ·rw [Xj hj,List.getElem?_set]
  by_cases hje:e=j
  ·subst hje
   rw [if_pos rfl,if_pos (by rw [Np];exact h1),Ct he,List.length_append]
   rfl
  ·rw [if_neg hje,Xj hj,G3 (by rw [he];omega)]
 ·rw [List.getElem?_eq_none (by rw [Np];omega),List.getElem?_eq_none (by rw [List.length_set,Np];omega)]
def Mc:Sp:=fun vs H Q _=>∃ (l:Addr) (ds:List Nat),vs=[.ref l]/\H l=some (.lst ((Az ds).map V.int))/\Dok ds/\ds.length<=4000/\∀ p H',Al H H'->H p=none->H' p=some (.lst (nV (gsC ds)))->Q (.ref p) H'
theorem Ls {f : Addr}{fd : FuncData}(F : Fun K "children_counted" "children_counted" C1 f fd)(T : Txt K mg a_ONES_OF_FOUR a_SIGNS_OF_FOUR) : Ax P w K mg base CX0 1 f fd ["elders"] Mc := by
  refine F.ok Ej (fun vs H Q E h => ?_) (fun cdv A outer s H vs Q E hr h => ?_)
  · obtain ⟨l, ds, rfl, _⟩ := h
    rfl
  · obtain ⟨l, ds, rfl, hl, hD, hn, q⟩ := h
    have hel : ((Az ds).map V.int).length = ds.length := by unfold Az; rw [List.length_map, List.length_map, List.length_range]
    refine ⟨_, (Ab (An (i := 1) Ej.nd rfl (Or.inl rfl) (Aj Xa (By (Af Ag Aa rfl)) (Aj Bd (Av Bg (by rfl) T.n_len Ef (Af (pv 0) Aa rfl)) Ag)))
      (Ab (E4 PassesOwn.never rfl (Eb (pv 0)) (Bl (i := 2) Ej.nd rfl (Or.inl rfl))
      (Ae (eP (pv 1) (Aj Bd (pv 2) Ag) Ut Ag J6 aC)))
      (Ae (Am (pv 1))))), ?_⟩
    k_is
    refine ⟨few (by simp), fun p hp => ?_⟩
    have u0 := Ah (o := .lst [V.int 0]) hp
    k_is
    refine ⟨l, _, rfl, .inl (SqL.of (u0 _ _ hl)), ?_⟩
    k_is
    rw [hel]
    refine ⟨p, ((ds.length + 1 : Nat) : Int), _, rfl, rfl, Ac, by omega, by omega, Nat.le_of_lt (Ao (by simp; omega)), fun m hm => ?_⟩
    have u1 := u0.trans (Ah (o := .lst (List.replicate (((ds.length + 1 : Nat) : Int)).toNat [V.int 0]).flatten) hm)
    have hm0 : H m = none := u0.free hm
    have hM : (upd (upd H p (.lst [V.int 0])) m (.lst (List.replicate (((ds.length + 1 : Nat) : Int)).toNat [V.int 0]).flatten)) m = some (.lst (nV (gsK ds 0))) := by
      rw [Ac, Int.toNat_natCast, iP, jW]
      unfold nV
      rw [List.map_replicate, List.map_replicate]
      rfl
    generalize (upd (upd H p (.lst [V.int 0])) m (.lst (List.replicate (((ds.length + 1 : Nat) : Int)).toNat [V.int 0]).flatten)) = H2 at *
    k_is
    refine ⟨l, rfl, ⟨_, SqL.of (u1 _ _ hl)⟩, ?_⟩
    refine Kz (xs := (Az ds).map V.int) (fun k σ H3 => (∃ v2 : Option V, σ = [some (.ref l), some (.ref m), v2])/\H3 m = some (.lst (nV (gsK ds k)))/\Al H H3) ⟨⟨_, rfl⟩, hM, u1⟩ (fun k σ H3 _ h => SqL.of (h.2.2 _ _ hl)) ?_ ?_
    · rintro k x σ H3 hx ⟨⟨v2, rfl⟩, hm3, s3⟩
      obtain ⟨n, hn2, rfl⟩ := Te hx
      have hk : k < ds.length := by have := Cy hn2; unfold Az at this; rwa [List.length_map, List.length_range] at this
      obtain rfl : eld ds k = n := by
        unfold Az at hn2
        rw [List.getElem?_map, List.getElem?_range hk] at hn2
        exact Option.some.inj hn2
      have h1 := E2 hD hk
      have h2 := cC hD hk
      obtain ⟨e, he⟩ : ∃ e : Nat, eld ds k = (e : Int) - 1 := ⟨(eld ds k + 1).toNat, by omega⟩
      have he1 : e < ds.length + 1 := by omega
      have hix : eld ds k + 1 = (e : Int) := by omega
      k_is
      rw [hix]
      refine Gs (SqL.of hm3) (v := .int ((Ay ds k ((e : Int) - 1)).length : Nat)) (B7 (by unfold nV; rw [List.getElem?_map, Xj he1]; rfl)) ?_
      k_is
      refine jZ hm3 rfl (by rw [El, Np]; exact he1) ?_
      refine ⟨⟨_, rfl⟩, ?_, Cr s3 hm0⟩
      rw [Ac, mQ he he1]
      unfold nV
      rw [List.map_set]
      rfl
    · rintro σ H3 ⟨⟨v2, rfl⟩, hm3, s3⟩
      rw [hel, rA] at hm3
      k_is
      exact q m H3 s3 hm0 hm3
theorem Td {f:Addr}{fd:FuncData}(F:Fun K "counted_row" "counted_row" En f fd)(T:Txt K mg a_ONES_OF_FOUR a_SIGNS_OF_FOUR):Ax P w K mg base CX0 1 f fd ["many"] Ra:=by
 refine F.ok R4 (fun vs H Q E h=>?_) (fun cdv A outer s H vs Q E hr h=>?_)
 ·obtain ⟨l,ns,rfl,_⟩:=h
  rfl
 ·obtain ⟨l,ns,rfl,hl,hn,q⟩:=h
  refine ⟨_,(Ae (Am (Eg PySem.F.plainAttrs_str PySem.F.slot_str_join PySem.F.type_str_join Vq Fq (Af (Nq rfl N3 (Eb (pv 0)) (fun _ _ _ _=>Db) (fun _ _ _ _=>(Aj Mn (Aj qR Fq (pv 0)) Fq))) Aa rfl)))),?_⟩
  k_is
  refine ⟨rfl,?_⟩
  k_is
  refine ⟨_,rfl,⟨_,SqL.of hl⟩,?_⟩
  refine Lg (xs:=nV ns) (SqL.of hl) (fun i=>(ns.take i).map fun n=>V.str (Au (List.replicate n true++[false]))) rfl (fun i hi=>?_) (fun i x H1 R A hx s1 _ hA=>?_) (fun D H1 hD s1 h1=>?_)
  ·rw [List.length_map,List.length_take]
   exact Ao (by omega)
  ·obtain ⟨n,hn1,rfl⟩:=dJ hx
   have hns:=Rk hn1
   k_is
   refine ⟨"1",(n:Int),rfl,rfl,by omega,by omega,?_,few (by decide),?_⟩
   ·exact Nat.le_of_lt (Ao (by rw [show ("1":Str).length=1 by rfl];omega))
   have e0:U5 ("1":Str) ((n:Int)).toNat=Au (List.replicate n true):=by
    rw [Int.toNat_natCast]
    exact iS true _
   rw [e0]
   k_is
   have e1:Au (List.replicate n true)++("0":Str)=Au (List.replicate n true++[false]):=Jo (List.replicate n true) [false]
   refine ⟨_,"0",rfl,rfl,?_,?_⟩
   ·rw [A7,List.length_replicate]
    exact Nat.le_of_lt (Ao (by rw [show ("0":Str).length=1 by rfl];omega))
   rw [e1]
   refine hA _ _ ?_ (Al.refl _)
   rw [List.take_add_one,hn1,List.map_append]
   rfl
  ·k_is
   refine oI (ls:=ns.map fun n=>List.replicate n true++[false]) ?_ ?_ (q _ s1)
   ·rw [h1,El,List.take_of_length_le (Nat.le_refl _),List.map_map]
    rfl
   ·show (grB ns).length<=_
    rw [Hm]
    omega
theorem Ry:∀ {ns:List Int}{x:Int},x∈ns->∃ j:Nat,ns[j]?=some x/\∀ i:Nat,i<j->ns[i]?≠some x
 | y::ns,x,h=>by
  by_cases e:y=x
  ·exact ⟨0,by rw [e];rfl,fun i hi=>absurd hi (Nat.not_lt_zero _)⟩
  ·obtain ⟨j,h1,h2⟩:=Ry (List.mem_of_ne_of_mem (fun z=>e z.symm) h)
   refine ⟨j+1,h1,fun i hi=>?_⟩
   cases i with
   | zero=>exact fun z=>e (Option.some.inj z)
   | succ i=>exact h2 i (by omega)
def cO:Sp:=fun vs H Q _=>∃ (l:Addr) (ds:List Nat),vs=[.ref l]/\H l=some (.lst (nV ds))/\ds.length<=4000/\∀ (r:Nat) H',r<16->Al H H'->Q (.int r) H'
theorem Xu {f:Addr}{fd:FuncData}(F:Fun K "thin_rest" "thin_rest" Ia f fd)(T:Txt K mg a_ONES_OF_FOUR a_SIGNS_OF_FOUR):Ax P w K mg base CX0 1 f fd ["depths"] cO:=by
 refine F.ok Jm (fun vs H Q E h=>?_) (fun cdv A outer s H vs Q E hr h=>?_)
 ·obtain ⟨l,ds,rfl,_⟩:=h
  rfl
 ·obtain ⟨l,ds,rfl,hl,hn,q⟩:=h
  refine ⟨_,(Ab (An (i:=1) Jm.nd rfl (Or.inl rfl) (Aj Xa (By (Af Ag Aa rfl)) (Ba rfl T.g_MARK_STEP)))
   (Ab (E4 PassesOwn.never rfl (Eb (pv 0)) (Bl (i:=2) Jm.nd rfl (Or.inl rfl))
   (Ae (eP (pv 1) (Aj Ek (pv 2) (Ba rfl T.g_MARK_STEP)) Ut Ag J6 aC)))
   (Ae (Am (Eg PySem.F.plainAttrs_list PySem.F.slot_list_index PySem.F.type_list_index Sb (pv 1) (Af (Av (Uw rfl) (by rfl) T.n_min Ul (Af (pv 1) Aa rfl)) Aa rfl)))))),?_⟩
  k_is
  refine ⟨few (by simp),fun p hp=>?_⟩
  have u0:=Ah (o:=.lst [V.int 0]) hp
  k_is
  refine ⟨p,16,_,rfl,rfl,Ac,by omega,by omega,Nat.le_of_lt (Ao (by decide)),fun m hm=>?_⟩
  have u1:=u0.trans (Ah (o:=.lst (List.replicate (16:Int).toNat [V.int 0]).flatten) hm)
  have hm0:H m=none:=u0.free hm
  have hM:(upd (upd H p (.lst [V.int 0])) m (.lst (List.replicate (16:Int).toNat [V.int 0]).flatten)) m=some (.lst (nV (List.replicate 16 0))):=by
   rw [Ac]
   rfl
  generalize (upd (upd H p (.lst [V.int 0])) m (.lst (List.replicate (16:Int).toNat [V.int 0]).flatten))=H2 at *
  k_is
  refine ⟨l,rfl,⟨_,SqL.of (u1 _ _ hl)⟩,?_⟩
  refine Kz (xs:=nV ds) (fun k σ H3=>(∃ v2:Option V,σ=[some (.ref l),some (.ref m),v2])/\(∃ cs:List Nat,cs.length=16/\H3 m=some (.lst (nV cs)))/\Al H H3) ⟨⟨_,rfl⟩,⟨_,List.length_replicate,hM⟩,u1⟩ (fun k σ H3 _ h=>SqL.of (h.2.2 _ _ hl)) ?_ ?_
  ·rintro k x σ H3 hx ⟨⟨v2,rfl⟩,⟨cs,hc,hm3⟩,s3⟩
   obtain ⟨n,hn2,rfl⟩:=dJ hx
   k_is
   rw [show ((n:Int)%16)=((n%16:Nat):Int) by omega]
   have hlt:n%16<cs.length:=by omega
   refine Gs (SqL.of hm3) (v:=.int (cs[n%16]:Nat)) (B7 (by unfold nV;rw [List.getElem?_map,List.getElem?_eq_getElem hlt];rfl)) ?_
   k_is
   refine jZ hm3 rfl (by rw [El];exact hlt) ?_
   refine ⟨⟨_,rfl⟩,⟨cs.set (n%16) (cs[n%16]+1),by rw [List.length_set];exact hc,?_⟩,Cr s3 hm0⟩
   rw [Ac]
   unfold nV
   rw [List.map_set]
   rfl
  ·rintro σ H3 ⟨⟨v2,rfl⟩,⟨cs,hc,hm3⟩,s3⟩
   k_is
   refine ⟨.inl ⟨rfl,_,SqL.of hm3⟩,?_⟩
   k_is
   have hm4:=hm3
   rw [eY] at hm4
   refine ⟨m,_,rfl,SqL.of hm4,fun z=>?_,fun x hx=>?_⟩
   ·have:=congrArg List.length z
    rw [List.length_map,hc] at this
    cases this
   ·k_is
    obtain ⟨j,hj,hno⟩:=Ry hx.1
    refine ⟨m,_,x,j,rfl,rfl,hm4,hj,hno,?_⟩
    have:=Cy hj
    rw [List.length_map,hc] at this
    exact q j H3 this s3
def Sl:Sp:=fun vs H Q _=>∃ (a:Addr) (ds:List Nat),vs=[.ref a]/\H a=some (.lst ((Az ds).map V.int))/\Dok ds/\ds.length<4000/\∀ p kvs H',Al H H'->H p=none->H' p=some (.dK kvs)->Q (.ref p) H'
def Ty (n:Nat)(H:Hp)(zs:List V):Prop:=∃ (as:List Addr) (ks:List Int) (ys:List V),zs=as.map V.ref/\rM H as ks ys/\as.length<=n
theorem Ty.same {n:Nat}{H H':Hp}{zs:List V}(s:Al H H')(h:Ty n H zs):Ty n H' zs:=by
 obtain ⟨as,ks,ys,e,⟨h1,h2,h3⟩,hn⟩:=h
 exact ⟨as,ks,ys,e,⟨h1,h2,fun i a k y e1 e2 e3=>s _ _ (h3 i a k y e1 e2 e3)⟩,hn⟩
theorem Ty.but {n:Nat}{H:Hp}{D:Addr}{us:List V}{o:HO}{zs:List V}(hd:H D=some (.lst us))(h:Ty n H zs):Ty n (upd H D o) zs:=by
 obtain ⟨as,ks,ys,e,⟨h1,h2,h3⟩,hn⟩:=h
 refine ⟨as,ks,ys,e,⟨h1,h2,fun i a k y e1 e2 e3=>?_⟩,hn⟩
 have:=h3 i a k y e1 e2 e3
 rw [Ap (fun z=>by rw [z,hd] at this;cases this)]
 exact this
theorem Ty.more {n:Nat}{H:Hp}{zs:List V}(h:Ty n H zs){t:Addr}{k:Int}{y:V}(ht:H t=some (.tup [.int k,y])):Ty (n+1) H (zs++[.ref t]):=by
 obtain ⟨as,ks,ys,rfl,⟨h1,h2,h3⟩,hn⟩:=h
 refine ⟨as++[t],ks++[k],ys++[y],by rw [List.map_append];rfl,⟨by rw [List.length_append,List.length_append,h1];rfl,by rw [List.length_append,List.length_append,h2];rfl,fun i a k' y' e1 e2 e3=>?_⟩,by rw [List.length_append];simpa using hn⟩
 by_cases hi:i<as.length
 ·rw [List.getElem?_append_left hi] at e1
  rw [List.getElem?_append_left (by omega)] at e2 e3
  exact h3 i a k' y' e1 e2 e3
 ·have hi2:i=as.length:=by have:=Cy e1;rw [List.length_append] at this;simp at this;omega
  rw [List.getElem?_append_right (by omega),hi2,Nat.sub_self] at e1
  rw [List.getElem?_append_right (by omega),show i-ks.length=0 by omega] at e2
  rw [List.getElem?_append_right (by omega),show i-ys.length=0 by omega] at e3
  rw [<- Option.some.inj e1,<- Option.some.inj e2,<- Option.some.inj e3]
  exact ht
theorem Zp:∀ (ks:List Int)(ys:List V)(kvs:List (Key×V)),(U6 kvs ks ys).length<=kvs.length+ks.length
 | [],ys,kvs=>by cases ys<;>exact Nat.le_refl _
 | k::ks,[],kvs=>Nat.le_add_right _ _
 | k::ks,y::ys,kvs=>by
  have h1:=Zp ks ys (Zq kvs (.inl k) y)
  have h2:=bM kvs (.inl k:Key) y
  show (U6 (Zq kvs (.inl k) y) ks ys).length<=_
  rw [List.length_cons]
  omega
theorem Oq {f : Addr}{fd : FuncData}(F : Fun K "marked_depths" "marked_depths" Dh f fd)(T : Txt K mg a_ONES_OF_FOUR a_SIGNS_OF_FOUR)(c_depths_of : Cal P w K mg base "depths_of" 1 ["elders"] Rq)(c_thin_rest : Cal P w K mg base "thin_rest" 1 ["depths"] cO) : Ax P w K mg base CX0 2 f fd ["elders"] Sl := by
  refine F.ok Fz (fun vs H Q E h => ?_) (fun cdv A outer s H vs Q E hr h => ?_)
  · obtain ⟨a, ds, rfl, _⟩ := h
    rfl
  · obtain ⟨a, ds, rfl, ha, hD, hn, q⟩ := h
    refine ⟨_, (Ab (An (i := 1) Fz.nd rfl (Or.inl rfl) (Bb c_depths_of (hr.mono (by decide : 1 <= _)) (Af (pv 0) Aa rfl)))
      (Ab (An (i := 2) Fz.nd rfl (Or.inr rfl) (Bb c_thin_rest (hr.mono (by decide : 1 <= _)) (Af (pv 1) Aa rfl)))
      (Ae (Am (Dk (dC rfl) (by rfl) T.n_dict sY (Af (tN rfl Ml (eQ rfl T.n_enumerate (Af (pv 1) Aa rfl)) (fun _ _ _ _ => fV (As Fm (Aj Ek (pv 1) (Ba rfl T.g_MARK_STEP)) (pv 2) (Aw _))) (fun _ _ _ _ => (N8 (Af (pv 0) (Af (pv 1) Aa rfl) rfl)))) Aa rfl)))))), ?_⟩
    k_is
    refine ⟨a, ds, rfl, ha, hD, hn, fun l H1 s1 hl => ?_⟩
    k_is
    refine ⟨l, ds, rfl, hl, by omega, fun r H2 hr2 s2 => ?_⟩
    k_is
    have hl2 := s2 _ _ hl
    refine ⟨l, rfl, ⟨_, SqL.of hl2⟩, ?_⟩
    refine jN (SqL.of hl2) (fun D i zs H3 => Ty i H3 zs) (fun D H3 _ _ => ⟨[], [], [], rfl, ⟨rfl, rfl, fun i a k y e => by cases e⟩, Nat.zero_le _⟩) (fun D i zs H3 us o hD3 h => h.but hD3) (fun D i zs H3 hi h => ?_) (fun D i zs H3 H4 s4 h => h.same s4) (fun D i zs x H3 A R hx s3 hD1 hD3 hM hR hA => ?_) (fun D zs H3 hD1 s3 hM hD3 => ?_)
    · obtain ⟨as, ks, ys, rfl, _, hle⟩ := h
      rw [El] at hi
      rw [List.length_map]
      exact Ao (by omega)
    · obtain ⟨n, hn2, rfl⟩ := dJ hx
      k_is
      refine B6 (fun _ => ?_) (fun _ => ?_)
      · k_is
        refine ⟨few (by simp), fun t ht => ?_⟩
        refine hA _ _ (Ah ht) ?_
        exact (hM.same (Ah ht)).more Ac
      · refine hR _ (Al.refl _) ?_
        obtain ⟨as, ks, ys, e, h1, h2⟩ := hM
        exact ⟨as, ks, ys, e, h1, by omega⟩
    · obtain ⟨as, ks, ys, rfl, h1, hle⟩ := hM
      k_is
      have sm := (s1.trans s2).trans s3
      refine ⟨D, as, ks, ys, rfl, hD3, h1, ?_, fun p hp => ?_⟩
      · have := Zp ks ys []
        simpa using this
      · exact q p _ _ (sm.trans (Ah hp)) (sm.free hp) Ac
def Bm (ds:List Nat):List Bool:=true::grB (gsC ds)
theorem Nd {ds:List Nat}(h:Dok ds):(gsC ds).sum=ds.length:=aF h
theorem aW {ds:List Nat}(h:Dok ds):(Bm ds).length=2*ds.length+2:=by
 unfold Bm
 rw [List.length_cons,Hm,Nd h,G2]
 omega
theorem eO {ds:List Nat}(h:Dok ds):Vs 0 (Bm ds):=Ug (sW h)
def eA (n:Nat):List (Str×V):=[("knots",.int n)]
def eN (n:Nat)(p:V):List (Str×V):=[("knots",.int n),("pairs",p)]
def cFs (n:Nat)(p m:V):List (Str×V):=[("knots",.int n),("pairs",p),("marks",m)]
def Bc (K:PySem.W.Frag)(CB CC CP CD:Addr)(H:Hp)(x:Addr)(ds:List Nat):Prop:=∃ (dx p:Addr) (m:V),H x=some (.ins CD dx (cFs ds.length (.ref p) m))/\Bs K CB CC CP H p (Bm ds)/\Dok ds/\ds.length<4000
theorem Bc.same {K:PySem.W.Frag}{CB CC CP CD:Addr}{H H':Hp}{x:Addr}{ds:List Nat}(h:Bc K CB CC CP CD H x ds)(s:Al H H'):Bc K CB CC CP CD H' x ds:=by
 obtain ⟨dx,p,m,h1,h2,h3⟩:=h
 exact ⟨dx,p,m,s _ _ h1,h2.same s,h3⟩
theorem O6 {K:PySem.W.Frag}{CB CC CP C x dx p:Addr}{H H':Hp}{l:List Bool}{fs:List (Str×V)}(s:SameBut x H H')(hx:H x=some (.ins C dx fs))(hf:fs.length<3)(h:Bs K CB CC CP H p l):Bs K CB CC CP H' p l:=by
 obtain ⟨d,b,c,t,o,h1,h2,h3,h4,h5⟩:=h
 have ne:∀ {y C' d':Addr} {gs:List (Str×V)},H y=some (.ins C' d' gs)->3<=gs.length->y≠x:=fun hy hg e=>by
  rw [e,hx] at hy
  cases hy
  omega
 refine ⟨d,b,c,t,o,s _ _ (ne h1 (show 3<=5 by decide)) h1,He s (E8 hx) ?_ h2,J8 s (E8 hx) ?_ h3,h4.keep (fun y xs e=>s _ _ (fun z=>by rw [z,hx] at e;cases e) e),h5⟩
 ·obtain ⟨d2,t2,k,_⟩:=h2
  exact ne k (Nat.le_refl 3)
 ·obtain ⟨d2,t2,u2,k,_⟩:=h3
  exact ne k (Nat.le_refl 3)
def Ps (K:PySem.W.Frag)(CB CC CP CD:Addr):Sp:=fun vs H Q _=>∃ (x dx a:Addr) (ds:List Nat),vs=[.ref x,.ref a]/\H x=some (.ins CD dx [])/\H a=some (.lst ((Az ds).map V.int))/\Dok ds/\ds.length<4000/\∀ H',SameBut x H H'->Bc K CB CC CP CD H' x ds->Q .non H'
theorem W8 {f : Addr}{fd : FuncData}(F : Fun K "__init__" "Counted.__init__" Fl f fd)(T : Txt K mg a_ONES_OF_FOUR a_SIGNS_OF_FOUR)(Z : Qa K C_Counted)(c_look_at : Cal P w K mg base "look_at" 2 ["elders"] eE)(c_Pairs : Mkr P w K mg base "Pairs" C_Pairs 7 ["self", "text"] (Yz K C_Bits C_Counts C_Pairs))
    (c_counted_row : Cal P w K mg base "counted_row" 1 ["many"] Ra)(c_children_counted : Cal P w K mg base "children_counted" 1 ["elders"] Mc)(c_marked_depths : Cal P w K mg base "marked_depths" 2 ["elders"] Sl) : Ax P w K mg base CX0 9 f fd ["self", "elders"] (Ps K C_Bits C_Counts C_Pairs C_Counted) := by
  refine F.ok Kf (fun vs H Q E h => ?_) (fun cdv A outer s H vs Q E hr h => ?_)
  · obtain ⟨x, dx, a, ds, rfl, _⟩ := h
    rfl
  · obtain ⟨x, dx, a, ds, rfl, hx, ha, hD, hn, q⟩ := h
    refine ⟨_, (Ab (An (i := 2) Kf.nd rfl (Or.inl rfl) (Bb c_look_at (hr.mono (by decide : 2 <= _)) (Af (pv 1) Aa rfl)))
      (Ab (Ft (pv 0) (Av Bg (by rfl) T.n_len Ef (Af (pv 2) Aa rfl)) rfl)
      (Ab (Ft (pv 0) (Zf c_Pairs (hr.mono (by decide : 8 <= _)) (Af (Aj Mn Fq (Bb c_counted_row (hr.mono (by decide : 1 <= _)) (Af (Bb c_children_counted (hr.mono (by decide : 1 <= _)) (Af (pv 2) Aa rfl)) Aa rfl))) Aa rfl)) rfl)
      (Ae (Ft (pv 0) (Bb c_marked_depths (hr.mono (by decide : 2 <= _)) (Af (pv 2) Aa rfl)) rfl))))), ?_⟩
    k_is
    refine ⟨a, ds, rfl, ha, hD, hn, fun l H1 s1 hl => ?_⟩
    have hx1 := s1 _ _ hx
    k_is
    refine ⟨l, _, rfl, .inl (SqL.of hl), ?_⟩
    rw [List.length_map, Bu]
    k_is
    refine Ds hx1 Z.cl Z.n_knots (show 0 < 1000 by decide) ?_
    rw [show Gk ("knots" : Str) (V.int (ds.length : Nat)) [] = (eA ds.length) from rfl]
    have hx2 : upd H1 x (.ins C_Counted dx (eA ds.length)) x = some (.ins C_Counted dx (eA ds.length)) := Ac
    have lx : l ≠ x := fun e => by rw [e, hx1] at hl; cases hl
    have b2 : SameBut x H (upd H1 x (.ins C_Counted dx (eA ds.length))) := s1.but.trans Be
    have hl2 : upd H1 x (.ins C_Counted dx (eA ds.length)) l = some (.lst ((Az ds).map V.int)) := by rw [Ap lx]; exact hl
    generalize upd H1 x (.ins C_Counted dx (eA ds.length)) = H2 at *
    k_is
    refine ⟨l, ds, rfl, hl2, hD, by omega, fun g H3 s3 hg0 hg => ?_⟩
    k_is
    refine ⟨g, gsC ds, rfl, hg, by rw [Nd hD, G2]; omega, fun H4 s4 => ?_⟩
    k_is
    refine ⟨_, _, rfl, rfl, ?_, ?_⟩
    · exact Nat.le_of_lt (Ao (by rw [A7, Hm, Nd hD, G2, show ("1" : Str).length = 1 from rfl]; omega))
    rw [show ("1" : Str) ++ Au (grB (gsC ds)) = Au (Bm ds) from Jo [true] _]
    k_is
    have s34 := s3.trans s4
    intro p dp hp hdp hpd
    refine ⟨p, dp, Bm ds, rfl, Ac, eO hD, by rw [aW hD]; omega, fun H5 s5 hP5 => ⟨rfl, ?_⟩⟩
    have s5 := Je hp hdp s5
    have s25 := s34.trans s5
    have hx5 := s25 _ _ hx2
    have hl5 := s25 _ _ hl2
    have b5 := b2.trans s25.but
    k_is
    refine Ds hx5 Z.cl Z.n_pairs (show 1 < 1000 by decide) ?_
    rw [show Gk ("pairs" : Str) (V.ref p) (eA ds.length) = eN ds.length (.ref p) from rfl]
    have hx6 : upd H5 x (.ins C_Counted dx (eN ds.length (.ref p))) x = some (.ins C_Counted dx (eN ds.length (.ref p))) := Ac
    have b6 : SameBut x H5 (upd H5 x (.ins C_Counted dx (eN ds.length (.ref p)))) := Be
    have hl6 : upd H5 x (.ins C_Counted dx (eN ds.length (.ref p))) l = some (.lst ((Az ds).map V.int)) := by rw [Ap lx]; exact hl5
    have hP6 := O6 b6 hx5 (show 1 < 3 by decide) hP5
    have b26 := b5.trans b6
    generalize upd H5 x (.ins C_Counted dx (eN ds.length (.ref p))) = H6 at *
    k_is
    refine ⟨l, ds, rfl, hl6, hD, hn, fun m kvs H7 s7 hm0 hm => ?_⟩
    have hx7 := s7 _ _ hx6
    k_is
    refine Ds hx7 Z.cl Z.n_marks (show 2 < 1000 by decide) ?_
    rw [show Gk ("marks" : Str) (V.ref m) (eN ds.length (.ref p)) = cFs ds.length (.ref p) (.ref m) from rfl]
    exact q _ ((b26.trans s7.but).trans Be) ⟨dx, p, _, Ac, O6 Be hx7 (show 2 < 3 by decide) (hP6.same s7), hD, hn⟩
def U8 (K:PySem.W.Frag)(CB CC CP CD:Addr):Sp:=fun vs H Q _=>∃ (x:Addr) (ds:List Nat),vs=[.ref x]/\Bc K CB CC CP CD H x ds/\∀ H',Al H H'->Q (.str (Au (grB (gsC ds)))) H'
theorem Yl {f:Addr}{fd:FuncData}(F:Fun K "row" "Counted.row" F3 f fd)(T:Txt K mg a_ONES_OF_FOUR a_SIGNS_OF_FOUR)(Z:Qa K C_Counted)(Ys:Mth P w K mg base C_Pairs "text" 7 ["self"] (Xg K C_Bits C_Counts C_Pairs)):Ax P w K mg base CX0 8 f fd ["self"] (U8 K C_Bits C_Counts C_Pairs C_Counted):=by
 refine F.ok Rn (fun vs H Q E h=>?_) (fun cdv A outer s H vs Q E hr h=>?_)
 ·obtain ⟨x,l,rfl,_⟩:=h
  rfl
 ·obtain ⟨x,ds,rfl,⟨dx,p,m,hx,hP,hD,hn⟩,q⟩:=h
  refine ⟨_,(Ae (Am (Cs Rb (Kj Ys (hr.mono (by decide:7<=_)) (A0 (pv 0) rfl)) (Bw Ag) M7))),?_⟩
  k_is
  refine ⟨x,C_Counted,dx,_,_,rfl,hx,Z.cl,Z.n_pairs,rfl,?_⟩
  obtain ⟨dp,b,c,t,o,hp,_⟩:=id hP
  k_is
  refine ⟨p,dp,_,rfl,hp,rfl,?_⟩
  k_is
  refine ⟨p,Bm ds,rfl,hP,fun H1 s1=>?_⟩
  k_is
  refine ⟨_,rfl,Nat.le_of_lt (Ao (by rw [A7,aW hD];omega)),?_⟩
  have ec:Xk (Au (Bm ds)) (some 1) none=Au (grB (gsC ds)):=by
   have h1:=Il (Bm ds) 1 (Bm ds).length
   rw [List.take_of_length_le (by rw [List.length_drop];exact Nat.le_refl _)] at h1
   rw [<- show (Bm ds).drop 1=grB (gsC ds) from rfl,<- h1]
   unfold Xk
   rw [HT.sIx_nat,show (Au (Bm ds)).cps.size=(Bm ds).length from A7 _,Nat.min_self]
   rfl
  k_is
  rw [ec]
  exact q H1 s1
theorem Bc.sm {K:PySem.W.Frag}{CB CC CP CD x:Addr}{ts:List Tb}{H H':Hp}{ds:List Nat}(h:Bc K CB CC CP CD H x ds)(s:SmT ts H H'):Bc K CB CC CP CD H' x ds:=by
 obtain ⟨dx,p,m,h1,h2,h3⟩:=h
 exact ⟨dx,p,m,s.k h1,h2.sm s,h3⟩
def gB (ms:List Nat)(g:Nat):Nat:=(ms.take g).sum+g
theorem J7 {ms:List Nat}{g m:Nat}(h:ms[g]?=some m):gB ms (g+1)=gB ms g+m+1:=by
 unfold gB
 rw [List.take_add_one,h,List.sum_append]
 simp
 omega
theorem Dw (m:Nat)(r:List Nat):grB (m::r)=(List.replicate m true++[false])++grB r:=rfl
theorem Ue:∀ ns:List Nat,(grB ns).count true=ns.sum
 | []=>rfl
 | n::r=>by
  rw [Dw,List.count_append,List.count_append,Ue r,List.count_replicate_self]
  simp
theorem Zv:∀ {ms:List Nat}{g m x:Nat},ms[g]?=some m->x<=m->(grB ms).take (gB ms g+x)=grB (ms.take g)++List.replicate x true
 | [],g,m,x,h,_=>by cases h
 | n::r,0,m,x,h,hx=>by
  obtain rfl:n=m:=Option.some.inj h
  rw [Dw,show gB (n::r) 0+x=x from Nat.zero_add x,List.append_assoc,List.take_append_of_le_length (by rw [List.length_replicate];exact hx),List.take_replicate,Nat.min_eq_left hx]
  rfl
 | n::r,g+1,m,x,h,hx=>by
  have ih:=Zv (ms:=r) (g:=g) h hx
  have e:gB (n::r) (g+1)+x=(List.replicate n true++[false]).length+(gB r g+x):=by
   unfold gB
   rw [List.take_succ_cons,List.sum_cons,List.length_append,List.length_replicate]
   simp
   omega
  rw [Dw,e,List.take_length_add_append,ih,List.take_succ_cons,Dw]
  simp only [List.append_assoc]
theorem aQ:∀ {ms:List Nat}{g m:Nat},ms[g]?=some m->(grB ms)[gB ms g+m]?=some false
 | [],g,m,h=>by cases h
 | n::r,0,m,h=>by
  obtain rfl:n=m:=Option.some.inj h
  rw [Dw,show gB (n::r) 0+n=n from Nat.zero_add n,List.append_assoc,List.getElem?_append_right (by rw [List.length_replicate];exact Nat.le_refl _),List.length_replicate,Nat.sub_self]
  rfl
 | n::r,g+1,m,h=>by
  have ih:=aQ (ms:=r) (g:=g) h
  have e:gB (n::r) (g+1)+m=(List.replicate n true++[false]).length+(gB r g+m):=by
   unfold gB
   rw [List.take_succ_cons,List.sum_cons,List.length_append,List.length_replicate]
   simp
   omega
  rw [Dw,e,List.getElem?_append_right (Nat.le_add_right _ _),Nat.add_sub_cancel_left]
  exact ih
theorem sZ (ms:List Nat):gB ms ms.length=(grB ms).length:=by
 unfold gB
 rw [List.take_length,Hm]
theorem mK {ms:List Nat}{i j:Nat}(h:i<=j)(hj:j<=ms.length):gB ms i<=gB ms j:=by
 obtain ⟨d,rfl⟩:=Nat.le.dest h
 induction d with
 | zero=>exact Nat.le_refl _
 | succ d ih =>
  have h1:=ih (by omega) (by omega)
  have h2:=J7 (List.getElem?_eq_getElem (show i+d<ms.length by omega))
  rw [show i+(d+1)=i+d+1 by omega]
  omega
theorem lF {ms:List Nat}{g m x:Nat}(h:ms[g]?=some m)(hx:x<=m):((grB ms).take (gB ms g+x)).count true=(ms.take g).sum+x:=by
 rw [Zv h hx,List.count_append,Ue,List.count_replicate_self]
theorem mR {ms:List Nat}{g m x:Nat}(h:ms[g]?=some m)(hx:x<=m):hgt (grB ms) (gB ms g+x)=((ms.take g).sum:Int)-g+x:=by
 unfold hgt
 rw [lF h hx]
 unfold gB
 omega
theorem dM {ms:List Nat}{g m x:Nat}(h:ms[g]?=some m)(hx:x<=m):(occ false (grB ms) (gB ms g+x)).length=g:=by
 have h1:=(M9 (grB ms) (gB ms g+x)).2
 have h2:cnt (grB ms) (gB ms g+x)=(ms.take g).sum+x:=lF h hx
 rw [h2] at h1
 unfold gB at *
 omega
theorem lH {ms:List Nat}{g m:Nat}(h:ms[g]?=some m):(occ false (grB ms) (grB ms).length)[g]?=some (gB ms g+m)/\gB ms g+m<(grB ms).length/\(grB ms).getD (gB ms g+m) false=false:=by
 have hz:=aQ h
 have hlt:=Cy hz
 have hd:(grB ms).getD (gB ms g+m) false=false:=by unfold List.getD;rw [hz];rfl
 have ho:=dM h (Nat.le_refl m)
 refine ⟨?_,hlt,hd⟩
 have e:occ false (grB ms) (gB ms g+m+1)=occ false (grB ms) (gB ms g+m)++[gB ms g+m]:=by
  rw [Mr,hd]
  rfl
 rw [U9 (n:=gB ms g+m+1) (by omega) (by rw [e,List.length_append,ho];exact Nat.lt_succ_self _),e,List.getElem?_append_right (by rw [ho];exact Nat.le_refl _),ho,Nat.sub_self]
 rfl
theorem Xo {ms:List Nat}{a i:Nat}:∀ b,a<=b->b<=ms.length->gB ms a<=i->i<gB ms b->∃ j m x,a<=j/\j<b/\ms[j]?=some m/\x<=m/\i=gB ms j+x
 | 0,h1,_,h3,h4=>by
  obtain rfl:a=0:=by omega
  omega
 | b+1,h1,h2,h3,h4=>by
  have hm:ms[b]?=some (ms[b]'(by omega)):=List.getElem?_eq_getElem _
  generalize ms[b]'(by omega)=m at hm
  rw [J7 hm] at h4
  by_cases h5:i<gB ms b
  ·by_cases h6:a<=b
   ·obtain ⟨j,m',x,k1,k2,k3⟩:=Xo b h6 (by omega) h3 h5
    exact ⟨j,m',x,k1,by omega,k3⟩
   ·have:=mK (ms:=ms) (show b<=a by omega) (by omega)
    omega
  ·by_cases h6:a<=b
   ·exact ⟨b,m,i-gB ms b,h6,Nat.lt_succ_self _,hm,by omega,by omega⟩
   ·obtain rfl:a=b+1:=by omega
    rw [J7 hm] at h3
    omega
def msC (ds:List Nat):List Nat:=((Ay ds ds.length (-1)).length+1)::(List.range ds.length).map fun v:Nat=>(Ay ds ds.length v).length
theorem Jq (ds:List Nat):Bm ds=grB (msC ds):=by
 unfold Bm msC gsC
 rw [Dw,Dw,List.replicate_succ]
 rfl
theorem F4 (ds:List Nat):(msC ds).length=ds.length+1:=by unfold msC;rw [List.length_cons,List.length_map,List.length_range]
theorem R1 (ds:List Nat):(msC ds)[0]?=some ((Ay ds ds.length (-1)).length+1):=rfl
theorem Ng {ds:List Nat}{k:Nat}(hk:k<ds.length):(msC ds)[k+1]?=some (Ay ds ds.length k).length:=by
 show ((List.range ds.length).map fun v:Nat=>(Ay ds ds.length v).length)[k]?=_
 rw [List.getElem?_map,List.getElem?_range hk]
 rfl
theorem Vd {ds:List Nat}(h:Dok ds){j:Nat}(hj:j<=ds.length):((msC ds).take (j+1)).sum=E5 ds j+1:=by
 rw [<- Nl h j hj]
 unfold msC gsC
 rw [List.take_succ_cons,List.take_succ_cons,List.sum_cons,List.sum_cons]
 omega
def bgC (ds:List Nat)(j:Nat):Nat:=E5 ds j+j+1
theorem Gq {ds:List Nat}(h:Dok ds){j:Nat}(hj:j<=ds.length):gB (msC ds) (j+1)=bgC ds j+1:=by
 unfold gB bgC
 rw [Vd h hj]
 omega
theorem Ea {ds:List Nat}(h:Dok ds){k:Nat}(hk:k<=ds.length):(occ false (Bm ds) (Bm ds).length)[k]?=some (bgC ds k)/\bgC ds k<(Bm ds).length/\(Bm ds).getD (bgC ds k) false=false:=by
 have hm:(msC ds)[k]?=some ((msC ds)[k]'(by rw [F4];omega)):=List.getElem?_eq_getElem _
 have h1:=lH hm
 have h2:=J7 hm
 rw [Gq h hk] at h2
 rw [show gB (msC ds) k+(msC ds)[k]'(by rw [F4];omega)=bgC ds k by omega,<- Jq] at h1
 exact h1
theorem S2 {ds:List Nat}(h:Dok ds){j m x:Nat}(hj:j<=ds.length)(hm:(msC ds)[j+1]?=some m)(hx:x<=m):hgt (Bm ds) (bgC ds j+1+x)=(E5 ds j:Int)-j+x:=by
 rw [Jq,<- Gq h hj,mR hm hx,Vd h hj]
 omega
theorem N7 {ds:List Nat}(h:Dok ds){j:Nat}(hj:j<=ds.length):hgt (Bm ds) (bgC ds j+1)=(E5 ds j:Int)-j:=by
 by_cases e:j=ds.length
 ·subst e
  have h1:bgC ds ds.length+1=(Bm ds).length:=by rw [Jq,<- sZ,F4,Gq h (Nat.le_refl _)]
  rw [h1]
  have h2:=fW (eO h)
  rw [h2,Jn h]
  omega
 ·have:=S2 h (x:=0) hj (Ng (show j<ds.length by omega)) (Nat.zero_le _)
  rw [Nat.add_zero] at this
  rw [this]
  omega
theorem wD {ds:List Nat}(h:Dok ds){k:Nat}{r:Option Nat}(hk:k<ds.length)(hr:Uh (Bm ds) (bgC ds k+1) (Bm ds).length (hgt (Bm ds) (bgC ds k+1)-1) r):r=some (bgC ds (Aq ds k)+1):=by
 obtain ⟨a,b,c,d⟩:=Bj (ds:=ds) hk
 have hlo:=N7 h (show k<=ds.length by omega)
 have hbk:=C8 h hk
 have ht:hgt (Bm ds) (bgC ds (Aq ds k)+1)=hgt (Bm ds) (bgC ds k+1)-1:=by
  rw [N7 h b,hlo]
  by_cases e:Aq ds k=ds.length
  ·have:=Uz hk e
   rw [e,Jn h]
   omega
  ·have h1:=aO h hk (by omega)
   have h2:=C8 h (show Aq ds k<ds.length by omega)
   omega
 have hno:∀ i,bgC ds k+1<i->i<bgC ds (Aq ds k)+1->hgt (Bm ds) i≠hgt (Bm ds) (bgC ds k+1)-1:=fun i i1 i2=>by
  rw [<- Gq h b] at i2
  obtain ⟨j,m,x,j1,j2,j3,j4,rfl⟩:=Xo (a:=k+1) (Aq ds k+1) (by omega) (by rw [F4];omega) (by rw [Gq h (by omega)];omega) i2
  obtain ⟨j',rfl⟩:∃ j',j=j'+1:=⟨j-1,by omega⟩
  rw [Gq h (by omega),S2 h (by omega) j3 j4,hlo]
  have h1:=pY h hk (show k<=j' by omega) (by omega)
  have h2:=C8 h (show j'<ds.length by omega)
  omega
 have hlt:bgC ds k+1<bgC ds (Aq ds k)+1:=by
  have h1:=mK (ms:=msC ds) (show k+1+1<=Aq ds k+1 by omega) (by rw [F4];omega)
  have h2:=J7 (Ng hk)
  rw [Gq h b] at h1
  rw [Gq h (show k<=ds.length by omega)] at h2
  omega
 have hle:bgC ds (Aq ds k)+1<=(Bm ds).length:=(Ea h b).2.1
 cases r with
 | none=>exact absurd ht (hr _ hlt hle)
 | some r =>
  obtain ⟨r1,r2,r3,r4⟩:=hr
  congr 1
  by_cases e1:r<bgC ds (Aq ds k)+1
  ·exact absurd r3 (hno r r1 e1)
  ·by_cases e2:bgC ds (Aq ds k)+1<r
   ·exact absurd ht (r4 _ hlt e2)
   ·omega
def Js (K:PySem.W.Frag)(CB CC CP CD:Addr)(ts:List Tb):Sp:=fun vs H Q _=>∃ (x:Addr) (ds:List Nat) (k:Nat),vs=[.ref x,.int k]/\Bc K CB CC CP CD H x ds/\Tbs ts H/\k<ds.length/\∀ t H',SmT ts H H'->H' t=some (.tup [.int (bgC ds k:Nat),.int (bgC ds (Aq ds k):Nat)])->Q (.ref t) H'
theorem Wm {f : Addr}{fd : FuncData}{ts : List Tb}(F : Fun K "stretch" "Counted.stretch" Dr f fd)(T : Txt K mg a_ONES_OF_FOUR a_SIGNS_OF_FOUR)(Z : Qa K C_Counted)(c_check_knot : Cal P w K mg base "check_knot" 3 ["k", "many_knots"] Mt)(Qe : Mth P w K mg base C_Pairs "closing" 6 ["self", "number"] (G7 K C_Bits C_Counts C_Pairs ts))(Qs : Mth P w K mg base C_Pairs "next_at" 9 ["self", "place", "height"] (Nw K C_Bits C_Counts C_Pairs))
    (Qf : Mth P w K mg base C_Pairs "height" 6 ["self", "place"] (Ix K C_Counts C_Pairs)) : Ax P w K mg base CX0 10 f fd ["self", "k"] (Js K C_Bits C_Counts C_Pairs C_Counted ts) := by
  refine F.ok E1 (fun vs H Q E h => ?_) (fun cdv A outer s H vs Q E hr h => ?_)
  · obtain ⟨x, ds, k, rfl, _⟩ := h
    rfl
  · obtain ⟨x, ds, k, rfl, hC, hT, hk, q⟩ := h
    obtain ⟨dx, p, m, hx, hP, hD, hn⟩ := id hC
    obtain ⟨z1, z2, z3⟩ := Ea hD (show k <= ds.length by omega)
    obtain ⟨dp, b, c, tt, o, hp, _⟩ := id hP
    refine ⟨_, (Ab (Bi (Bb c_check_knot (hr.mono (by decide : 3 <= _)) (Af (pv 1) (Af (A0 (pv 0) rfl) Aa rfl) rfl)))
      (Ab (An (i := 2) E1.nd rfl (Or.inl rfl) (Aj Bd (A4 Qe (hr.mono (by decide : 6 <= _)) (A0 (pv 0) rfl) (Af (pv 1) Aa rfl)) Ag))
      (Ab (An (i := 3) E1.nd rfl (Or.inl rfl) (A4 Qs (hr.mono (by decide : 9 <= _)) (A0 (pv 0) rfl) (Af (pv 2) (Af (Aj Bn (A4 Qf (hr.mono (by decide : 6 <= _)) (A0 (pv 0) rfl) (Af (pv 2) Aa rfl)) Ag) Aa rfl) rfl)))
      (Ae (Am (N8 (Af (Aj Bn (pv 2) Ag) (Af (Aj Bn (pv 3) Ag) Aa rfl) rfl))))))), ?_⟩
    k_is
    refine ⟨x, C_Counted, dx, _, _, rfl, hx, Z.cl, Z.n_knots, rfl, ?_⟩
    k_is
    refine ⟨k, ds.length, rfl, by omega, by omega, ?_⟩
    k_is
    refine ⟨x, C_Counted, dx, _, _, rfl, hx, Z.cl, Z.n_pairs, rfl, ?_⟩
    k_is
    refine ⟨p, dp, _, rfl, hp, rfl, ?_⟩
    k_is
    refine ⟨p, Bm ds, k, bgC ds k, rfl, hP, hT, z1, fun H1 s1 => ?_⟩
    have hx1 := s1.k hx
    have hP1 := hP.sm s1
    obtain ⟨dp1, b1, c1, t1, o1, hp1, _, hC1, _⟩ := id hP1
    k_is
    refine ⟨x, C_Counted, dx, _, _, rfl, hx1, Z.cl, Z.n_pairs, rfl, ?_⟩
    k_is
    refine ⟨p, dp1, _, rfl, hp1, rfl, ?_⟩
    k_is
    refine ⟨x, C_Counted, dx, _, _, rfl, hx1, Z.cl, Z.n_pairs, rfl, ?_⟩
    k_is
    refine ⟨p, dp1, _, rfl, hp1, rfl, ?_⟩
    k_is
    refine ⟨p, dp1, c1, _, Bm ds, bgC ds k + 1, by rw [show ((bgC ds k + 1 : Nat) : Int) = (bgC ds k : Int) + 1 by omega]; rfl, hp1, rfl, rfl, hC1, by omega, fun H2 s2 => ?_⟩
    rw [Nk]
    k_is
    refine ⟨p, Bm ds, bgC ds k + 1, hgt (Bm ds) (bgC ds k + 1) - 1, by rw [show ((bgC ds k + 1 : Nat) : Int) = (bgC ds k : Int) + 1 by omega]; rfl, hP1.same s2, by omega, fun r H3 hr3 s3 => ?_⟩
    obtain rfl := wD hD hk hr3
    rw [show Gn (some (bgC ds (Aq ds k) + 1)) = V.int ((bgC ds (Aq ds k) : Int) + 1) by show V.int _ = _; congr 1]
    k_is
    rw [show ((bgC ds k : Int) + 1 - 1) = (bgC ds k : Int) by omega, show ((bgC ds (Aq ds k) : Int) + 1 - 1) = (bgC ds (Aq ds k) : Int) by omega]
    refine ⟨few (by simp), fun t ht => ?_⟩
    exact q t _ ((s1.then (s2.trans s3)).then (Ah ht)) Ac
theorem uN {ds:List Nat}(h:Dok ds){k:Nat}(hk:k<ds.length):bgC ds (Aq ds k)+1=bgC ds k+2*(Aq ds k-k):=by
 obtain ⟨a,b,c,d⟩:=Bj (ds:=ds) hk
 have hbk:=C8 h hk
 unfold bgC
 by_cases e:Aq ds k=ds.length
 ·have:=Uz hk e
  have h2:=Jn h
  rw [e]
  omega
 ·have h1:=aO h hk (by omega)
  have h2:=C8 h (show Aq ds k<ds.length by omega)
  omega
def Ro (K:PySem.W.Frag)(CB CC CP CD:Addr)(ts:List Tb):Sp:=fun vs H Q _=>∃ (x:Addr) (ds:List Nat) (k:Nat),vs=[.ref x,.int k]/\Bc K CB CC CP CD H x ds/\Tbs ts H/\k<ds.length/\∀ H',SmT ts H H'->Q (.int (Aq ds k:Nat)) H'
theorem Ws {f : Addr}{fd : FuncData}{ts : List Tb}(F : Fun K "behind" "Counted.behind" D0 f fd)(T : Txt K mg a_ONES_OF_FOUR a_SIGNS_OF_FOUR)(Z : Qa K C_Counted)(Qn : Mth P w K mg base C_Counted "stretch" 10 ["self", "k"] (Js K C_Bits C_Counts C_Pairs C_Counted ts)) : Ax P w K mg base CX0 11 f fd ["self", "k"] (Ro K C_Bits C_Counts C_Pairs C_Counted ts) := by
  refine F.ok Hy (fun vs H Q E h => ?_) (fun cdv A outer s H vs Q E hr h => ?_)
  · obtain ⟨x, ds, k, rfl, _⟩ := h
    rfl
  · obtain ⟨x, ds, k, rfl, hC, hT, hk, q⟩ := h
    obtain ⟨dx, p, m, hx, hP, hD, hn⟩ := id hC
    refine ⟨_, (Ab (An (i := 2) Hy.nd rfl (Or.inl rfl) (A4 Qn (hr.mono (by decide : 10 <= _)) (pv 0) (Af (pv 1) Aa rfl)))
      (Ae (Am (Aj Bd (pv 1) (Aj Dc (Aj Bd (Aj Bn (Ck Ey (pv 2) Ag (fun _ _ => rfl)) (Ck Ey (pv 2) Ag (fun _ _ => rfl))) Ag) Ag))))), ?_⟩
    k_is
    refine ⟨x, dx, _, rfl, hx, rfl, ?_⟩
    k_is
    refine ⟨x, ds, k, rfl, hC, hT, hk, fun t H1 s1 ht => ?_⟩
    k_is
    refine Hh (SqT.of ht) (v := .int (bgC ds (Aq ds k) : Nat)) rfl ?_
    k_is
    refine Hh (SqT.of ht) (v := .int (bgC ds k : Nat)) rfl ?_
    k_is
    have hb := uN hD hk
    have he := (Bj (ds := ds) hk).1
    rw [show ((k : Int) + (((bgC ds (Aq ds k) : Nat) : Int) - ((bgC ds k : Nat) : Int) + 1) / 2) = ((Aq ds k : Nat) : Int) by omega]
    exact q H1 s1
theorem vI {ds:List Nat}{k:Nat}(hk:k<ds.length):(Ay ds k (eld ds k)).length<(Ay ds ds.length (eld ds k)).length:=by
 have h1:∀ d,k+1+d<=ds.length->(Ay ds k (eld ds k)).length+1<=(Ay ds (k+1+d) (eld ds k)).length:=fun d=>by
  induction d with
  | zero =>
   intro _
   rw [Nat.add_zero,Ct rfl,List.length_append]
   exact Nat.le_refl _
  | succ d ih =>
   intro hd
   have:=ih (by omega)
   rw [show k+1+(d+1)=k+1+d+1 by omega]
   by_cases e:eld ds (k+1+d)=eld ds k
   ·rw [Ct e,List.length_append];omega
   ·rw [G3 e];exact this
 have:=h1 (ds.length-(k+1)) (by omega)
 rw [show k+1+(ds.length-(k+1))=ds.length by omega] at this
 omega
def grp (ds:List Nat)(k:Nat):Nat:=(eld ds k+1).toNat
def idx (ds:List Nat)(k:Nat):Nat:=(Ay ds k (eld ds k)).length
def stm (ds:List Nat)(k:Nat):Nat:=bgC ds (grp ds k)-1-idx ds k
theorem K3 {ds:List Nat}(h:Dok ds){k:Nat}(hk:k<ds.length):∃ m x,(msC ds)[grp ds k]?=some m/\x<m/\gB (msC ds) (grp ds k)+m=bgC ds (grp ds k)/\x+1+idx ds k=m/\stm ds k=gB (msC ds) (grp ds k)+x/\grp ds k<=k/\hgt (Bm ds) (stm ds k)=hgt (Bm ds) (bgC ds k+1)/\(∀ i,stm ds k<i->i<bgC ds k+1->hgt (Bm ds) i≠hgt (Bm ds) (bgC ds k+1))/\stm ds k<bgC ds k+1:=by
 have hg:eld ds k+1=(grp ds k:Nat):=by
  have:=E2 h hk
  unfold grp
  omega
 obtain ⟨hgk,hge⟩:=Ll h hk hg
 have hgl:grp ds k<(msC ds).length:=by rw [F4];omega
 have hm:(msC ds)[grp ds k]?=some ((msC ds)[grp ds k]):=List.getElem?_eq_getElem _
 generalize (msC ds)[grp ds k]=m at hm
 have hi:idx ds k<m:=by
  have h1:=vI hk
  unfold idx
  by_cases e:eld ds k=-1
  ·rw [show grp ds k=0 by omega,R1] at hm
   have:=Option.some.inj hm
   rw [e] at h1 ⊢
   omega
  ·obtain ⟨v,hv,hvk,_⟩:=Dx h hk e
   rw [show grp ds k=v+1 by omega,Ng (by omega)] at hm
   have:=Option.some.inj hm
   rw [hv] at h1 ⊢
   omega
 have hbg:gB (msC ds) (grp ds k)+m=bgC ds (grp ds k):=by
  have:=J7 hm
  rw [Gq h (by omega)] at this
  omega
 refine ⟨m,m-1-idx ds k,hm,by omega,hbg,by omega,by unfold stm;omega,hgk,?_⟩
 have hlo:=N7 h (show k<=ds.length by omega)
 have hbk:=C8 h hk
 have hbg2:=C8 h (show grp ds k<ds.length by omega)
 have hix:=nJ h hk hg
 have hG:((msC ds).take (grp ds k)).sum+m=E5 ds (grp ds k)+1:=by
  have h1:=Vd h (show grp ds k<=ds.length by omega)
  rw [List.take_add_one,hm,List.sum_append] at h1
  simp at h1
  omega
 have inG:∀ x,x<=m->hgt (Bm ds) (gB (msC ds) (grp ds k)+x)=(E5 ds (grp ds k):Int)+1-m-grp ds k+x:=fun x hx=>by
  rw [Jq,mR hm hx]
  omega
 have ht:hgt (Bm ds) (stm ds k)=hgt (Bm ds) (bgC ds k+1):=by
  rw [show stm ds k=gB (msC ds) (grp ds k)+(m-1-idx ds k) by unfold stm;omega,inG _ (by omega),hlo]
  unfold idx at *
  omega
 have hno:∀ i,stm ds k<i->i<bgC ds k+1->hgt (Bm ds) i≠hgt (Bm ds) (bgC ds k+1):=fun i i1 i2=>by
  by_cases hi1:i<=bgC ds (grp ds k)
  ·rw [show i=gB (msC ds) (grp ds k)+(i-gB (msC ds) (grp ds k)) by unfold stm at i1;omega,inG _ (by omega),hlo]
   unfold stm idx at *
   omega
  ·rw [<- Gq h (show k<=ds.length by omega)] at i2
   obtain ⟨j,m',x,j1,j2,j3,j4,rfl⟩:=Xo (a:=grp ds k+1) (k+1) (by omega) (by rw [F4];omega) (by rw [Gq h (by omega)];omega) i2
   obtain ⟨j',rfl⟩:∃ j',j=j'+1:=⟨j-1,by omega⟩
   rw [Gq h (by omega),S2 h (by omega) j3 j4,hlo]
   have h1:=nD h hk hg (show grp ds k<=j' by omega) (by omega)
   have h2:=C8 h (show j'<ds.length by omega)
   omega
 have hst:stm ds k<bgC ds k+1:=by
  have h1:=mK (ms:=msC ds) (show grp ds k+1<=k+1 by omega) (by rw [F4];omega)
  rw [Gq h (by omega),Gq h (by omega)] at h1
  unfold stm
  omega
 exact ⟨ht,hno,hst⟩
theorem xG {ds:List Nat}(h:Dok ds){k:Nat}(hk:k<ds.length):∃ m x,(msC ds)[grp ds k]?=some m/\x<m/\gB (msC ds) (grp ds k)+m=bgC ds (grp ds k)/\x+1+idx ds k=m/\stm ds k=gB (msC ds) (grp ds k)+x/\grp ds k<=k/\∀ p,Pp (Bm ds) (bgC ds k+1) (hgt (Bm ds) (bgC ds k+1)) (some p)->p=stm ds k:=by
 obtain ⟨m,x,a1,a2,a3,a4,a5,a6,ht,hno,hst⟩:=K3 h hk
 refine ⟨m,x,a1,a2,a3,a4,a5,a6,fun p hp=>?_⟩
 obtain ⟨p1,p2,p3⟩:=hp
 by_cases e1:stm ds k<p
 ·exact absurd p2 (hno p e1 p1)
 ·by_cases e2:p<stm ds k
  ·exact absurd ht (p3 _ e2 hst)
  ·omega
theorem wZ {ds:List Nat}(h:Dok ds){k j:Nat}(hk:k<ds.length)(hj:Uh (Bm ds) (stm ds k) (Bm ds).length (hgt (Bm ds) (stm ds k)) (some (j+1))):j=bgC ds k:=by
 obtain ⟨m,x,a1,a2,a3,a4,a5,a6,ht,hno,hst⟩:=K3 h hk
 obtain ⟨j1,j2,j3,j4⟩:=hj
 rw [ht] at j3 j4
 by_cases e1:j+1<bgC ds k+1
 ·exact absurd j3 (hno _ j1 e1)
 ·by_cases e2:bgC ds k+1<j+1
  ·exact absurd rfl (j4 _ hst e2)
  ·omega
theorem fL:∀ {ms:List Nat}{g m x:Nat},ms[g]?=some m->x<m->(grB ms)[gB ms g+x]?=some true
 | [],g,m,x,h,_=>by cases h
 | n::r,0,m,x,h,hx=>by
  obtain rfl:n=m:=Option.some.inj h
  rw [Dw,show gB (n::r) 0+x=x from Nat.zero_add x,List.append_assoc,List.getElem?_append_left (by rw [List.length_replicate];exact hx),List.getElem?_replicate,if_pos hx]
 | n::r,g+1,m,x,h,hx=>by
  have ih:=fL (ms:=r) (g:=g) h hx
  have e:gB (n::r) (g+1)+x=(List.replicate n true++[false]).length+(gB r g+x):=by
   unfold gB
   rw [List.take_succ_cons,List.sum_cons,List.length_append,List.length_replicate]
   simp
   omega
  rw [Dw,e,List.getElem?_append_right (Nat.le_add_right _ _),Nat.add_sub_cancel_left]
  exact ih
theorem Kt {ds:List Nat}(h:Dok ds){k:Nat}(hk:k<ds.length):(Bm ds).getD (stm ds k) false=true/\stm ds k<(Bm ds).length:=by
 obtain ⟨m,x,a1,a2,a3,a4,a5,a6,_⟩:=K3 h hk
 have:=fL a1 a2
 rw [<- a5,<- Jq] at this
 refine ⟨?_,Cy this⟩
 unfold List.getD
 rw [this]
 rfl
def Rw (K:PySem.W.Frag)(CB CC CP CD:Addr)(ts:List Tb):Sp:=fun vs H Q _=>∃ (x:Addr) (ds:List Nat) (k:Nat),vs=[.ref x,.int k]/\Bc K CB CC CP CD H x ds/\Tbs ts H/\k<ds.length/\∀ H',SmT ts H H'->Q (.int (stm ds k:Nat)) H'
theorem Yc {f : Addr}{fd : FuncData}{ts : List Tb}(F : Fun K "stem" "Counted.stem" Fc f fd)(T : Txt K mg a_ONES_OF_FOUR a_SIGNS_OF_FOUR)(Z : Qa K C_Counted)(c_check_knot : Cal P w K mg base "check_knot" 3 ["k", "many_knots"] Mt)(Qt : Mth P w K mg base C_Pairs "partner" 10 ["self", "place"] (Ln K C_Bits C_Counts C_Pairs))(Qe : Mth P w K mg base C_Pairs "closing" 6 ["self", "number"] (G7 K C_Bits C_Counts C_Pairs ts)) : Ax P w K mg base CX0 11 f fd ["self", "k"] (Rw K C_Bits C_Counts C_Pairs C_Counted ts) := by
  refine F.ok Pd (fun vs H Q E h => ?_) (fun cdv A outer s H vs Q E hr h => ?_)
  · obtain ⟨x, ds, k, rfl, _⟩ := h
    rfl
  · obtain ⟨x, ds, k, rfl, hC, hT, hk, q⟩ := h
    obtain ⟨dx, p, m, hx, hP, hD, hn⟩ := id hC
    obtain ⟨z1, z2, z3⟩ := Ea hD (show k <= ds.length by omega)
    obtain ⟨dp, b, c, tt, o, hp, _⟩ := id hP
    refine ⟨_, (Ab (Bi (Bb c_check_knot (hr.mono (by decide : 3 <= _)) (Af (pv 1) (Af (A0 (pv 0) rfl) Aa rfl) rfl)))
      (Ae (Am (A4 Qt (hr.mono (by decide : 10 <= _)) (A0 (pv 0) rfl) (Af (A4 Qe (hr.mono (by decide : 6 <= _)) (A0 (pv 0) rfl) (Af (pv 1) Aa rfl)) Aa rfl))))), ?_⟩
    k_is
    refine ⟨x, C_Counted, dx, _, _, rfl, hx, Z.cl, Z.n_knots, rfl, ?_⟩
    k_is
    refine ⟨k, ds.length, rfl, by omega, by omega, ?_⟩
    k_is
    refine ⟨x, C_Counted, dx, _, _, rfl, hx, Z.cl, Z.n_pairs, rfl, ?_⟩
    k_is
    refine ⟨p, dp, _, rfl, hp, rfl, ?_⟩
    k_is
    refine ⟨x, C_Counted, dx, _, _, rfl, hx, Z.cl, Z.n_pairs, rfl, ?_⟩
    k_is
    refine ⟨p, dp, _, rfl, hp, rfl, ?_⟩
    k_is
    refine ⟨p, Bm ds, k, bgC ds k, rfl, hP, hT, z1, fun H1 s1 => ?_⟩
    k_is
    refine ⟨p, Bm ds, bgC ds k, rfl, hP.sm s1, z2, fun j H2 _ hj s2 => ?_⟩
    obtain ⟨_, _, _, _, _, _, _, _, hst⟩ := xG hD hk
    obtain rfl := hst j (hj z3)
    exact q H2 (s1.then s2)
def Sz (K:PySem.W.Frag)(CB CC CP CD:Addr):Sp:=fun vs H Q _=>∃ (x:Addr) (ds:List Nat),vs=[.ref x]/\Bc K CB CC CP CD H x ds/\Q (.int (ds.length:Nat)) H
theorem Q3 {f:Addr}{fd:FuncData}(F:Fun K "many_knots" "Counted.many_knots" Cd f fd)(T:Txt K mg a_ONES_OF_FOUR a_SIGNS_OF_FOUR)(Z:Qa K C_Counted):Ax P w K mg base CX0 1 f fd ["self"] (Sz K C_Bits C_Counts C_Pairs C_Counted):=by
 refine F.ok Ki (fun vs H Q E h=>?_) (fun cdv A outer s H vs Q E hr h=>?_)
 ·obtain ⟨x,l,rfl,_⟩:=h
  rfl
 ·obtain ⟨x,ds,rfl,⟨dx,p,m,hx,_⟩,q⟩:=h
  refine ⟨_,(Ae (Am (A0 (pv 0) rfl))),?_⟩
  k_is
  exact ⟨x,C_Counted,dx,_,_,rfl,hx,Z.cl,Z.n_knots,rfl,q⟩
def wt (ds:List Nat)(k:Nat):List Int:=((way ds k).map fun x=>List.replicate (Kg ds k x) x).flatten
theorem fO (ds:List Nat):wt ds 0=List.replicate (Ay ds ds.length (-1)).length (-1):=by
 show (List.replicate (Kg ds 0 (-1)) (-1:Int))++[]=_
 rw [List.append_nil,iT]
theorem gH {ds:List Nat}(h:Dok ds){k:Nat}(hk:k<ds.length):∃ B:List Int,wt ds k=B++[eld ds k]/\wt ds (k+1)=B++List.replicate (Ay ds ds.length k).length (k:Int):=by
 have ea:=Ie h hk
 have ew:way ds (k+1)=(way ds k).take (dAt ds k)++[eld ds k]++[(k:Int)]:=by
  show (way ds k).take (dAt ds k+1)++[(k:Int)]=_
  rw [List.take_add_one,ea]
  rfl
 have ew0:way ds k=(way ds k).take (dAt ds k)++[eld ds k]++(way ds k).drop (dAt ds k+1):=by
  have:=(List.take_append_drop (dAt ds k+1) (way ds k)).symm
  rw [List.take_add_one,ea] at this
  exact this
 have em:((way ds k).take (dAt ds k)).map (fun x=>List.replicate (Kg ds (k+1) x) x)=((way ds k).take (dAt ds k)).map (fun x=>List.replicate (Kg ds k x) x):=List.map_congr_left fun x hx=>by
  obtain ⟨i,hi⟩:=List.mem_iff_getElem?.mp hx
  have hil:i<dAt ds k:=by
   have:=(List.getElem?_eq_some_iff.mp hi).1
   rw [List.length_take] at this
   omega
  rw [List.getElem?_take_of_lt hil] at hi
  have:=R8 h k i (dAt ds k) _ _ (by omega) hil hi ea
  rw [Ur hk x,if_neg (by omega)]
  rfl
 have ed:(((way ds k).drop (dAt ds k+1)).map (fun x=>List.replicate (Kg ds k x) x)).flatten=[]:=by
  rw [List.flatten_eq_nil_iff]
  intro l hl
  obtain ⟨x,hx,rfl⟩:=List.mem_map.mp hl
  obtain ⟨i,hi⟩:=List.mem_iff_getElem?.mp hx
  rw [List.getElem?_drop] at hi
  rw [kW h hk hi (by omega)]
  rfl
 have hs:=Ur hk (eld ds k)
 rw [if_pos rfl] at hs
 refine ⟨(((way ds k).take (dAt ds k)).map (fun x=>List.replicate (Kg ds k x) x)).flatten++List.replicate (Kg ds (k+1) (eld ds k)) (eld ds k),?_,?_⟩
 ·unfold wt
  rw [ew0,List.map_append,List.map_append,List.flatten_append,List.flatten_append,ed,List.append_nil,List.append_assoc]
  rw [<- ew0]
  congr 1
  show List.replicate (Kg ds k (eld ds k)) (eld ds k)++[]=_
  rw [List.append_nil,hs,List.replicate_succ']
 ·unfold wt
  rw [ew,List.map_append,List.map_append,List.flatten_append,List.flatten_append,em]
  congr 1
  ·congr 1
   show _++[]=_
   rw [List.append_nil]
  ·show List.replicate (Kg ds (k+1) k) (k:Int)++[]=_
   rw [List.append_nil,gZ h]
theorem lP {ds:List Nat}(h:Dok ds):∀ k,k<=ds.length->(wt ds k).length+k=((gsC ds).take (k+1)).sum
 | 0,_=>by
  rw [fO,List.length_replicate]
  unfold gsC
  simp
 | k+1,hk=>by
  obtain ⟨B,e1,e2⟩:=gH h (show k<ds.length by omega)
  have ih:=lP h k (by omega)
  rw [e1,List.length_append] at ih
  rw [e2,List.length_append,List.length_replicate,List.take_add_one,dL (show k<ds.length by omega),List.sum_append]
  simp at ih ⊢
  omega
theorem Z0 (ns:List Nat)(k:Nat):(ns.take k).sum<=ns.sum:=by
 have:=congrArg List.sum (List.take_append_drop k ns)
 rw [List.sum_append] at this
 omega
def Oo (K:PySem.W.Frag)(CB CC CP CD:Addr):Sp:=fun vs H Q _=>∃ (x:Addr) (ds:List Nat),vs=[.ref x]/\Bc K CB CC CP CD H x ds/\∀ p H',Al H H'->H p=none->H' p=some (.lst ((Az ds).map V.int))->Q (.ref p) H'
theorem Wt {f : Addr}{fd : FuncData}(F : Fun K "elders" "Counted.elders" Cv f fd)(T : Txt K mg a_ONES_OF_FOUR a_SIGNS_OF_FOUR)(Z : Qa K C_Counted)(Qo : Mth P w K mg base C_Counted "row" 8 ["self"] (U8 K C_Bits C_Counts C_Pairs C_Counted)) : Ax P w K mg base CX0 9 f fd ["self"] (Oo K C_Bits C_Counts C_Pairs C_Counted) := by
  refine F.ok Cg (fun vs H Q E h => ?_) (fun cdv A outer s H vs Q E hr h => ?_)
  · obtain ⟨x, l, rfl, _⟩ := h
    rfl
  · obtain ⟨x, ds, rfl, hC, q⟩ := h
    obtain ⟨dx, p, m, hx, hP, hD, hn⟩ := id hC
    refine ⟨_, (Ab (Ld (i := 1) rfl Lx Cg.nd rfl rfl (Eb (Eg PySem.F.plainAttrs_str PySem.F.slot_str_split PySem.F.type_str_split iB (Kj Qo (hr.mono (by decide : 8 <= _)) (pv 0)) (Af Fq Aa rfl))) (fun _ _ _ _ => Db) (fun _ _ _ _ => (Av Cz (by rfl) T.n_len Ef (Af (pv 0) Aa rfl))))
      (Ab (An (i := 2) Cg.nd rfl (Or.inl rfl) (By Aa))
      (Ab (An (i := 3) Cg.nd rfl (Or.inl rfl) (Aj Xa (By (Af (Gh Dy Ag) Aa rfl)) (Ck Ec (pv 1) Ag (fun _ _ => rfl))))
      (Ab (E4 PassesOwn.never rfl (Jb rfl T.n_range (Af (A0 (pv 0) rfl) Aa rfl)) (Bl (i := 4) Cg.nd rfl (Or.inl rfl))
      (Ab (Bi (Eg PySem.F.plainAttrs_list PySem.F.slot_list_append PySem.F.type_list_append Cb (pv 2) (Af (cF PySem.F.plainAttrs_list PySem.F.slot_list_pop PySem.F.type_list_pop dF (pv 3)) Aa rfl)))
      (Ae (Bi (Eg PySem.F.plainAttrs_list PySem.F.slot_list_extend PySem.F.type_list_extend iC (pv 3) (Af (Aj Xa (By (Af (pv 4) Aa rfl)) (Ck Ec (pv 1) (Aj Bd (pv 4) Ag) (fun _ _ => rfl))) Aa rfl))))))
      (Ae (Am (pv 2))))))), ?_⟩
    k_is
    refine ⟨x, dx, _, rfl, hx, rfl, ?_⟩
    k_is
    refine ⟨x, ds, rfl, hC, fun H1 s1 => ?_⟩
    have hs0 := Nd hD
    have hl0 := G2 ds
    have es : Txt.split (Au (grB (gsC ds))) ("0" : Str) = ((gsC ds).map fun n => (⟨(List.replicate n 49).toArray⟩ : Str)) ++ [⟨#[]⟩] := by
      rw [qT]
      exact Za (gsC ds)
    k_is
    refine ⟨rfl, ?_⟩
    refine ⟨_, _, rfl, rfl, rfl, ?_, fun D hD0 => ?_⟩
    · rw [A7, Hm]
      omega
    rw [es]
    have s2 := s1.trans (Ah (o := .lst ((((gsC ds).map fun n => (⟨(List.replicate n 49).toArray⟩ : Str)) ++ [(⟨#[]⟩ : Str)]).map V.str)) hD0)
    have hD1 : upd H1 D (.lst ((((gsC ds).map fun n => (⟨(List.replicate n 49).toArray⟩ : Str)) ++ [(⟨#[]⟩ : Str)]).map V.str)) D = some (.lst ((((gsC ds).map fun n => (⟨(List.replicate n 49).toArray⟩ : Str)) ++ [(⟨#[]⟩ : Str)]).map V.str)) := Ac
    generalize upd H1 D (.lst ((((gsC ds).map fun n => (⟨(List.replicate n 49).toArray⟩ : Str)) ++ [(⟨#[]⟩ : Str)]).map V.str)) = H2 at *
    have eg : (((gsC ds).map fun n => (⟨(List.replicate n 49).toArray⟩ : Str)) ++ [(⟨#[]⟩ : Str)]).map V.str = (gsC ds ++ [0]).map fun n => V.str ⟨(List.replicate n 49).toArray⟩ := by
      rw [List.map_append, List.map_append, List.map_map]
      rfl
    rw [eg] at hD1
    obtain ⟨gs, hgs⟩ : ∃ gs, gs = gsC ds ++ [0] := ⟨_, rfl⟩
    rw [<- hgs] at hD1
    have hgl : gs.length = ds.length + 2 := by rw [hgs, List.length_append, hl0]; rfl
    have hgsum : gs.sum = ds.length := by rw [hgs, List.sum_append, hs0]; rfl
    refine ⟨_, rfl, ⟨_, SqL.of hD1⟩, ?_⟩
    refine Lg (SqL.of hD1) (fun i => nV (gs.take i)) rfl (fun i hi => ?_) (fun i x H3 R A hx s3 _ hA => ?_) (fun D4 H4 hD4 s4 h4 => ?_)
    · rw [El, List.length_take]
      exact Ao (by omega)
    · rw [List.getElem?_map] at hx
      cases e : gs[i]? with
      | none => rw [e] at hx; cases hx
      | some n =>
        rw [e] at hx
        cases hx
        have hns := Rk e
        k_is
        have hl : (⟨(List.replicate n 49).toArray⟩ : Str).length = n := by simp [Str.length]
        refine ⟨_, rfl, by rw [hl]; exact Nat.le_of_lt (Ao (by omega)), ?_⟩
        rw [hl]
        refine hA _ _ ?_ (Al.refl _)
        rw [List.take_add_one, e]
        unfold nV
        rw [List.map_append]
        rfl
    rw [List.length_map, List.take_of_length_le (Nat.le_refl _)] at h4
    have s24 := s2.trans s4
    k_is
    refine ⟨Nat.zero_le _, fun el hel => ?_⟩
    have t1 := Ah (o := .lst []) hel
    have nDe : D4 ≠ el := Ar h4 hel
    have he1 : upd H4 el (.lst []) el = some (.lst []) := Ac
    have h41 := t1 _ _ h4
    have s14 := s24.trans t1
    have nel : H el = none := s24.free hel
    generalize upd H4 el (.lst []) = H5 at *
    k_is
    refine ⟨few (by simp), fun w0 hw0 => ?_⟩
    have t2 := Ah (o := .lst [V.int (-1)]) hw0
    have hw1 : upd H5 w0 (.lst [V.int (-1)]) w0 = some (.lst [V.int (-1)]) := Ac
    have h42 := t2 _ _ h41
    have he2 := t2 _ _ he1
    have s15 := s14.trans t2
    generalize upd H5 w0 (.lst [V.int (-1)]) = H6 at *
    k_is
    refine Gs (SqL.of h42) (v := .int ((Ay ds ds.length (-1)).length : Nat)) (B7 (by rw [hgs]; rfl)) ?_
    have hk0 := fZ ds ds.length (-1)
    refine ⟨w0, ((Ay ds ds.length (-1)).length : Nat), _, rfl, rfl, hw1, by omega, by omega, Nat.le_of_lt (Ao (by simp; omega)), fun wa hwa => ?_⟩
    have t3 := Ah (o := .lst (List.replicate (((Ay ds ds.length (-1)).length : Nat) : Int).toNat [V.int (-1)]).flatten) hwa
    have hW : (upd H6 wa (.lst (List.replicate (((Ay ds ds.length (-1)).length : Nat) : Int).toNat [V.int (-1)]).flatten)) wa = some (.lst ((wt ds 0).map V.int)) := by
      rw [Ac, Int.toNat_natCast, fO, List.map_replicate, List.flatten_replicate_singleton]
    have h43 := t3 _ _ h42
    have he3 := t3 _ _ he2
    have s16 := s15.trans t3
    have nwa : H wa = none := s15.free hwa
    have newa : el ≠ wa := Ar he2 hwa
    have nDw : D4 ≠ wa := Ar h42 hwa
    generalize upd H6 wa (.lst (List.replicate (((Ay ds ds.length (-1)).length : Nat) : Int).toNat [V.int (-1)]).flatten) = H7 at *
    k_is
    refine ⟨x, C_Counted, dx, _, _, rfl, s16 _ _ hx, Z.cl, Z.n_knots, rfl, ?_⟩
    k_is
    refine ⟨_, rfl, by omega, by omega, ?_⟩
    rw [Int.toNat_natCast]
    refine Lo (fun k σ H8 => (∃ v4 : Option V, σ = [some (.ref x), some (.ref D4), some (.ref el), some (.ref wa), v4])/\H8 el = some (.lst (((Az ds).take k).map V.int))/\H8 wa = some (.lst ((wt ds k).map V.int))/\H8 D4 = some (.lst (nV gs))/\Al H H8) ⟨⟨_, rfl⟩, he3, hW, h43, s16⟩ ?_ ?_
    · rintro k σ H8 hk ⟨⟨v4, rfl⟩, hel8, hwa8, hg8, s8⟩
      obtain ⟨B, e1, e2⟩ := gH hD hk
      have hlen := lP hD k (by omega)
      have hts := Z0 (gsC ds) (k + 1)
      k_is
      refine ⟨.inl ⟨rfl, _, SqL.of hel8⟩, ?_⟩
      k_is
      refine ⟨.inl ⟨rfl, _, SqL.of hwa8⟩, ?_⟩
      refine ⟨wa, _, .int (eld ds k), rfl, rfl, hwa8, ?_, ?_⟩
      · rw [e1, List.map_append, List.length_append, List.length_map, List.getElem?_append_right (by simp)]
        simp
      k_is
      have hdl : ((wt ds k).map V.int).dropLast = B.map V.int := by
        rw [e1, List.map_append]
        exact List.dropLast_concat
      rw [hdl]
      refine De (by rw [Ap newa]; exact hel8) ?_ ?_
      · rw [List.length_map, List.length_take, Bu]
        exact Ao (by omega)
      have hel9 : upd (upd H8 wa (.lst (B.map V.int))) el (.lst (((Az ds).take k).map V.int ++ [V.int (eld ds k)])) el = some (.lst (((Az ds).take (k + 1)).map V.int)) := by
        rw [Ac, List.take_add_one, J3 hk, List.map_append]
        rfl
      have hwa9 : upd (upd H8 wa (.lst (B.map V.int))) el (.lst (((Az ds).take k).map V.int ++ [V.int (eld ds k)])) wa = some (.lst (B.map V.int)) := by rw [Ap newa.symm, Ac]
      have hg9 : upd (upd H8 wa (.lst (B.map V.int))) el (.lst (((Az ds).take k).map V.int ++ [V.int (eld ds k)])) D4 = some (.lst (nV gs)) := by rw [Ap nDe, Ap nDw]; exact hg8
      have s9 : Al H (upd (upd H8 wa (.lst (B.map V.int))) el (.lst (((Az ds).take k).map V.int ++ [V.int (eld ds k)]))) := Cr (Cr s8 nwa) nel
      generalize upd (upd H8 wa (.lst (B.map V.int))) el (.lst (((Az ds).take k).map V.int ++ [V.int (eld ds k)])) = H9 at *
      have hBl : B.length <= ds.length := by rw [e1, List.length_append] at hlen; omega
      k_is
      refine ⟨.inl ⟨rfl, _, SqL.of hwa9⟩, ?_⟩
      k_is
      refine ⟨few (by simp), fun c0 hc0 => ?_⟩
      have t4 := Ah (o := .lst [V.int (0 + (k : Int))]) hc0
      have hc1 : upd H9 c0 (.lst [V.int (0 + (k : Int))]) c0 = some (.lst [V.int (0 + (k : Int))]) := Ac
      have hel10 := t4 _ _ hel9
      have hwa10 := t4 _ _ hwa9
      have hg10 := t4 _ _ hg9
      have s10 := s9.trans t4
      generalize upd H9 c0 (.lst [V.int (0 + (k : Int))]) = H10 at *
      k_is
      have hkk := fZ ds ds.length (k : Int)
      refine Gs (SqL.of hg10) (v := .int ((Ay ds ds.length k).length : Nat)) ?_ ?_
      · rw [show (0 + (k : Int) + 1) = ((k + 1 : Nat) : Int) by omega]
        refine B7 ?_
        rw [hgs]
        unfold nV
        rw [List.getElem?_map, List.getElem?_append_left (by omega), dL hk]
        rfl
      k_is
      refine ⟨c0, ((Ay ds ds.length k).length : Nat), _, rfl, rfl, hc1, by omega, by omega, Nat.le_of_lt (Ao (by simp; omega)), fun c2 hc2 => ?_⟩
      have t5 := Ah (o := .lst (List.replicate (((Ay ds ds.length k).length : Nat) : Int).toNat [V.int (0 + (k : Int))]).flatten) hc2
      have hc3 : upd H10 c2 (.lst (List.replicate (((Ay ds ds.length k).length : Nat) : Int).toNat [V.int (0 + (k : Int))]).flatten) c2 = some (.lst ((List.replicate (Ay ds ds.length k).length (k : Int)).map V.int)) := by
        rw [Ac, Int.toNat_natCast, List.flatten_replicate_singleton, List.map_replicate, Int.zero_add]
      have hel11 := t5 _ _ hel10
      have hwa11 := t5 _ _ hwa10
      have hg11 := t5 _ _ hg10
      have s11 := s10.trans t5
      generalize upd H10 c2 (.lst (List.replicate (((Ay ds ds.length k).length : Nat) : Int).toNat [V.int (0 + (k : Int))]).flatten) = H11 at *
      refine ⟨wa, c2, _, _, rfl, rfl, hwa11, hc3, ?_, ?_⟩
      · rw [List.length_map, List.length_map, List.length_replicate]
        exact Nat.le_of_lt (Ao (by omega))
      k_is
      refine ⟨⟨_, rfl⟩, ?_, ?_, ?_, Cr s11 nwa⟩
      · rw [Ap newa]
        exact hel11
      · rw [Ac, e2, List.map_append]
      · rw [Ap nDw]
        exact hg11
    · rintro σ H8 ⟨⟨v4, rfl⟩, hel8, hwa8, hg8, s8⟩
      k_is
      refine q el H8 s8 nel ?_
      rw [hel8, List.take_of_length_le (by rw [Bu]; exact Nat.le_refl _)]
def aT (e:Int):V:=if e<0 then .non else .int e
def P1 (K:PySem.W.Frag)(CB CC CP CD:Addr)(ts:List Tb):Sp:=fun vs H Q _=>∃ (x:Addr) (ds:List Nat) (k:Nat),vs=[.ref x,.int k]/\Bc K CB CC CP CD H x ds/\Tbs ts H/\k<ds.length/\∀ H',SmT ts H H'->Q (aT (eld ds k)) H'
theorem Wz {f : Addr}{fd : FuncData}{ts : List Tb}(F : Fun K "elder" "Counted.elder" Ew f fd)(T : Txt K mg a_ONES_OF_FOUR a_SIGNS_OF_FOUR)(Z : Qa K C_Counted)(Qm : Mth P w K mg base C_Pairs "closes_ahead" 5 ["self", "place"] (Nj K C_Counts C_Pairs))(Ql : Mth P w K mg base C_Counted "stem" 11 ["self", "k"] (Rw K C_Bits C_Counts C_Pairs C_Counted ts)) : Ax P w K mg base CX0 12 f fd ["self", "k"] (P1 K C_Bits C_Counts C_Pairs C_Counted ts) := by
  refine F.ok Jd (fun vs H Q E h => ?_) (fun cdv A outer s H vs Q E hr h => ?_)
  · obtain ⟨x, ds, k, rfl, _⟩ := h
    rfl
  · obtain ⟨x, ds, k, rfl, hC, hT, hk, q⟩ := h
    obtain ⟨dx, p, m, hx, hP, hD, hn⟩ := id hC
    obtain ⟨mm, xx, e1, e2, e3, e4, e5, e6, _⟩ := K3 hD hk
    obtain ⟨so1, so2⟩ := Kt hD hk
    obtain ⟨dp, b, c, tt, o, hp, _⟩ := id hP
    refine ⟨_, (Ab (An (i := 2) Jd.nd rfl (Or.inl rfl) (A4 Qm (hr.mono (by decide : 5 <= _)) (A0 (pv 0) rfl) (Af (A4 Ql (hr.mono (by decide : 11 <= _)) (pv 0) (Af (pv 1) Aa rfl)) Aa rfl)))
      (Ae (Am (B2 (As Ir (pv 2) Ag (Aw _)) (Aj Bn (pv 2) Ag) E6)))), ?_⟩
    k_is
    refine ⟨x, C_Counted, dx, _, _, rfl, hx, Z.cl, Z.n_pairs, rfl, ?_⟩
    k_is
    refine ⟨p, dp, _, rfl, hp, rfl, ?_⟩
    k_is
    refine ⟨x, dx, _, rfl, hx, rfl, ?_⟩
    k_is
    refine ⟨x, ds, k, rfl, hC, hT, hk, fun H1 s1 => ?_⟩
    have hP1 := hP.sm s1
    obtain ⟨dp1, b1, c1, t1, o1, hp1, _, hC1, _⟩ := id hP1
    k_is
    refine ⟨p, dp1, c1, _, Bm ds, stm ds k, rfl, hp1, rfl, hC1, by omega, fun H2 s2 => ?_⟩
    rw [show (occ false (Bm ds) (stm ds k)).length = grp ds k by rw [e5, Jq]; exact dM e1 (by omega)]
    have q := q H2 (s1.then s2)
    have hge := E2 hD hk
    k_is
    refine B6 (fun h1 => ?_) (fun h1 => ?_)
    · k_is
      unfold aT at q
      unfold grp at h1 ⊢
      rw [if_neg (by omega)] at q
      rw [show (((eld ds k + 1).toNat : Nat) : Int) - 1 = eld ds k by omega]
      exact q
    · k_is
      unfold aT at q
      unfold grp at h1
      rw [if_pos (by omega)] at q
      exact q
def K9 (K:PySem.W.Frag)(CB CC CP CD:Addr):Sp:=fun vs H Q _=>∃ (x:Addr) (ds:List Nat) (k:Nat),vs=[.ref x,.int (stm ds k:Nat)]/\Bc K CB CC CP CD H x ds/\k<ds.length/\∀ H',Al H H'->Q (.int k) H'
theorem Wl {f:Addr}{fd:FuncData}(F:Fun K "knot_of" "Counted.knot_of" Dp f fd)(T:Txt K mg a_ONES_OF_FOUR a_SIGNS_OF_FOUR)(Z:Qa K C_Counted)(Qm:Mth P w K mg base C_Pairs "closes_ahead" 5 ["self","place"] (Nj K C_Counts C_Pairs))(Qt:Mth P w K mg base C_Pairs "partner" 10 ["self","place"] (Ln K C_Bits C_Counts C_Pairs)):Ax P w K mg base CX0 11 f fd ["self","stem"] (K9 K C_Bits C_Counts C_Pairs C_Counted):=by
 refine F.ok Mf (fun vs H Q E h=>?_) (fun cdv A outer s H vs Q E hr h=>?_)
 ·obtain ⟨x,ds,k,rfl,_⟩:=h
  rfl
 ·obtain ⟨x,ds,k,rfl,hC,hk,q⟩:=h
  obtain ⟨dx,p,m,hx,hP,hD,hn⟩:=id hC
  obtain ⟨so1,so2⟩:=Kt hD hk
  obtain ⟨z1,z2,z3⟩:=Ea hD (show k<=ds.length by omega)
  obtain ⟨dp,b,c,tt,o,hp,_⟩:=id hP
  refine ⟨_,(Ae (Am (A4 Qm (hr.mono (by decide:5<=_)) (A0 (pv 0) rfl) (Af (A4 Qt (hr.mono (by decide:10<=_)) (A0 (pv 0) rfl) (Af (pv 1) Aa rfl)) Aa rfl)))),?_⟩
  k_is
  refine ⟨x,C_Counted,dx,_,_,rfl,hx,Z.cl,Z.n_pairs,rfl,?_⟩
  k_is
  refine ⟨p,dp,_,rfl,hp,rfl,?_⟩
  k_is
  refine ⟨x,C_Counted,dx,_,_,rfl,hx,Z.cl,Z.n_pairs,rfl,?_⟩
  k_is
  refine ⟨p,dp,_,rfl,hp,rfl,?_⟩
  k_is
  refine ⟨p,Bm ds,stm ds k,rfl,hP,so2,fun j H1 hj _ s1=>?_⟩
  obtain rfl:=wZ hD hk (hj so1)
  have hP1:=hP.same s1
  obtain ⟨dp1,b1,c1,t1,o1,hp1,_,hC1,_⟩:=id hP1
  k_is
  refine ⟨p,dp1,c1,_,Bm ds,bgC ds k,rfl,hp1,rfl,hC1,by omega,fun H2 s2=>?_⟩
  have hm:(msC ds)[k]?=some ((msC ds)[k]'(by rw [F4];omega)):=List.getElem?_eq_getElem _
  have hb:=J7 hm
  rw [Gq hD (by omega)] at hb
  rw [show (occ false (Bm ds) (bgC ds k)).length=k by
   rw [Jq,show bgC ds k=gB (msC ds) k+(msC ds)[k]'(by rw [F4];omega) by omega]
   exact dM hm (Nat.le_refl _)]
  exact q H2 (s1.trans s2)
theorem iR {ds:List Nat}(h:Dok ds){k j:Nat}(hk:k<ds.length)(e:Bt ds k=some j):stm ds k-1=stm ds j/\0<stm ds j/\j<ds.length:=by
 obtain ⟨h1,h2,h3⟩:=E7 e
 obtain ⟨h4,h5⟩:=gT h hk e
 obtain ⟨m,x,a1,a2,a3,a4,a5,a6,_⟩:=K3 h hk
 obtain ⟨m',x',b1,b2,b3,b4,b5,b6,_⟩:=K3 h h2
 have hg:grp ds j=grp ds k:=by unfold grp;rw [h3]
 rw [hg,a1] at b1
 obtain rfl:=Option.some.inj b1
 have hi:idx ds j=idx ds k+1:=h4
 rw [hg] at b5
 refine ⟨by omega,?_,h2⟩
 by_cases g0:grp ds k=0
 ·rw [g0,R1] at a1
  have:=Option.some.inj a1
  have he:eld ds k=-1:=by have:=E2 h hk;unfold grp at g0;omega
  rw [he] at h5
  have h6:idx ds k=(Ay ds k (-1)).length:=by unfold idx;rw [he]
  omega
 ·have:0<gB (msC ds) (grp ds k):=by unfold gB;omega
  omega
theorem mN {ds:List Nat}(h:Dok ds){k:Nat}(hk:k<ds.length)(e:Bt ds k=none):stm ds k=1\/(1<stm ds k/\(Bm ds).getD (stm ds k-1) false=false):=by
 have h1:=dX h hk e
 obtain ⟨m,x,a1,a2,a3,a4,a5,a6,_⟩:=K3 h hk
 have h2:idx ds k+1=(Ay ds ds.length (eld ds k)).length:=by rw [h1,List.length_append];rfl
 by_cases g0:grp ds k=0
 ·left
  rw [g0,R1] at a1
  have:=Option.some.inj a1
  have he:eld ds k=-1:=by have:=E2 h hk;unfold grp at g0;omega
  rw [he] at h2
  rw [g0] at a5
  have:gB (msC ds) 0=0:=rfl
  omega
 ·right
  obtain ⟨g,hg⟩:∃ g,grp ds k=g+1:=⟨grp ds k-1,by omega⟩
  have he:eld ds k=(g:Int):=by have:=E2 h hk;unfold grp at hg;omega
  rw [hg,Ng (by omega)] at a1
  have:=Option.some.inj a1
  rw [he] at h2
  have hb:=Gq h (show g<=ds.length by omega)
  rw [hg] at a5
  obtain ⟨z1,z2,z3⟩:=Ea h (show g<=ds.length by omega)
  have h0:0<bgC ds g:=by unfold bgC;omega
  rw [show stm ds k-1=bgC ds g by omega]
  exact ⟨by omega,z3⟩
def Nc (K:PySem.W.Frag)(CB CC CP CD:Addr)(ts:List Tb):Sp:=fun vs H Q _=>∃ (x:Addr) (ds:List Nat) (k:Nat),vs=[.ref x,.int k]/\Bc K CB CC CP CD H x ds/\Tbs ts H/\k<ds.length/\∀ H',SmT ts H H'->Q (Gn (Bt ds k)) H'
theorem W0 {f : Addr}{fd : FuncData}{ts : List Tb}(F : Fun K "right" "Counted.right" Eu f fd)(T : Txt K mg a_ONES_OF_FOUR a_SIGNS_OF_FOUR)(Z : Qa K C_Counted)(Ql : Mth P w K mg base C_Counted "stem" 11 ["self", "k"] (Rw K C_Bits C_Counts C_Pairs C_Counted ts))(Qi : Mth P w K mg base C_Counted "knot_of" 11 ["self", "stem"] (K9 K C_Bits C_Counts C_Pairs C_Counted))(Qg : Mth P w K mg base C_Pairs "is_opening" 5 ["self", "place"] (K5 K C_Bits C_Counts C_Pairs)) : Ax P w K mg base CX0 12 f fd ["self", "k"] (Nc K C_Bits C_Counts C_Pairs C_Counted ts) := by
  refine F.ok Ji (fun vs H Q E h => ?_) (fun cdv A outer s H vs Q E hr h => ?_)
  · obtain ⟨x, ds, k, rfl, _⟩ := h
    rfl
  · obtain ⟨x, ds, k, rfl, hC, hT, hk, q⟩ := h
    obtain ⟨dx, p, m, hx, hP, hD, hn⟩ := id hC
    obtain ⟨so1, so2⟩ := Kt hD hk
    refine ⟨_, (Ab (An (i := 2) Ji.nd rfl (Or.inl rfl) (Aj Bn (A4 Ql (hr.mono (by decide : 11 <= _)) (pv 0) (Af (pv 1) Aa rfl)) Ag))
      (Ae (Am (B2 (PW.pt (N6 (As Ir (pv 2) Ag (Aw _)) (Lm (Dl (A4 Qg (hr.mono (by decide : 5 <= _)) (A0 (pv 0) rfl) (Af (pv 2) Aa rfl)))))) (A4 Qi (hr.mono (by decide : 11 <= _)) (pv 0) (Af (pv 2) Aa rfl)) E6)))), ?_⟩
    k_is
    refine ⟨x, dx, _, rfl, hx, rfl, ?_⟩
    k_is
    refine ⟨x, ds, k, rfl, hC, hT, hk, fun H1 s1 => ?_⟩
    have hx1 := s1.k hx
    have hC1 := hC.sm s1
    have hP1 := hP.sm s1
    obtain ⟨dp1, b1, c1, t1, o1, hp1, _⟩ := id hP1
    cases hr2 : Bt ds k with
    | some j =>
      rw [hr2] at q
      obtain ⟨r1, r2, r3⟩ := iR hD hk hr2
      obtain ⟨sj1, sj2⟩ := Kt hD r3
      k_is
      rw [show ((stm ds k : Nat) : Int) - 1 = ((stm ds j : Nat) : Int) by omega]
      refine B6 (fun _ => ?_) (fun h1 => absurd h1 (by omega))
      k_is
      refine ⟨x, C_Counted, dx, _, _, rfl, hx1, Z.cl, Z.n_pairs, rfl, ?_⟩
      k_is
      refine ⟨p, dp1, _, rfl, hp1, rfl, ?_⟩
      k_is
      refine ⟨p, Bm ds, stm ds j, rfl, hP1, sj2, ?_⟩
      rw [sj1]
      k_is
      refine ⟨x, dx, _, rfl, hx1, rfl, ?_⟩
      k_is
      exact ⟨x, ds, j, rfl, hC1, r3, fun H2 s2 => q H2 (s1.then s2)⟩
    | none =>
      rw [hr2] at q
      k_is
      rcases mN hD hk hr2 with e | ⟨e1, e2⟩
      · rw [e]
        k_is
        exact q H1 s1
      · rw [show ((stm ds k : Nat) : Int) - 1 = ((stm ds k - 1 : Nat) : Int) by omega]
        refine B6 (fun _ => ?_) (fun h1 => absurd h1 (by omega))
        k_is
        refine ⟨x, C_Counted, dx, _, _, rfl, hx1, Z.cl, Z.n_pairs, rfl, ?_⟩
        k_is
        refine ⟨p, dp1, _, rfl, hp1, rfl, ?_⟩
        k_is
        refine ⟨p, Bm ds, stm ds k - 1, rfl, hP1, by omega, ?_⟩
        rw [e2]
        k_is
        exact q H1 s1
theorem lI {ds:List Nat}(h:Dok ds){k j:Nat}(hk:k<ds.length)(e:(Ay ds k (eld ds k)).getLast?=some j):stm ds k+1=stm ds j/\j<ds.length:=by
 obtain ⟨h1,h2,h3,h4⟩:=jF h hk e
 have hj:j<ds.length:=by omega
 obtain ⟨m,x,a1,a2,a3,a4,a5,a6,_⟩:=K3 h hk
 obtain ⟨m',x',b1,b2,b3,b4,b5,b6,_⟩:=K3 h hj
 have hg:grp ds j=grp ds k:=by unfold grp;rw [h2]
 rw [hg,a1] at b1
 obtain rfl:=Option.some.inj b1
 have hi:idx ds j+1=idx ds k:=h4
 rw [hg] at b5
 exact ⟨by omega,hj⟩
theorem hX {ds:List Nat}(h:Dok ds){k:Nat}(hk:k<ds.length)(e:(Ay ds k (eld ds k)).getLast?=none):(Bm ds).getD (stm ds k+1) false=false/\stm ds k+1<(Bm ds).length:=by
 have h1:idx ds k=0:=by unfold idx;rw [List.getLast?_eq_none_iff.mp e];rfl
 obtain ⟨m,x,a1,a2,a3,a4,a5,a6,_⟩:=K3 h hk
 obtain ⟨z1,z2,z3⟩:=Ea h (show grp ds k<=ds.length by omega)
 rw [show stm ds k+1=bgC ds (grp ds k) by omega]
 exact ⟨z3,z2⟩
def Xd (K:PySem.W.Frag)(CB CC CP CD:Addr)(ts:List Tb):Sp:=fun vs H Q _=>∃ (x:Addr) (ds:List Nat) (k:Nat),vs=[.ref x,.int k]/\Bc K CB CC CP CD H x ds/\Tbs ts H/\k<ds.length/\∀ H',SmT ts H H'->Q (Gn (Ay ds k (eld ds k)).getLast?) H'
theorem W9 {f : Addr}{fd : FuncData}{ts : List Tb}(F : Fun K "left" "Counted.left" Fs f fd)(T : Txt K mg a_ONES_OF_FOUR a_SIGNS_OF_FOUR)(Z : Qa K C_Counted)(Ql : Mth P w K mg base C_Counted "stem" 11 ["self", "k"] (Rw K C_Bits C_Counts C_Pairs C_Counted ts))(Qi : Mth P w K mg base C_Counted "knot_of" 11 ["self", "stem"] (K9 K C_Bits C_Counts C_Pairs C_Counted))(Qg : Mth P w K mg base C_Pairs "is_opening" 5 ["self", "place"] (K5 K C_Bits C_Counts C_Pairs)) : Ax P w K mg base CX0 12 f fd ["self", "k"] (Xd K C_Bits C_Counts C_Pairs C_Counted ts) := by
  refine F.ok Ke (fun vs H Q E h => ?_) (fun cdv A outer s H vs Q E hr h => ?_)
  · obtain ⟨x, ds, k, rfl, _⟩ := h
    rfl
  · obtain ⟨x, ds, k, rfl, hC, hT, hk, q⟩ := h
    obtain ⟨dx, p, m, hx, hP, hD, hn⟩ := id hC
    refine ⟨_, (Ab (An (i := 2) Ke.nd rfl (Or.inl rfl) (Aj Bd (A4 Ql (hr.mono (by decide : 11 <= _)) (pv 0) (Af (pv 1) Aa rfl)) Ag))
      (Ae (Am (B2 (Dl (A4 Qg (hr.mono (by decide : 5 <= _)) (A0 (pv 0) rfl) (Af (pv 2) Aa rfl))) (A4 Qi (hr.mono (by decide : 11 <= _)) (pv 0) (Af (pv 2) Aa rfl)) E6)))), ?_⟩
    k_is
    refine ⟨x, dx, _, rfl, hx, rfl, ?_⟩
    k_is
    refine ⟨x, ds, k, rfl, hC, hT, hk, fun H1 s1 => ?_⟩
    have hx1 := s1.k hx
    have hC1 := hC.sm s1
    have hP1 := hP.sm s1
    obtain ⟨dp1, b1, c1, t1, o1, hp1, _⟩ := id hP1
    k_is
    refine ⟨x, C_Counted, dx, _, _, rfl, hx1, Z.cl, Z.n_pairs, rfl, ?_⟩
    k_is
    refine ⟨p, dp1, _, rfl, hp1, rfl, ?_⟩
    k_is
    cases hl : (Ay ds k (eld ds k)).getLast? with
    | some j =>
      rw [hl] at q
      obtain ⟨r1, r3⟩ := lI hD hk hl
      obtain ⟨sj1, sj2⟩ := Kt hD r3
      rw [show ((stm ds k : Nat) : Int) + 1 = ((stm ds j : Nat) : Int) by omega]
      refine ⟨p, Bm ds, stm ds j, rfl, hP1, sj2, ?_⟩
      rw [sj1]
      k_is
      refine ⟨x, dx, _, rfl, hx1, rfl, ?_⟩
      k_is
      exact ⟨x, ds, j, rfl, hC1, r3, fun H2 s2 => q H2 (s1.then s2)⟩
    | none =>
      rw [hl] at q
      obtain ⟨e1, e2⟩ := hX hD hk hl
      rw [show ((stm ds k : Nat) : Int) + 1 = ((stm ds k + 1 : Nat) : Int) by omega]
      refine ⟨p, Bm ds, stm ds k + 1, rfl, hP1, e2, ?_⟩
      rw [e1]
      k_is
      exact q H1 s1
def Vx (K:PySem.W.Frag)(CB CC CP CD:Addr)(ts:List Tb):Sp:=fun vs H Q _=>∃ (x:Addr) (ds:List Nat) (k:Nat),vs=[.ref x,.int k]/\Bc K CB CC CP CD H x ds/\Tbs ts H/\k<ds.length/\∀ H',SmT ts H H'->Q (.int ((Ay ds ds.length k).length:Nat)) H'
theorem Yb {f : Addr}{fd : FuncData}{ts : List Tb}(F : Fun K "many" "Counted.many" Fh f fd)(T : Txt K mg a_ONES_OF_FOUR a_SIGNS_OF_FOUR)(Z : Qa K C_Counted)(c_check_knot : Cal P w K mg base "check_knot" 3 ["k", "many_knots"] Mt)(Qe : Mth P w K mg base C_Pairs "closing" 6 ["self", "number"] (G7 K C_Bits C_Counts C_Pairs ts)) : Ax P w K mg base CX0 7 f fd ["self", "k"] (Vx K C_Bits C_Counts C_Pairs C_Counted ts) := by
  refine F.ok Pm (fun vs H Q E h => ?_) (fun cdv A outer s H vs Q E hr h => ?_)
  · obtain ⟨x, ds, k, rfl, _⟩ := h
    rfl
  · obtain ⟨x, ds, k, rfl, hC, hT, hk, q⟩ := h
    obtain ⟨dx, p, m, hx, hP, hD, hn⟩ := id hC
    obtain ⟨z1, _⟩ := Ea hD (show k <= ds.length by omega)
    obtain ⟨y1, _⟩ := Ea hD (show k + 1 <= ds.length by omega)
    obtain ⟨dp, b, c, tt, o, hp, _⟩ := id hP
    refine ⟨_, (Ab (Bi (Bb c_check_knot (hr.mono (by decide : 3 <= _)) (Af (pv 1) (Af (A0 (pv 0) rfl) Aa rfl) rfl)))
      (Ae (Am (Aj Bn (Aj Bn (A4 Qe (hr.mono (by decide : 6 <= _)) (A0 (pv 0) rfl) (Af (Aj Bd (pv 1) Ag) Aa rfl)) (A4 Qe (hr.mono (by decide : 6 <= _)) (A0 (pv 0) rfl) (Af (pv 1) Aa rfl))) Ag)))), ?_⟩
    k_is
    refine ⟨x, C_Counted, dx, _, _, rfl, hx, Z.cl, Z.n_knots, rfl, ?_⟩
    k_is
    refine ⟨k, ds.length, rfl, by omega, by omega, ?_⟩
    k_is
    refine ⟨x, C_Counted, dx, _, _, rfl, hx, Z.cl, Z.n_pairs, rfl, ?_⟩
    k_is
    refine ⟨p, dp, _, rfl, hp, rfl, ?_⟩
    k_is
    refine ⟨p, Bm ds, k + 1, bgC ds (k + 1), by rw [show ((k + 1 : Nat) : Int) = (k : Int) + 1 by omega]; rfl, hP, hT, y1, fun H1 s1 => ?_⟩
    have hP1 := hP.sm s1
    obtain ⟨dp1, b1, c1, t1, o1, hp1, _⟩ := id hP1
    k_is
    refine ⟨x, C_Counted, dx, _, _, rfl, s1.k hx, Z.cl, Z.n_pairs, rfl, ?_⟩
    k_is
    refine ⟨p, dp1, _, rfl, hp1, rfl, ?_⟩
    k_is
    refine ⟨p, Bm ds, k, bgC ds k, rfl, hP1, s1.ok, z1, fun H2 s2 => ?_⟩
    k_is
    rw [show ((bgC ds (k + 1) : Nat) : Int) - ((bgC ds k : Nat) : Int) - 1 = (((Ay ds ds.length k).length : Nat) : Int) by unfold bgC; rw [Ow]; omega]
    exact q H2 (s1.trans s2)
theorem iN {ds:List Nat}(h:Dok ds){k:Nat}(hk:0<(Ay ds ds.length (k:Int)).length):k+1<ds.length/\eld ds (k+1)=k/\stm ds (k+1)+1=bgC ds (k+1):=by
 obtain ⟨j,hj⟩:=List.exists_mem_of_length_pos hk
 obtain ⟨j1,j2⟩:=Gi.mp hj
 obtain ⟨h1,h2⟩:=Ll h j1 (g:=k+1) (by rw [j2];omega)
 have hl:k+1<ds.length:=by omega
 have he:eld ds (k+1)=k:=by rw [h2,j2]
 refine ⟨hl,he,?_⟩
 have hi:idx ds (k+1)=0:=by
  unfold idx
  rw [he]
  have:=T3 h (k:=k+1) (v:=k) (by omega) (by omega)
  rw [this]
  rfl
 have hg:grp ds (k+1)=k+1:=by unfold grp;rw [he];omega
 obtain ⟨m,x,a1,a2,a3,a4,a5,a6,_⟩:=K3 h hl
 rw [hg] at a3 a5
 omega
def Ru (K:PySem.W.Frag)(CB CC CP CD:Addr)(ts:List Tb):Sp:=fun vs H Q _=>∃ (x:Addr) (ds:List Nat) (k:Nat),vs=[.ref x,.int k,.int 0]/\Bc K CB CC CP CD H x ds/\Tbs ts H/\0<(Ay ds ds.length (k:Int)).length/\∀ H',SmT ts H H'->Q (.int (k+1:Nat)) H'
theorem Wy {f:Addr}{fd:FuncData}{ts:List Tb}(F:Fun K "child" "Counted.child" Et f fd)(T:Txt K mg a_ONES_OF_FOUR a_SIGNS_OF_FOUR)(Z:Qa K C_Counted)(Qi:Mth P w K mg base C_Counted "knot_of" 11 ["self","stem"] (K9 K C_Bits C_Counts C_Pairs C_Counted))(Qe:Mth P w K mg base C_Pairs "closing" 6 ["self","number"] (G7 K C_Bits C_Counts C_Pairs ts)):Ax P w K mg base CX0 12 f fd ["self","k","i"] (Ru K C_Bits C_Counts C_Pairs C_Counted ts):=by
 refine F.ok Ot (fun vs H Q E h=>?_) (fun cdv A outer s H vs Q E hr h=>?_)
 ·obtain ⟨x,ds,k,rfl,_⟩:=h
  rfl
 ·obtain ⟨x,ds,k,rfl,hC,hT,h0,q⟩:=h
  obtain ⟨dx,p,m,hx,hP,hD,hn⟩:=id hC
  obtain ⟨k1,k2,k3⟩:=iN hD h0
  obtain ⟨y1,_⟩:=Ea hD (show k+1<=ds.length by omega)
  obtain ⟨dp,b,c,tt,o,hp,_⟩:=id hP
  refine ⟨_,(Ae (Am (A4 Qi (hr.mono (by decide:11<=_)) (pv 0) (Af (Aj Bn (Aj Bn (A4 Qe (hr.mono (by decide:6<=_)) (A0 (pv 0) rfl) (Af (Aj Bd (pv 1) Ag) Aa rfl)) Ag) (pv 2)) Aa rfl)))),?_⟩
  k_is
  refine ⟨x,dx,_,rfl,hx,rfl,?_⟩
  k_is
  refine ⟨x,C_Counted,dx,_,_,rfl,hx,Z.cl,Z.n_pairs,rfl,?_⟩
  k_is
  refine ⟨p,dp,_,rfl,hp,rfl,?_⟩
  k_is
  refine ⟨p,Bm ds,k+1,bgC ds (k+1),by rw [show ((k+1:Nat):Int)=(k:Int)+1 by omega];rfl,hP,hT,y1,fun H1 s1=>?_⟩
  k_is
  rw [show ((bgC ds (k+1):Nat):Int)-1-0=((stm ds (k+1):Nat):Int) by omega]
  exact ⟨x,ds,k+1,rfl,hC.sm s1,k1,fun H2 s2=>q H2 (s1.then s2)⟩
def N4:Sp:=fun vs H Q _=>∃ n:Int,vs=[.int n]/\0<=n/\Q .non H
theorem Ku {f : Addr}{fd : FuncData}(F : Fun K "check_from_nought" "check_from_nought" Cm f fd)(T : Txt K mg a_ONES_OF_FOUR a_SIGNS_OF_FOUR)(c_is_whole : Cal P w K mg base "is_whole" 1 ["thing"] Ij) : Ax P w K mg base CX0 2 f fd ["number"] N4 := by
  refine F.ok Ky (fun vs H Q E h => ?_) (fun cdv A outer s H vs Q E hr h => ?_)
  · obtain ⟨n, rfl, _⟩ := h
    rfl
  · obtain ⟨n, rfl, h0, q⟩ := h
    refine ⟨_, (Ae (B4 (PW.pt (O1 (Hd (Dl (Bb c_is_whole (hr.mono (by decide : 1 <= _)) (Af (pv 0) Aa rfl)))) (Oc (As L7 (pv 0) Ag (Aw _))))) (Ae Cw)
      A9)), ?_⟩
    k_is
    refine ⟨n, rfl, ?_⟩
    k_is
    rw [decide_eq_false (show ¬ n < 0 by omega)]
    k_is
    exact q
def bT (K:PySem.W.Frag)(CB CC CP CD:Addr)(ts:List Tb):Sp:=fun vs H Q _=>∃ (x:Addr) (ds:List Nat) (k:Nat),vs=[.ref x,.int k,.int 0]/\Bc K CB CC CP CD H x ds/\Tbs ts H/\k<ds.length/\∀ H',SmT ts H H'->Q (Gn (Lz ds k)) H'
theorem Yx {f : Addr}{fd : FuncData}{ts : List Tb}(F : Fun K "nth" "Wood.nth" Jk f fd)(T : Txt K mg a_ONES_OF_FOUR a_SIGNS_OF_FOUR)(Z : Qa K C_Counted)(Yk : Mth P w K mg base C_Counted "many" 7 ["self", "k"] (Vx K C_Bits C_Counts C_Pairs C_Counted ts))(c_check_from_nought : Cal P w K mg base "check_from_nought" 2 ["number"] N4)(W4 : Mth P w K mg base C_Counted "child" 12 ["self", "k", "i"] (Ru K C_Bits C_Counts C_Pairs C_Counted ts)) : Ax P w K mg base CX0 13 f fd ["self", "k", "i"] (bT K C_Bits C_Counts C_Pairs C_Counted ts) := by
  refine F.ok O3 (fun vs H Q E h => ?_) (fun cdv A outer s H vs Q E hr h => ?_)
  · obtain ⟨x, ds, k, rfl, _⟩ := h
    rfl
  · obtain ⟨x, ds, k, rfl, hC, hT, hk, q⟩ := h
    obtain ⟨dx, p, m, hx, hP, hD, hn⟩ := id hC
    refine ⟨_, (Ab (An (i := 3) O3.nd rfl (Or.inl rfl) (A4 Yk (hr.mono (by decide : 7 <= _)) (pv 0) (Af (pv 1) Aa rfl)))
      (Ab (Bi (Bb c_check_from_nought (hr.mono (by decide : 2 <= _)) (Af (pv 2) Aa rfl)))
      (Ae (Am (B2 (As L7 (pv 2) (pv 3) (Aw _)) (A4 W4 (hr.mono (by decide : 12 <= _)) (pv 0) (Af (pv 1) (Af (pv 2) Aa rfl) rfl)) E6))))), ?_⟩
    k_is
    refine ⟨x, dx, _, rfl, hx, rfl, ?_⟩
    k_is
    refine ⟨x, ds, k, rfl, hC, hT, hk, fun H1 s1 => ?_⟩
    k_is
    refine ⟨0, rfl, by omega, ?_⟩
    k_is
    unfold Lz at q
    refine B6 (fun h1 => ?_) (fun h1 => ?_)
    · k_is
      refine ⟨x, dx, _, rfl, s1.k hx, rfl, ?_⟩
      k_is
      rw [if_pos (show 0 < (Ay ds ds.length (k : Int)).length by omega)] at q
      exact ⟨x, ds, k, rfl, hC.sm s1, s1.ok, by omega, fun H2 s2 => q H2 (s1.trans s2)⟩
    · k_is
      rw [if_neg (show ¬ 0 < (Ay ds ds.length (k : Int)).length by omega)] at q
      exact q H1 s1
def Sr (K:PySem.W.Frag)(CB CC CP CD:Addr)(ts:List Tb):Sp:=fun vs H Q _=>∃ (x:Addr) (ds:List Nat) (k:Nat),vs=[.ref x,.int k]/\Bc K CB CC CP CD H x ds/\Tbs ts H/\k<ds.length/\∀ H',SmT ts H H'->Q (Gn (Lz ds k)) H'
theorem Yq {f:Addr}{fd:FuncData}{ts:List Tb}(F:Fun K "first" "Wood.first" Gw f fd)(T:Txt K mg a_ONES_OF_FOUR a_SIGNS_OF_FOUR)(Z:Qa K C_Counted)(Yn:Mth P w K mg base C_Counted "nth" 13 ["self","k","i"] (bT K C_Bits C_Counts C_Pairs C_Counted ts)):Ax P w K mg base CX0 14 f fd ["self","k"] (Sr K C_Bits C_Counts C_Pairs C_Counted ts):=by
 refine F.ok Tg (fun vs H Q E h=>?_) (fun cdv A outer s H vs Q E hr h=>?_)
 ·obtain ⟨x,ds,k,rfl,_⟩:=h
  rfl
 ·obtain ⟨x,ds,k,rfl,hC,hT,hk,q⟩:=h
  obtain ⟨dx,p,m,hx,hP,hD,hn⟩:=id hC
  refine ⟨_,(Ae (Am (A4 Yn (hr.mono (by decide:13<=_)) (pv 0) (Af (pv 1) (Af Ag Aa rfl) rfl)))),?_⟩
  k_is
  refine ⟨x,dx,_,rfl,hx,rfl,?_⟩
  k_is
  exact ⟨x,ds,k,rfl,hC,hT,hk,q⟩
def Vw (K:PySem.W.Frag):Sp:=fun vs H Q _=>∃ (a:Addr) (ns:List Int) (k:Nat),vs=[.ref a,.int k]/\SqL K H a (ns.map V.int)/\∀ c:Int,Q (.int c) H
theorem Rj {f : Addr}{fd : FuncData}(F : Fun K "_law_cell_at" "_law_cell_at" F5 f fd)(T : Txt K mg a_ONES_OF_FOUR a_SIGNS_OF_FOUR) : Ax P w K mg base CX0 1 f fd ["_law_script", "_law_k"] (Vw K) := by
  refine F.ok S6 (fun vs H Q E h => ?_) (fun cdv A outer s H vs Q E hr h => ?_)
  · obtain ⟨a, ns, k, rfl, _⟩ := h
    rfl
  · obtain ⟨a, ns, k, rfl, hS, q⟩ := h
    refine ⟨_, (Ab (B4 (As L7 (pv 1) (Av Bg (by rfl) T.n_len Ef (Af (pv 0) Aa rfl)) (Aw _)) (Ae (Am (Ck Ec (pv 0) (pv 1) (fun _ _ => rfl))))
      A9)
      (Ae (Am Ag))), ?_⟩
    k_is
    refine ⟨a, _, rfl, .inl hS, ?_⟩
    k_is
    rw [List.length_map]
    refine B6 (fun hb => ?_) (fun hb => ?_)
    · k_is
      have hk : k < ns.length := by omega
      refine Gs hS (v := .int ns[k]) ?_ (q _)
      refine B7 ?_
      rw [List.getElem?_map, List.getElem?_eq_getElem hk]
      rfl
    · k_is
      exact q 0
def Ve:Sp:=fun vs H Q _=>∃ (c:Int) (k:Nat),vs=[.int c,.int k]/\k<=1000/\∀ r:Nat,r<300000000->Q (.int r) H
theorem X2 {f:Addr}{fd:FuncData}(F:Fun K "_law_twice" "_law_twice" Id f fd)(T:Txt K mg a_ONES_OF_FOUR a_SIGNS_OF_FOUR):Ax P w K mg base CX0 1 f fd ["_law_cell","_law_k"] Ve:=by
 refine F.ok Mw (fun vs H Q E h=>?_) (fun cdv A outer s H vs Q E hr h=>?_)
 ·obtain ⟨c,k,rfl,_⟩:=h
  rfl
 ·obtain ⟨c,k,rfl,hk,q⟩:=h
  refine ⟨_,(Ab (An (i:=2) Mw.nd rfl (Or.inl rfl) (Aj Ek (Aj Hb (Aj Bd (Aj Bd (Aj Bd (Aj Ek (pv 0) Ag) (Aj Hb (Aj Hb Ag (pv 1)) (pv 1))) (pv 1)) Ag) Ag) Ag))
   (Ae (Am (Aj Dc (Aj Ek (Aj Hb (Aj Bd (pv 2) (pv 1)) Ag) Ag) Ag)))),?_⟩
  k_is
  refine lV (by omega) (by omega) ?_
  k_is
  generalize ((c%2147483647+7919*(k:Int)*k+k+1)*48271%2147483629+k)*69621=z
  have h0:=Int.emod_nonneg z (show (2147483647:Int)≠0 by decide)
  have h1:=Int.emod_lt_of_pos z (show (0:Int)<2147483647 by decide)
  have e:z%2147483647/8=((z%2147483647/8).toNat:Int):=by omega
  rw [e]
  exact q _ (by omega)
def Y5:Sp:=fun vs H Q _=>∃ (c:Int) (n:Nat),vs=[.int c,.int n]/\n<=60/\∀ p (ds:List Nat) H',Al H H'->H p=none->H' p=some (.lst ((Az ds).map V.int))->Dok ds->ds.length=n->Q (.ref p) H'
theorem Zh {ds:List Nat}(h:Dok ds){k:Nat}(hk:k<=ds.length):[V.int (-1)]++(way ds k).tail.map V.int=(way ds k).map V.int:=by
 rw [Km h hk]
 rfl
theorem aA {ds:List Nat}(h:Dok ds){k d:Nat}(hk:k<=ds.length)(hd:d<=opn ds k):atI ((way ds k).map V.int) (d:Int)=some (.int ((way ds k).getD d 0)):=by
 refine B7 (mX ?_)
 have hw:=Co h k hk
 unfold List.getD
 rw [List.getElem?_eq_getElem (by omega)]
 rfl
theorem X0 {f : Addr}{fd : FuncData}(F : Fun K "_law_grown" "_law_grown" Ic f fd)(T : Txt K mg a_ONES_OF_FOUR a_SIGNS_OF_FOUR) : Ax P w K mg base CX0 1 f fd ["_law_cell", "_law_many"] Y5 := by
  refine F.ok C5 (fun vs H Q E h => ?_) (fun cdv A outer s H vs Q E hr h => ?_)
  · obtain ⟨c, n, rfl, _⟩ := h
    rfl
  · obtain ⟨c, n, rfl, hn, q⟩ := h
    refine ⟨_, (Ab (An (i := 2) C5.nd rfl (Or.inl rfl) (By Aa))
      (Ab (An (i := 3) C5.nd rfl (Or.inl rfl) (By Aa))
      (Ab (E4 PassesOwn.never rfl (Jb rfl T.n_range (Af (pv 1) Aa rfl)) (Bl (i := 4) C5.nd rfl (Or.inl rfl))
      (Ab (An (i := 5) C5.nd rfl (Or.inl rfl) (Aj Ek (pv 0) (Aj Bd (Av Bg (by rfl) T.n_len Ef (Af (pv 3) Aa rfl)) Ag)))
      (Ab (An (i := 0) C5.nd rfl (Or.inl rfl) (Aj Dc (pv 0) (Aj Bd (Av Bg (by rfl) T.n_len Ef (Af (pv 3) Aa rfl)) Ag)))
      (Ab (Bi (Eg PySem.F.plainAttrs_list PySem.F.slot_list_append PySem.F.type_list_append Cb (pv 2) (Af (Ck Ec (Aj Jz (By (Af (Gh Dy Ag) Aa rfl)) (pv 3)) (pv 5) (fun _ _ => rfl)) Aa rfl)))
      (Ae (An (i := 3) C5.nd rfl (Or.inl rfl) (Aj Jz (Cs No (pv 3) M7 (Bw (pv 5))) (By (Af (pv 4) Aa rfl)))))))))
      (Ae (Am (pv 2)))))), ?_⟩
    k_is
    refine ⟨Nat.zero_le _, fun p hp => ?_⟩
    k_is
    refine ⟨Nat.zero_le _, fun p0 hp0 => ?_⟩
    have t0 := Ah (o := .lst []) hp
    have t1 := Ah (o := .lst []) hp0
    k_is
    refine ⟨_, rfl, by omega, by omega, ?_⟩
    rw [Int.toNat_natCast]
    refine Lo (fun k σ H1 => (∃ (q : Addr) (ds : List Nat) (g : Int) (v w : Option V), σ = [some (.int g), some (.int n), some (.ref p), some (.ref q), v, w]/\Dok ds/\ds.length = k/\H1 p = some (.lst ((Az ds).map V.int))/\H1 q = some (.lst ((way ds k).tail.map V.int))/\p ≠ q)/\Al H H1) ?_ ?_ ?_
    · exact ⟨⟨p0, [], _, _, _, rfl, (fun k hk => by cases hk), rfl, t1 _ _ Ac, Ac, Ar Ac hp0⟩, t0.trans t1⟩
    · rintro k σ H1 hk ⟨⟨q1, ds, g, v, w', rfl, hD, hl, hp1, hq1, hne⟩, s1⟩
      have hw := Co hD k (by omega)
      have hok := Xm hD k (by omega)
      have hwt : (way ds k).tail.length = opn ds k := by rw [List.length_tail]; omega
      k_is
      refine ⟨q1, _, rfl, .inl (SqL.of hq1), ?_⟩
      k_is
      rw [List.length_map, hwt]
      refine lE (by omega) ?_
      k_is
      obtain ⟨d, hd, hd1⟩ := Sa g (opn ds k)
      rw [hd]
      refine ⟨q1, _, rfl, .inl (SqL.of hq1), ?_⟩
      k_is
      rw [List.length_map, hwt]
      refine lY (by omega) (by omega) ?_
      k_is
      refine ⟨.inl ⟨rfl, _, SqL.of hp1⟩, ?_⟩
      k_is
      refine ⟨few (by simp), fun q3 h3 => ?_⟩
      have u3 := Ah (o := .lst [V.int (-1)]) h3
      k_is
      refine ⟨q3, q1, _, _, rfl, rfl, Ac, u3 _ _ hq1, ?_, fun q4 h4 => ?_⟩
      · rw [List.length_map, hwt]
        exact few (by simp only [List.length_cons, List.length_nil]; omega)
      rw [Zh hD (by omega)] at *
      have u4 := u3.trans (Ah (o := .lst ((way ds k).map V.int)) h4)
      have h44 : (upd (upd H1 q3 (.lst [V.int (-1)])) q4 (.lst ((way ds k).map V.int))) q4 = some (.lst ((way ds k).map V.int)) := Ac
      generalize (upd (upd H1 q3 (.lst [V.int (-1)])) q4 (.lst ((way ds k).map V.int))) = H4 at *
      k_is
      refine Gs (SqL.of h44) (aA hD (by omega) hd1) ?_
      k_is
      refine De (u4 _ _ hp1) ?_ ?_
      · rw [List.length_map, Bu]
        exact Ao (by omega)
      have s5 := Cr (o := .lst ((Az ds).map V.int ++ [V.int ((way ds k).getD d 0)])) (s1.trans u4) hp
      have hq5 : upd H4 p (.lst ((Az ds).map V.int ++ [V.int ((way ds k).getD d 0)])) q1 = some (.lst ((way ds k).tail.map V.int)) := by rw [Ap hne.symm]; exact u4 _ _ hq1
      have hp5 : upd H4 p (.lst ((Az ds).map V.int ++ [V.int ((way ds k).getD d 0)])) p = some (.lst ((Az ds).map V.int ++ [V.int ((way ds k).getD d 0)])) := Ac
      generalize upd H4 p (.lst ((Az ds).map V.int ++ [V.int ((way ds k).getD d 0)])) = H5 at *
      k_is
      refine ⟨q1, _, rfl, SqL.of hq5, fun q6 h6 => ?_⟩
      rw [dW, <- List.map_take] at *
      have u6 := Ah (o := .lst (((way ds k).tail.take d).map V.int)) h6
      k_is
      refine ⟨few (by simp), fun q7 h7 => ?_⟩
      have u7 := Ah (o := .lst [V.int (0 + (k : Int))]) h7
      refine ⟨q6, q7, _, _, rfl, rfl, u7 _ _ Ac, Ac, ?_, fun q8 h8 => ?_⟩
      · rw [List.length_map, List.length_take]
        exact few (by simp only [List.length_cons, List.length_nil]; omega)
      have u8 := Ah (o := .lst (((way ds k).tail.take d).map V.int ++ [V.int (0 + (k : Int))])) h8
      k_is
      have hp8 := u8 _ _ (u7 _ _ (u6 _ _ hp5))
      refine ⟨⟨q8, ds ++ [d], _, _, _, rfl, M2 hD (by rw [hl]; exact hd1), by rw [List.length_append, hl]; rfl, ?_, ?_, Ar (u7 _ _ (u6 _ _ hp5)) h8⟩, ((s5.trans u6).trans u7).trans u8⟩
      · rw [hp8, Iy, List.map_append, hl]
        rfl
      · have e := Kn ds d
        rw [hl] at e
        rw [Ac, e, show (0 + (k : Int)) = (k : Int) by omega]
        have e2 : ((way ds k).take (d + 1) ++ [(k : Int)]).tail = (way ds k).tail.take d ++ [(k : Int)] := by
          rw [Km hD (by omega)]
          rfl
        rw [e2, List.map_append]
        rfl
    · rintro σ H1 ⟨⟨q1, ds, g, v, w', rfl, hD, hl, hp1, hq1, hne⟩, s1⟩
      k_is
      exact q p ds H1 s1 hp hp1 hD hl
def Y2 (K:PySem.W.Frag):Sp:=fun vs H Q _=>∃ (a:Addr) (ns:List Int) (n:Nat),vs=[.ref a,.int n]/\SqL K H a (ns.map V.int)/\n<=60/\∀ p (ds:List Nat) H',Al H H'->H p=none->H' p=some (.lst ((Az ds).map V.int))->Dok ds->ds.length=n->Q (.ref p) H'
theorem Y7 {f : Addr}{fd : FuncData}(F : Fun K "_law_drawn" "_law_drawn" Hx f fd)(T : Txt K mg a_ONES_OF_FOUR a_SIGNS_OF_FOUR)(c_law_cell_at : Cal P w K mg base "_law_cell_at" 1 ["_law_script", "_law_k"] (Vw K))(c_law_twice : Cal P w K mg base "_law_twice" 1 ["_law_cell", "_law_k"] Ve) : Ax P w K mg base CX0 2 f fd ["_law_script", "_law_many"] (Y2 K) := by
  refine F.ok B3 (fun vs H Q E h => ?_) (fun cdv A outer s H vs Q E hr h => ?_)
  · obtain ⟨a, ns, n, rfl, _⟩ := h
    rfl
  · obtain ⟨a, ns, n, rfl, hS, hn, q⟩ := h
    refine ⟨_, (Ab (An (i := 2) B3.nd rfl (Or.inl rfl) (By Aa))
      (Ab (An (i := 3) B3.nd rfl (Or.inl rfl) (By Aa))
      (Ab (E4 PassesOwn.never rfl (Jb rfl T.n_range (Af (pv 1) Aa rfl)) (Bl (i := 4) B3.nd rfl (Or.inl rfl))
      (Ab (An (i := 5) B3.nd rfl (Or.inl rfl) (Bb c_law_twice (hr.mono (by decide : 1 <= _)) (Af (Bb c_law_cell_at (hr.mono (by decide : 1 <= _)) (Af (pv 0) (Af (Aj Bd Ag (pv 4)) Aa rfl) rfl)) (Af (pv 4) Aa rfl) rfl)))
      (Ab (An (i := 6) B3.nd rfl (Or.inl rfl) (Av Bg (by rfl) T.n_len Ef (Af (pv 3) Aa rfl)))
      (Ab (An (i := 7) B3.nd rfl (Or.inl rfl) (Aj Ek (Aj Dc (pv 5) Ag) (Aj Bd (pv 6) Ag)))
      (Ab (An (i := 8) B3.nd rfl (Or.inl rfl) (Ck Ec (By (Af (pv 7) (Af (pv 6) (Af (Av (gL rfl) (by rfl) T.n_max rV (Af Ag (Af (Aj Bn (pv 6) (Aj Ek (Aj Dc (pv 5) Ag) Ag)) Aa rfl) rfl)) (Af (Av (Ob rfl) (by rfl) T.n_min Ul (Af (pv 7) (Af Ag Aa rfl) rfl)) Aa rfl) rfl) rfl) rfl)) (Aj Ek (pv 5) Ag) (fun _ _ => rfl)))
      (Ab (Bi (Eg PySem.F.plainAttrs_list PySem.F.slot_list_append PySem.F.type_list_append Cb (pv 2) (Af (Ck Ec (Aj Jz (By (Af (Gh Dy Ag) Aa rfl)) (pv 3)) (pv 8) (fun _ _ => rfl)) Aa rfl)))
      (Ae (An (i := 3) B3.nd rfl (Or.inl rfl) (Aj Jz (Cs No (pv 3) M7 (Bw (pv 8))) (By (Af (pv 4) Aa rfl)))))))))))
      (Ae (Am (pv 2)))))), ?_⟩
    k_is
    refine ⟨Nat.zero_le _, fun p hp => ?_⟩
    k_is
    refine ⟨Nat.zero_le _, fun p0 hp0 => ?_⟩
    have t0 := Ah (o := .lst []) hp
    have t1 := Ah (o := .lst []) hp0
    k_is
    refine ⟨_, rfl, by omega, by omega, ?_⟩
    rw [Int.toNat_natCast]
    refine Lo (fun k σ H1 => (∃ (q : Addr) (ds : List Nat) (v4 v5 v6 v7 v8 : Option V), σ = [some (.ref a), some (.int n), some (.ref p), some (.ref q), v4, v5, v6, v7, v8]/\Dok ds/\ds.length = k/\H1 p = some (.lst ((Az ds).map V.int))/\H1 q = some (.lst ((way ds k).tail.map V.int))/\p ≠ q)/\Al H H1) ?_ ?_ ?_
    · exact ⟨⟨p0, [], _, _, _, _, _, rfl, (fun k hk => by cases hk), rfl, t1 _ _ Ac, Ac, Ar Ac hp0⟩, t0.trans t1⟩
    · rintro k σ H1 hk ⟨⟨q1, ds, v4, v5, v6, v7, v8, rfl, hD, hl, hp1, hq1, hne⟩, s1⟩
      have hw := Co hD k (by omega)
      have hok := Xm hD k (by omega)
      have hwt : (way ds k).tail.length = opn ds k := by rw [List.length_tail]; omega
      k_is
      refine ⟨a, ns, 3 + k, by simp, s1.seq hS, fun c => ?_⟩
      k_is
      refine ⟨c, k, by simp, by omega, fun r hr1 => ?_⟩
      k_is
      refine ⟨q1, _, rfl, .inl (SqL.of hq1), ?_⟩
      k_is
      rw [List.length_map, hwt]
      refine lE (by omega) ?_
      k_is
      obtain ⟨d0, hd0, hd01⟩ := Sa ((r : Int) / 4) (opn ds k)
      rw [hd0]
      k_is
      refine ⟨_, _, rfl, ?_⟩
      k_is
      refine ⟨_, _, rfl, ?_⟩
      k_is
      refine ⟨few (by simp), fun q9 h9 => ?_⟩
      k_is
      obtain ⟨d, hat, hd1⟩ : ∃ d : Nat, atI [V.int (d0 : Int), V.int (opn ds k : Int), V.int (if (opn ds k : Int) - (r : Int) / 4 % 3 > 0 then (opn ds k : Int) - (r : Int) / 4 % 3 else 0), V.int (if (2 : Int) < (d0 : Int) then 2 else (d0 : Int))] ((r : Int) % 4) = some (.int d)/\d <= opn ds k := by
        have h4 : (r : Int) % 4 = ((r % 4 : Nat) : Int) := (Int.natCast_emod r 4).symm
        rw [h4]
        have hr4 : r % 4 < 4 := Nat.mod_lt _ (by decide)
        generalize r % 4 = m at *
        match m, hr4 with
        | 0, _ => exact ⟨d0, B7 rfl, hd01⟩
        | 1, _ => exact ⟨opn ds k, B7 rfl, Nat.le_refl _⟩
        | 2, _ =>
          refine ⟨((opn ds k : Int) - (r : Int) / 4 % 3).toNat, (B7 rfl).trans ?_, by omega⟩
          congr 2
          split <;> omega
        | 3, _ =>
          refine ⟨min 2 d0, (B7 rfl).trans ?_, by omega⟩
          congr 2
          split <;> omega
      have u9 := Ah (o := .lst [V.int (d0 : Int), V.int (opn ds k : Int), V.int (if (opn ds k : Int) - (r : Int) / 4 % 3 > 0 then (opn ds k : Int) - (r : Int) / 4 % 3 else 0), V.int (if (2 : Int) < (d0 : Int) then 2 else (d0 : Int))]) h9
      refine Gs (SqL.of Ac) hat ?_
      replace hp1 := u9 _ _ hp1
      replace hq1 := u9 _ _ hq1
      replace s1 := s1.trans u9
      generalize upd H1 q9 _ = H1 at *
      k_is
      refine ⟨.inl ⟨rfl, _, SqL.of hp1⟩, ?_⟩
      k_is
      refine ⟨few (by simp), fun q3 h3 => ?_⟩
      have u3 := Ah (o := .lst [V.int (-1)]) h3
      k_is
      refine ⟨q3, q1, _, _, rfl, rfl, Ac, u3 _ _ hq1, ?_, fun q4 h4 => ?_⟩
      · rw [List.length_map, hwt]
        exact few (by simp only [List.length_cons, List.length_nil]; omega)
      rw [Zh hD (by omega)] at *
      have u4 := u3.trans (Ah (o := .lst ((way ds k).map V.int)) h4)
      have h44 : (upd (upd H1 q3 (.lst [V.int (-1)])) q4 (.lst ((way ds k).map V.int))) q4 = some (.lst ((way ds k).map V.int)) := Ac
      generalize (upd (upd H1 q3 (.lst [V.int (-1)])) q4 (.lst ((way ds k).map V.int))) = H4 at *
      k_is
      refine Gs (SqL.of h44) (aA hD (by omega) hd1) ?_
      k_is
      refine De (u4 _ _ hp1) ?_ ?_
      · rw [List.length_map, Bu]
        exact Ao (by omega)
      have s5 := Cr (o := .lst ((Az ds).map V.int ++ [V.int ((way ds k).getD d 0)])) (s1.trans u4) hp
      have hq5 : upd H4 p (.lst ((Az ds).map V.int ++ [V.int ((way ds k).getD d 0)])) q1 = some (.lst ((way ds k).tail.map V.int)) := by rw [Ap hne.symm]; exact u4 _ _ hq1
      have hp5 : upd H4 p (.lst ((Az ds).map V.int ++ [V.int ((way ds k).getD d 0)])) p = some (.lst ((Az ds).map V.int ++ [V.int ((way ds k).getD d 0)])) := Ac
      generalize upd H4 p (.lst ((Az ds).map V.int ++ [V.int ((way ds k).getD d 0)])) = H5 at *
      k_is
      refine ⟨q1, _, rfl, SqL.of hq5, fun q6 h6 => ?_⟩
      rw [dW, <- List.map_take] at *
      have u6 := Ah (o := .lst (((way ds k).tail.take d).map V.int)) h6
      k_is
      refine ⟨few (by simp), fun q7 h7 => ?_⟩
      have u7 := Ah (o := .lst [V.int (0 + (k : Int))]) h7
      refine ⟨q6, q7, _, _, rfl, rfl, u7 _ _ Ac, Ac, ?_, fun q8 h8 => ?_⟩
      · rw [List.length_map, List.length_take]
        exact few (by simp only [List.length_cons, List.length_nil]; omega)
      have u8 := Ah (o := .lst (((way ds k).tail.take d).map V.int ++ [V.int (0 + (k : Int))])) h8
      k_is
      have hp8 := u8 _ _ (u7 _ _ (u6 _ _ hp5))
      refine ⟨⟨q8, ds ++ [d], _, _, _, _, _, rfl, M2 hD (by rw [hl]; exact hd1), by rw [List.length_append, hl]; rfl, ?_, ?_, Ar (u7 _ _ (u6 _ _ hp5)) h8⟩, ((s5.trans u6).trans u7).trans u8⟩
      · rw [hp8, Iy, List.map_append, hl]
        rfl
      · have e := Kn ds d
        rw [hl] at e
        rw [Ac, e, show (0 + (k : Int)) = (k : Int) by omega]
        have e2 : ((way ds k).take (d + 1) ++ [(k : Int)]).tail = (way ds k).tail.take d ++ [(k : Int)] := by
          rw [Km hD (by omega)]
          rfl
        rw [e2, List.map_append]
        rfl
    · rintro σ H1 ⟨⟨q1, ds, v4, v5, v6, v7, v8, rfl, hD, hl, hp1, hq1, hne⟩, s1⟩
      k_is
      exact q p ds H1 s1 hp hp1 hD hl
def jV:Sp:=fun vs H Q _=>∃ (a:Addr) (ds:List Nat) (m:Nat) (b:Bool),vs=[.ref a,.int m,.bl b]/\H a=some (.lst ((Az ds).map V.int))/\Dok ds/\0<ds.length/\m*ds.length<=1000/\ds.length<=60/\∀ p (es:List Nat) H',Al H H'->H p=none->H' p=some (.lst ((Az es).map V.int))->Dok es->es.length=(m+1)*ds.length->Q (.ref p) H'
theorem jB {ds:List Nat}(h:Dok ds)(hp:0<ds.length):(way ds ds.length).getD (opn ds ds.length) 0=(ds.length:Int)-1:=by
 obtain ⟨k,hk⟩:∃ k,ds.length=k+1:=⟨ds.length-1,by omega⟩
 rw [hk]
 show ((way ds k).take (dAt ds k+1)++[(k:Int)]).getD (dAt ds k+1) 0=_
 have hw:=Co h k (by omega)
 have:=h k (by omega)
 unfold List.getD
 rw [List.getElem?_append_right (by rw [List.length_take];omega),List.length_take,Nat.min_eq_left (by omega),Nat.sub_self]
 show (k:Int)=((k+1:Nat):Int)-1
 omega
theorem Pf {f : Addr}{fd : FuncData}(F : Fun K "_law_repeated" "_law_repeated" Du f fd)(T : Txt K mg a_ONES_OF_FOUR a_SIGNS_OF_FOUR) : Ax P w K mg base CX0 1 f fd ["_law_elders", "_law_times", "_law_hung"] jV := by
  refine F.ok B0 (fun vs H Q E h => ?_) (fun cdv A outer s H vs Q E hr h => ?_)
  · obtain ⟨a, ds, m, b, rfl, _⟩ := h
    rfl
  · obtain ⟨a, ds, m, b, rfl, ha, hD, hpos, hm, hn, q⟩ := h
    have hm1 : m <= 1000 := Nat.le_trans (Nat.le_mul_of_pos_right m hpos) hm
    refine ⟨_, (Ab (An (i := 3) B0.nd rfl (Or.inl rfl) (Dk Gx (by rfl) T.n_list Kl (Af (pv 0) Aa rfl)))
      (Ab (E4 PassesOwn.never rfl (Jb rfl T.n_range (Af (pv 1) Aa rfl)) (Bl (i := 4) B0.nd rfl (Or.inl rfl))
      (Ab (An (i := 5) B0.nd rfl (Or.inr rfl) (Av Bg (by rfl) T.n_len Ef (Af (pv 3) Aa rfl)))
      (Ab (An (i := 6) B0.nd rfl (Or.inr rfl) (Gh Dy Ag))
      (Ab (S9 (Dl (pv 2)) (Ae (An (i := 6) B0.nd rfl (Or.inr rfl) (Aj Bn (pv 5) Ag)))
      A9)
      (Ae (An (i := 3) B0.nd rfl (Or.inl rfl) (Aj Jz (pv 3) (Nq rfl Na (Eb (pv 0)) (fun _ _ _ _ => Db) (fun _ _ _ _ => (B2 (As L7 (pv 0) Ag (Aw _)) (pv 1) (Aj Bd (pv 0) (pv 2))))))))))))
      (Ae (Am (pv 3))))), ?_⟩
    k_is
    refine ⟨a, _, rfl, .inl (SqL.of ha), fun p hp => ?_⟩
    have t0 := Ah (o := .lst ((Az ds).map V.int)) hp
    k_is
    refine ⟨_, rfl, by omega, by omega, ?_⟩
    rw [Int.toNat_natCast]
    refine Lo (fun k σ H1 => (∃ (p1 : Addr) (es : List Nat) (v4 v5 v6 : Option V), σ = [some (.ref a), some (.int m), some (.bl b), some (.ref p1), v4, v5, v6]/\Dok es/\es.length = (k + 1) * ds.length/\H p1 = none/\H1 p1 = some (.lst ((Az es).map V.int)))/\Al H H1) ?_ ?_ ?_
    · exact ⟨⟨p, ds, _, _, _, rfl, hD, by omega, hp, Ac⟩, t0⟩
    · rintro k σ H1 hk ⟨⟨p1, es, v4, v5, v6, rfl, hE, hl, hp0, hp1⟩, s1⟩
      have hlm : (k + 1) * ds.length <= 1000 := Nat.le_trans (Nat.mul_le_mul_right _ (by omega)) hm
      have hlp : 0 < es.length := by rw [hl]; exact Nat.mul_pos (Nat.succ_pos _) hpos
      k_is
      refine ⟨p1, _, rfl, .inl (SqL.of hp1), ?_⟩
      k_is
      rw [List.length_map, Bu]
      refine Zd (fun σ H' => H' = H1/\∃ D : Nat, D <= opn es es.length/\σ = [some (.ref a), some (.int m), some (.bl b), some (.ref p1), some (.int (0 + (k : Int))), some (.int (es.length : Int)), some (.int ((way es es.length).getD D 0))]) ?_ ?_
      · k_is
        cases b with
        | true =>
          k_is
          refine ⟨rfl, opn es es.length, Nat.le_refl _, ?_⟩
          rw [jB hE hlp]
          rfl
        | false =>
          k_is
          refine ⟨rfl, 0, Nat.zero_le _, ?_⟩
          have e1 : (way es es.length).getD 0 0 = -1 := by rw [Km hE (Nat.le_refl _)]; rfl
          rw [e1]
          rfl
      · rintro σ H' ⟨rfl, D, hDo, rfl⟩
        k_is
        generalize hbs : (way es es.length).getD D 0 = bs
        refine ⟨a, rfl, ⟨_, SqL.of (s1 _ _ ha)⟩, ?_⟩
        refine Lg (SqL.of (s1 _ _ ha)) (fun i => ((Az ds).take i |>.map (shI es.length bs)).map V.int) rfl (fun i hi => ?_) (fun i x H2 R A hx s2 kR kA => ?_) (fun D2 H2 hD2 s2 hl2 => ?_)
        · rw [List.length_map, List.length_map, List.length_take]
          exact Ao (by rw [Bu]; omega)
        · obtain ⟨n, hn2, rfl⟩ := Te hx
          have hacc : (((Az ds).take (i + 1)).map (shI es.length bs)).map V.int = (((Az ds).take i).map (shI es.length bs)).map V.int ++ [.int (shI es.length bs n)] := by
            rw [List.take_add_one, hn2, List.map_append, List.map_append]
            rfl
          k_is
          refine B6 (fun h => ?_) (fun h => ?_)
          · k_is
            refine kA _ _ ?_ (Al.refl _)
            rw [hacc]
            unfold shI
            rw [if_pos h]
          · k_is
            refine kA _ _ ?_ (Al.refl _)
            rw [hacc]
            unfold shI
            rw [if_neg h]
        · rw [List.take_of_length_le (by rw [List.length_map]; exact Nat.le_refl _)] at hl2
          obtain ⟨c1, c2, _⟩ := pJ hE hDo ds hD
          rw [hbs] at c2
          k_is
          refine ⟨p1, D2, _, _, rfl, rfl, s2 _ _ hp1, hl2, ?_, fun p3 hp3 => ?_⟩
          · simp only [List.length_map, Bu]
            exact Nat.le_of_lt (Ao (by omega))
          have u3 := Ah (o := .lst ((Az es).map V.int ++ ((Az ds).map (shI es.length bs)).map V.int)) hp3
          k_is
          refine ⟨⟨p3, Jh es D ds, _, _, _, rfl, c1, ?_, (s1.trans s2).free hp3, ?_⟩, (s1.trans s2).trans u3⟩
          · rw [Zu, hl, Nat.add_mul (k + 1) 1, Nat.one_mul]
          · rw [Ac, c2, List.map_append]
    · rintro σ H1 ⟨⟨p1, es, v4, v5, v6, rfl, hE, hl, hp0, hp1⟩, s1⟩
      k_is
      exact q p1 es H1 s1 hp0 hp1 hE hl
def Vg (K:PySem.W.Frag):Sp:=fun vs H Q _=>∃ (a:Addr) (ns:List Int) (L:Nat),vs=[.ref a,.int 40,.int L]/\SqL K H a (ns.map V.int)/\L<=400/\∀ p (ds:List Nat) H',Al H H'->H p=none->H' p=some (.lst ((Az ds).map V.int))->Dok ds->ds.length<=460->Q (.ref p) H'
theorem aU {f : Addr}{fd : FuncData}(F : Fun K "_law_wood" "_law_wood" Jt f fd)(T : Txt K mg a_ONES_OF_FOUR a_SIGNS_OF_FOUR)(c_law_cell_at : Cal P w K mg base "_law_cell_at" 1 ["_law_script", "_law_k"] (Vw K))(c_law_grown : Cal P w K mg base "_law_grown" 1 ["_law_cell", "_law_many"] Y5)(c_law_drawn : Cal P w K mg base "_law_drawn" 2 ["_law_script", "_law_many"] (Y2 K))(c_law_repeated : Cal P w K mg base "_law_repeated" 1 ["_law_elders", "_law_times", "_law_hung"] jV) : Ax P w K mg base CX0 3 f fd ["_law_script", "_law_most", "_law_large"] (Vg K) := by
  refine F.ok E9 (fun vs H Q E h => ?_) (fun cdv A outer s H vs Q E hr h => ?_)
  · obtain ⟨a, ns, L, rfl, _⟩ := h
    rfl
  · obtain ⟨a, ns, L, rfl, hS, hL, q⟩ := h
    refine ⟨_, (Ab (An (i := 3) E9.nd rfl (Or.inl rfl) (Bb c_law_cell_at (hr.mono (by decide : 1 <= _)) (Af (pv 0) (Af Ag Aa rfl) rfl)))
      (Ab (An (i := 4) E9.nd rfl (Or.inl rfl) (Aj Ek (Aj Dc (pv 3) Ag) (Aj Bd (pv 1) Ag)))
      (Ab (An (i := 5) E9.nd rfl (Or.inl rfl) (Bb c_law_drawn (hr.mono (by decide : 2 <= _)) (Af (pv 0) (Af (pv 4) Aa rfl) rfl)))
      (Ab (S9 (PW.pt (N6 (As Fm (Aj Ek (pv 3) Ag) Ag (Aw _)) (Lm (As lB (Av kP (by rfl) T.n_abs xX (Af (Bb c_law_cell_at (hr.mono (by decide : 1 <= _)) (Af (pv 0) (Af Ag Aa rfl) rfl)) Aa rfl)) (Aj uT Ag Ag) (Aw _))))) (Ae (An (i := 5) E9.nd rfl (Or.inl rfl) (Bb c_law_grown (hr.mono (by decide : 1 <= _)) (Af (Bb c_law_cell_at (hr.mono (by decide : 1 <= _)) (Af (pv 0) (Af Ag Aa rfl) rfl)) (Af (pv 4) Aa rfl) rfl))))
      A9)
      (Ab (S9 (PW.pt (N6 (As Fm (Aj Ek (Aj Dc (pv 3) Ag) Ag) Ag (Aw _)) (Lm (As Ir (pv 4) Ag (Aw _))))) (Ae (An (i := 5) E9.nd rfl (Or.inl rfl) (Bb c_law_repeated (hr.mono (by decide : 1 <= _)) (Af (pv 5) (Af (Aj Dc (pv 2) (pv 4)) (Af (G5 Fm (Aj Ek (Bb c_law_cell_at (hr.mono (by decide : 1 <= _)) (Af (pv 0) (Af Ag Aa rfl) rfl)) Ag) Ag (Aw _)) Aa rfl) rfl) rfl))))
      A9)
      (Ae (Am (pv 5)))))))), ?_⟩
    k_is
    refine ⟨a, ns, 0, rfl, hS, fun c => ?_⟩
    k_is
    obtain ⟨n, hn, hn1⟩ := Sa (c / 8) 40
    have hn' : c / 8 % (40 + 1) = (n : Int) := hn
    rw [hn']
    refine ⟨a, ns, n, rfl, hS, by omega, fun p0 d0 H1 s1 hp0 h0 hD0 hl0 => ?_⟩
    k_is
    refine Zd (fun σ H' => Al H H'/\∃ (p : Addr) (ds : List Nat), σ = [some (.ref a), some (.int 40), some (.int L), some (.int c), some (.int n), some (.ref p)]/\H p = none/\H' p = some (.lst ((Az ds).map V.int))/\Dok ds/\ds.length = n) ?_ ?_
    · k_is
      have keep : Al H H1/\∃ (p : Addr) (ds : List Nat), [some (V.ref a), some (.int 40), some (.int L), some (.int c), some (.int n), some (.ref p0)] = [some (V.ref a), some (.int 40), some (.int L), some (.int c), some (.int n), some (.ref p)]/\H p = none/\H1 p = some (.lst ((Az ds).map V.int))/\Dok ds/\ds.length = n := ⟨s1, p0, d0, rfl, hp0, h0, hD0, hl0⟩
      refine B6 (fun h2 => ?_) (fun h2 => ?_)
      · k_is
        refine ⟨a, ns, 1, rfl, s1.seq hS, fun c1 => ?_⟩
        k_is
        refine ⟨_, rfl, ?_⟩
        k_is
        refine ⟨10, 18, rfl, rfl, ⟨by decide, by decide, by decide⟩, ?_⟩
        k_is
        refine B6 (fun h3 => ?_) (fun h3 => ?_)
        · k_is
          refine ⟨a, ns, 1, rfl, s1.seq hS, fun c2 => ?_⟩
          k_is
          refine ⟨c2, n, rfl, by omega, fun p1 d1 H3 s3 hp1 h1 hD1 hl1 => ?_⟩
          k_is
          exact ⟨s1.trans s3, p1, d1, rfl, s1.free hp1, h1, hD1, hl1⟩
        · k_is
          exact keep
      · k_is
        exact keep
    · rintro σ H2 ⟨s2, p, ds, rfl, hp, h2, hD, hl⟩
      k_is
      refine Zd (fun σ H' => Al H H'/\∃ (p : Addr) (es : List Nat), σ = [some (.ref a), some (.int 40), some (.int L), some (.int c), some (.int n), some (.ref p)]/\H p = none/\H' p = some (.lst ((Az es).map V.int))/\Dok es/\es.length <= 460) ?_ ?_
      · have keep : Al H H2/\∃ (q : Addr) (es : List Nat), [some (V.ref a), some (.int 40), some (.int L), some (.int c), some (.int n), some (.ref p)] = [some (V.ref a), some (.int 40), some (.int L), some (.int c), some (.int n), some (.ref q)]/\H q = none/\H2 q = some (.lst ((Az es).map V.int))/\Dok es/\es.length <= 460 := ⟨s2, p, ds, rfl, hp, h2, hD, by omega⟩
        k_is
        refine B6 (fun h4 => ?_) (fun h4 => ?_)
        · k_is
          refine B6 (fun h5 => ?_) (fun h5 => ?_)
          · k_is
            refine lY (by omega) (by omega) ?_
            k_is
            refine ⟨a, ns, 2, rfl, s2.seq hS, fun c3 => ?_⟩
            k_is
            have e1 : (L : Int) / (n : Int) = ((L / n : Nat) : Int) := (Int.natCast_ediv L n).symm
            have hm : L / n * n <= L := Nat.div_mul_le_self L n
            rw [e1]
            refine ⟨p, ds, L / n, _, rfl, h2, hD, by omega, by rw [hl]; omega, by omega, fun p4 es H4 s4 hp4 h44 hE hle => ?_⟩
            k_is
            refine ⟨s2.trans s4, p4, es, rfl, s2.free hp4, h44, hE, ?_⟩
            rw [hle, hl, Nat.add_mul, Nat.one_mul]
            omega
          · k_is
            exact keep
        · k_is
          exact keep
      · rintro σ H5 ⟨s5, p5, es, rfl, hp5, h5, hE, hle⟩
        k_is
        exact q p5 es H5 s5 hp5 h5 hE hle
theorem Tbs.keep {ts:List Tb}{H:Hp}{p:Addr}{o:HO}{xs:List V}(h:Tbs ts H)(hp:H p=some (.lst xs)):Tbs ts (upd H p o):=by
 refine ⟨fun t ht=>?_,h.2⟩
 obtain ⟨ps,e1,e2,e3⟩:=h.1 t ht
 exact ⟨ps,by rw [Ap (fun z=>by rw [z,hp] at e1;cases e1)];exact e1,e2,e3.imp id fun ⟨c,oc,a1,a2,a3⟩=>⟨c,oc,a1,by rw [Ap (fun z=>by rw [z,hp] at a2;cases a2)];exact a2,a3⟩⟩
theorem SmT.push {ts:List Tb}{H H1:Hp}{p:Addr}{o:HO}{xs:List V}(s:SmT ts H H1)(hp:H p=none)(hl:H1 p=some (.lst xs)):SmT ts H (upd H1 p o):=by
 refine ⟨⟨fun b u n e=>?_,fun b ps e=>?_⟩,s.ok.keep hl⟩
 ·rw [Ap (Ar e hp)]
  exact s.sm.keep b u n e
 ·rw [Ap (Ar e hp)]
  exact s.sm.tb b ps e
def WAt (ds:List Nat)(H:Hp)(as:List Addr)(js:List Nat):Prop:=as.length=js.length/\∀ (i:Nat) a j,as[i]?=some a->js[i]?=some j->H a=some (.tup [.int j,.int (eld ds j)])
theorem WAt.kp {ds:List Nat}{H H':Hp}{as:List Addr}{js:List Nat}(h:WAt ds H as js)(s:∀ b xs,H b=some (.tup xs)->H' b=some (.tup xs)):WAt ds H' as js:=⟨h.1,fun i a j e1 e2=>s _ _ (h.2 i a j e1 e2)⟩
theorem WAt.push {ds:List Nat}{H:Hp}{as:List Addr}{js:List Nat}{a:Addr}{j:Nat}(h:WAt ds H as js)(ha:H a=some (.tup [.int j,.int (eld ds j)])):WAt ds H (as++[a]) (js++[j]):=by
 refine ⟨by rw [List.length_append,List.length_append,h.1];rfl,fun i b m e1 e2=>?_⟩
 by_cases hi:i<as.length
 ·rw [List.getElem?_append_left hi] at e1
  rw [List.getElem?_append_left (by rw [<- h.1];exact hi)] at e2
  exact h.2 i b m e1 e2
 ·have hi2:=Cy e1
  rw [List.length_append] at hi2
  obtain rfl:i=as.length:=by simp only [List.length_cons,List.length_nil] at hi2;omega
  rw [List.getElem?_append_right (Nat.le_refl _),Nat.sub_self] at e1
  rw [h.1,List.getElem?_append_right (Nat.le_refl _),Nat.sub_self] at e2
  obtain rfl:a=b:=Option.some.inj e1
  obtain rfl:j=m:=Option.some.inj e2
  exact ha
theorem WAt.pop {ds:List Nat}{H:Hp}{as:List Addr}{js:List Nat}{j:Nat}(h:WAt ds H as (js++[j])):∃ bs a,as=bs++[a]/\H a=some (.tup [.int j,.int (eld ds j)])/\WAt ds H bs js:=by
 have hl:=h.1
 rw [List.length_append] at hl
 rcases List.eq_nil_or_concat as with rfl | ⟨bs,a,rfl⟩
 ·simp at hl
 ·rw [List.concat_eq_append] at *
  rw [List.length_append] at hl
  have hl:bs.length=js.length:=by simp at hl;exact hl
  refine ⟨bs,a,rfl,h.2 js.length a j ?_ ?_,hl,fun i b m e1 e2=>h.2 i b m ?_ ?_⟩
  ·rw [List.getElem?_append_right (by omega),hl,Nat.sub_self];rfl
  ·rw [List.getElem?_append_right (Nat.le_refl _),Nat.sub_self];rfl
  ·rw [List.getElem?_append_left (Cy e1)];exact e1
  ·rw [List.getElem?_append_left (Cy e2)];exact e2
def S4 (K:PySem.W.Frag)(CB CC CP CD:Addr)(ts:List Tb):Sp:=fun vs H Q _=>∃ (x:Addr) (ds:List Nat),vs=[.ref x,.int (ds.length:Nat)]/\Bc K CB CC CP CD H x ds/\Tbs ts H/\ds.length<=1000/\∀ p H',SmT ts H H'->H' p=some (.lst ((Az ds).map V.int))->Q (.ref p) H'
theorem Tx {f : Addr}{fd : FuncData}{ts : List Tb}(F : Fun K "_law_walked" "_law_walked" Gy f fd)(T : Txt K mg a_ONES_OF_FOUR a_SIGNS_OF_FOUR)(Z : Qa K C_Counted)(Qr : Mth P w K mg base C_Counted "right" 12 ["self", "k"] (Nc K C_Bits C_Counts C_Pairs C_Counted ts))(Q2 : Mth P w K mg base C_Counted "left" 12 ["self", "k"] (Xd K C_Bits C_Counts C_Pairs C_Counted ts))(W5 : Mth P w K mg base C_Counted "first" 14 ["self", "k"] (Sr K C_Bits C_Counts C_Pairs C_Counted ts))(Qq : Mth P w K mg base C_Counted "elder" 12 ["self", "k"] (P1 K C_Bits C_Counts C_Pairs C_Counted ts)) : Ax P w K mg base CX0 15 f fd ["_law_wood_here", "_law_most"] (S4 K C_Bits C_Counts C_Pairs C_Counted ts) := by
  refine F.ok Cj (fun vs H Q E h => ?_) (fun cdv A outer s H vs Q E hr h => ?_)
  · obtain ⟨x, ds, rfl, _⟩ := h
    rfl
  · obtain ⟨x, ds, rfl, hC, hT, hn, q⟩ := h
    obtain ⟨dx, pc, mc, hx, hP, hD, hn4⟩ := id hC
    refine ⟨_, (Ab (An (i := 2) Cj.nd rfl (Or.inl rfl) (By Aa))
      (Ab (An (i := 3) Cj.nd rfl (Or.inl rfl) (Cs No (By (Af (N8 (Af Ag (Af (Gh Dy Ag) Aa rfl) rfl)) Aa rfl)) M7 (Bw (pv 1))))
      (Ab (Gb PassesOwn.never (PW.pt (N6 (As (tQ (uE hr)) (pv 3) (By Aa) (Aw _)) (Lm (As Uj (Av Bg (by rfl) T.n_len Ef (Af (pv 2) Aa rfl)) (pv 1) (Aw _)))))
      (Ab (kD (cF PySem.F.plainAttrs_list PySem.F.slot_list_pop PySem.F.type_list_pop dF (pv 3)) (Mg rfl (Cc (Bl (i := 4) Cj.nd rfl (Or.inl rfl)) (Cc (Bl (i := 5) Cj.nd rfl (Or.inl rfl)) Ka))))
      (Ab (B4 (As U0 (pv 4) (Av Bg (by rfl) T.n_len Ef (Af (pv 2) Aa rfl)) (Aw _)) (Ae (Am E6))
      A9)
      (Ab (Bi (Eg PySem.F.plainAttrs_list PySem.F.slot_list_append PySem.F.type_list_append Cb (pv 2) (Af (pv 5) Aa rfl)))
      (Ab (An (i := 6) Cj.nd rfl (Or.inl rfl) (A4 Qr (hr.mono (by decide : 12 <= _)) (pv 0) (Af (pv 4) Aa rfl)))
      (Ab (S9 (K2 (Kb (pv 6))) (Ab (Bi (Eg PySem.F.plainAttrs_list PySem.F.slot_list_append PySem.F.type_list_append Cb (pv 3) (Af (N8 (Af (pv 6) (Af (pv 5) Aa rfl) rfl)) Aa rfl)))
      (Ae (B4 (As U0 (A4 Q2 (hr.mono (by decide : 12 <= _)) (pv 0) (Af (pv 6) Aa rfl)) (pv 4) (Aw _)) (Ae (Am E6))
      A9)))
      A9)
      (Ab (An (i := 7) Cj.nd rfl (Or.inl rfl) (A4 W5 (hr.mono (by decide : 14 <= _)) (pv 0) (Af (pv 4) Aa rfl)))
      (Ae (S9 (K2 (Kb (pv 7))) (Ab (Bi (Eg PySem.F.plainAttrs_list PySem.F.slot_list_append PySem.F.type_list_append Cb (pv 3) (Af (N8 (Af (pv 7) (Af (pv 4) Aa rfl) rfl)) Aa rfl)))
      (Ae (B4 (PW.pt (O1 (As U0 (A4 Qq (hr.mono (by decide : 12 <= _)) (pv 0) (Af (pv 7) Aa rfl)) (pv 4) (Aw _)) (Oc (K2 (Kb (A4 Q2 (hr.mono (by decide : 12 <= _)) (pv 0) (Af (pv 7) Aa rfl))))))) (Ae (Am E6))
      A9)))
      A9)))))))))
      (Ae (Am (pv 2)))))), ?_⟩
    k_is
    refine ⟨Nat.zero_le _, fun pf hpf => ?_⟩
    have u1 := Ah (o := .lst []) hpf
    have hpf1 : upd H pf (.lst []) pf = some (.lst (((Az ds).take 0).map V.int)) := Ac
    generalize upd H pf (.lst []) = H1 at *
    k_is
    refine ⟨few (by simp), fun t0 ht0 => ?_⟩
    have u2 := Ah (o := .tup [V.int 0, V.int (-1)]) ht0
    have ht1 : upd H1 t0 (.tup [V.int 0, V.int (-1)]) t0 = some (.tup [V.int 0, V.int (-1)]) := Ac
    have hpf2 := u2 _ _ hpf1
    generalize upd H1 t0 (.tup [V.int 0, V.int (-1)]) = H2 at *
    k_is
    refine ⟨few (by simp), fun l0 hl0 => ?_⟩
    have u3 := Ah (o := .lst [V.ref t0]) hl0
    have hl1 : upd H2 l0 (.lst [V.ref t0]) l0 = some (.lst [V.ref t0]) := Ac
    have hpf3 := u3 _ _ hpf2
    have ht3 := u3 _ _ ht1
    generalize upd H2 l0 (.lst [V.ref t0]) = H3 at *
    k_is
    refine ⟨l0, _, rfl, SqL.of hl1, fun pw hpw => ?_⟩
    rw [dW] at *
    have hcut : ([V.ref t0]).take ds.length = (([t0]).take ds.length).map V.ref := by rw [List.map_take]; rfl
    rw [hcut] at *
    have u4 := Ah (o := .lst ((([t0]).take ds.length).map V.ref)) hpw
    have hpw4 : upd H3 pw (.lst ((([t0]).take ds.length).map V.ref)) pw = some (.lst ((([t0]).take ds.length).map V.ref)) := Ac
    have hpf4 := u4 _ _ hpf3
    have hW4 : WAt ds (upd H3 pw (.lst ((([t0]).take ds.length).map V.ref))) ([t0].take ds.length) (pnd ds 0).reverse := by
      rw [lQ hD]
      by_cases z : 0 < ds.length
      · rw [if_pos z]
        refine ⟨by rw [List.length_take]; simp; omega, fun i a j e1 e2 => ?_⟩
        rw [List.take_of_length_le (by simp; omega)] at e1
        cases i with
        | zero =>
          obtain rfl : t0 = a := Option.some.inj e1
          obtain rfl : 0 = j := Option.some.inj e2
          have he : eld ds 0 = -1 := by have := D6 hD z; have := E2 hD z; omega
          rw [he]
          exact u4 _ _ ht3
        | succ i => cases e1
      · rw [if_neg z, show ds.length = 0 by omega]
        exact ⟨rfl, fun i a j e => by cases e⟩
    have s03 : Al H H3 := (u1.trans u2).trans u3
    have hpw0 : H pw = none := s03.free hpw
    have npw : pf ≠ pw := Ar hpf3 hpw
    have s04 : SmT ts H (upd H3 pw (.lst ((([t0]).take ds.length).map V.ref))) := SmT.of hT (s03.trans u4)
    generalize upd H3 pw (.lst ((([t0]).take ds.length).map V.ref)) = H4 at *
    k_is
    refine Ge (fun σ H5 => ∃ (i : Nat) (as : List Addr) (v4 v5 v6 v7 : Option V), σ = [some (.ref x), some (.int (ds.length : Nat)), some (.ref pf), some (.ref pw), v4, v5, v6, v7]/\i <= ds.length/\H5 pf = some (.lst (((Az ds).take i).map V.int))/\H5 pw = some (.lst (as.map V.ref))/\WAt ds H5 as (pnd ds i).reverse/\SmT ts H H5) (fun _ H5 => ds.length - fU H5 pf) ⟨0, _, _, _, _, _, rfl, Nat.zero_le _, hpf4, hpw4, hW4, s04⟩ ?_
    rintro μ σ H5 ⟨i, as, v4, v5, v6, v7, rfl, hi, hpf5, hpw5, hW5, s5⟩ hμ
    have hlen : (((Az ds).take i).map V.int).length = i := by rw [List.length_map, List.length_take, Bu]; omega
    rw [Mv hpf5, hlen] at hμ
    k_is
    refine ⟨Nat.zero_le _, fun z hz => ?_⟩
    have uz := Ah (o := .lst []) hz
    refine xP (SqL.of (uz _ _ hpw5)) (SqL.of Ac) ?_
    have s6 := s5.then uz
    have hpf6 := uz _ _ hpf5
    have hpw6 := uz _ _ hpw5
    have hW6 := hW5.kp (fun b xs e => uz _ _ e)
    generalize upd H5 z (.lst []) = H6 at *
    by_cases hin : i = ds.length
    · have has : as = [] := by
        have := hW6.1
        rw [hin, pT] at this
        exact List.eq_nil_of_length_eq_zero this
      rw [has, decide_eq_true (show ([] : List Addr).map V.ref = [] from rfl)]
      k_is
      refine q pf H6 s6 ?_
      rw [hpf6, hin, List.take_of_length_le (by rw [Bu]; exact Nat.le_refl _)]
    · have hlt : i < ds.length := by omega
      have hrev : (pnd ds i).reverse = (Mi ds i).reverse ++ [i] := by rw [Zk hD hlt, List.reverse_cons]
      rw [hrev] at hW6
      obtain ⟨bs, a, rfl, ha, hWb⟩ := hW6.pop
      rw [decide_eq_false (show ¬ (bs ++ [a]).map V.ref = [] by simp)]
      k_is
      refine ⟨pf, _, rfl, .inl (SqL.of hpf6), ?_⟩
      rw [hlen]
      k_is
      refine B6 (fun _ => ?_) (fun h => absurd h (by omega))
      refine Lb ?_
      k_is
      refine ⟨.inl ⟨rfl, _, SqL.of hpw6⟩, ?_⟩
      refine ⟨pw, _, .ref a, rfl, rfl, hpw6, ?_, ?_⟩
      · rw [List.length_map, List.getElem?_map, List.length_append, List.getElem?_append_right (by simp)]
        simp
      k_is
      have hne : pw ≠ a := fun e => by rw [e, ha] at hpw6; cases hpw6
      have kt : ∀ {o : HO} {b : Addr} {xs : List V}, H6 b = some (.tup xs)->upd H6 pw o b = some (.tup xs) := fun {o b xs} e => by
        rw [Ap (fun z => by rw [z, hpw6] at e; cases e)]
        exact e
      have edl : (List.map V.ref (bs ++ [a])).dropLast = bs.map V.ref := by rw [List.map_append]; exact List.dropLast_concat
      rw [edl]
      refine Lj (SqT.of (kt ha)) ?_
      have s7 := s6.push (o := .lst (bs.map V.ref)) hpw0 hpw6
      have hpf7 : upd H6 pw (.lst (bs.map V.ref)) pf = some (.lst (((Az ds).take i).map V.int)) := by rw [Ap npw]; exact hpf6
      have hpw7 : upd H6 pw (.lst (bs.map V.ref)) pw = some (.lst (bs.map V.ref)) := Ac
      have hW7 : WAt ds (upd H6 pw (.lst (bs.map V.ref))) bs (Mi ds i).reverse := hWb.kp (fun b xs e => kt e)
      generalize upd H6 pw (.lst (bs.map V.ref)) = H7 at *
      k_is
      refine ⟨pf, _, rfl, .inl (SqL.of hpf7), ?_⟩
      rw [hlen]
      k_is
      refine Vj (fun h => absurd rfl h) (fun _ => ?_)
      k_is
      refine ⟨.inl ⟨rfl, _, SqL.of hpf7⟩, ?_⟩
      k_is
      refine De hpf7 (by rw [hlen]; exact Ao (by omega)) ?_
      have etk : ((Az ds).take i).map V.int ++ [V.int (eld ds i)] = ((Az ds).take (i + 1)).map V.int := by
        rw [List.take_add_one, J3 hlt, List.map_append]
        rfl
      rw [etk]
      have s8 := s7.push (o := .lst (((Az ds).take (i + 1)).map V.int)) hpf hpf7
      have hpf8 : upd H7 pf (.lst (((Az ds).take (i + 1)).map V.int)) pf = some (.lst (((Az ds).take (i + 1)).map V.int)) := Ac
      have hpw8 : upd H7 pf (.lst (((Az ds).take (i + 1)).map V.int)) pw = some (.lst (bs.map V.ref)) := by rw [Ap npw.symm]; exact hpw7
      have hW8 : WAt ds (upd H7 pf (.lst (((Az ds).take (i + 1)).map V.int))) bs (Mi ds i).reverse := hW7.kp (fun b xs e => by rw [Ap (fun z => by rw [z, hpf7] at e; cases e)]; exact e)
      generalize upd H7 pf (.lst (((Az ds).take (i + 1)).map V.int)) = H8 at *
      k_is
      refine ⟨x, dx, _, rfl, s8.k hx, rfl, ?_⟩
      k_is
      refine ⟨x, ds, i, rfl, hC.sm s8, s8.ok, hlt, fun H9 s9 => ?_⟩
      have s89 := s8.trans s9
      have hpf9 := s9.k hpf8
      have hpw9 := s9.k hpw8
      have hW9 := hW8.kp (fun b xs e => s9.k e)
      k_is
      refine Zd (fun σ H10 => ∃ cs : List Addr, σ = [some (.ref x), some (.int (ds.length : Nat)), some (.ref pf), some (.ref pw), some (.int (i : Nat)), some (.int (eld ds i)), some (Gn (Bt ds i)), v7]/\H10 pf = some (.lst (((Az ds).take (i + 1)).map V.int))/\H10 pw = some (.lst (cs.map V.ref))/\WAt ds H10 cs ((Mi ds i).reverse ++ (Bt ds i).toList)/\SmT ts H H10) ?_ ?_
      · cases hrk : Bt ds i with
        | none =>
          k_is
          exact ⟨bs, rfl, hpf9, hpw9, by rw [Option.toList_none, List.append_nil]; exact hW9, s89⟩
        | some j =>
          obtain ⟨rj1, rj2, rj3⟩ := E7 hrk
          have hbl := hW9.1
          have hpl : (Mi ds i).length <= ds.length := by
            unfold Mi pnd
            exact Nat.le_trans (List.length_filter_le _ _) (Nat.le_trans (List.length_filter_le _ _) (by rw [List.length_range]; exact Nat.le_refl _))
          rw [List.length_reverse] at hbl
          rw [show Gn (some j) = V.int (j : Nat) from rfl]
          k_is
          refine Vj (fun _ => ?_) (fun h => by cases h)
          k_is
          refine ⟨.inl ⟨rfl, _, SqL.of hpw9⟩, ?_⟩
          k_is
          refine ⟨few (by simp), fun t ht => ?_⟩
          have ut := Ah (o := .tup [V.int (j : Nat), V.int (eld ds i)]) ht
          have htt : upd H9 t (.tup [V.int (j : Nat), V.int (eld ds i)]) t = some (.tup [V.int (j : Nat), V.int (eld ds i)]) := Ac
          have sT := s89.then ut
          have hpfT := ut _ _ hpf9
          have hpwT := ut _ _ hpw9
          have hWT := hW9.kp (fun b xs e => ut _ _ e)
          generalize upd H9 t (.tup [V.int (j : Nat), V.int (eld ds i)]) = H10 at *
          k_is
          refine De hpwT (by rw [List.length_map, hbl]; exact Ao (by omega)) ?_
          rw [show bs.map V.ref ++ [V.ref t] = (bs ++ [t]).map V.ref by rw [List.map_append]; rfl]
          have sU := sT.push (o := .lst ((bs ++ [t]).map V.ref)) hpw0 hpwT
          have ktU : ∀ {b : Addr} {xs : List V}, H10 b = some (.tup xs)->upd H10 pw (.lst ((bs ++ [t]).map V.ref)) b = some (.tup xs) := fun {b xs} e => by
            rw [Ap (fun z => by rw [z, hpwT] at e; cases e)]
            exact e
          have hpfU : upd H10 pw (.lst ((bs ++ [t]).map V.ref)) pf = some (.lst (((Az ds).take (i + 1)).map V.int)) := by rw [Ap npw]; exact hpfT
          have hpwU : upd H10 pw (.lst ((bs ++ [t]).map V.ref)) pw = some (.lst ((bs ++ [t]).map V.ref)) := Ac
          have hWU : WAt ds (upd H10 pw (.lst ((bs ++ [t]).map V.ref))) (bs ++ [t]) ((Mi ds i).reverse ++ [j]) := (hWT.kp (fun b xs e => ktU e)).push (by rw [rj3]; exact ktU htt)
          generalize upd H10 pw (.lst ((bs ++ [t]).map V.ref)) = H11 at *
          k_is
          refine ⟨x, dx, _, rfl, sU.k hx, rfl, ?_⟩
          k_is
          refine ⟨x, ds, j, rfl, hC.sm sU, sU.ok, rj2, fun H12 s12 => ?_⟩
          have ek : (Ay ds j (eld ds j)).getLast? = some i := by
            rw [rj3, rj1, Rz hD hlt]
            exact List.getLast?_concat
          rw [ek]
          k_is
          refine Vj (fun h => absurd rfl h) (fun _ => ?_)
          k_is
          exact ⟨bs ++ [t], rfl, s12.k hpfU, s12.k hpwU, hWU.kp (fun b xs e => s12.k e), sU.trans s12⟩
      · rintro σ H10 ⟨cs, rfl, hpfA, hpwA, hWA, sA⟩
        k_is
        refine ⟨x, dx, _, rfl, sA.k hx, rfl, ?_⟩
        k_is
        refine ⟨x, ds, i, rfl, hC.sm sA, sA.ok, hlt, fun H11 s11 => ?_⟩
        have sB := sA.trans s11
        have hpfB := s11.k hpfA
        have hpwB := s11.k hpwA
        have hWB := hWA.kp (fun b xs e => s11.k e)
        have hbl := hWB.1
        have hpl : (Mi ds i).length <= ds.length := by
          unfold Mi pnd
          exact Nat.le_trans (List.length_filter_le _ _) (Nat.le_trans (List.length_filter_le _ _) (by rw [List.length_range]; exact Nat.le_refl _))
        have hrl : (Bt ds i).toList.length <= 1 := by cases Bt ds i <;> simp
        rw [List.length_append, List.length_reverse] at hbl
        have estep := nS hD hlt
        have hrv : ((Bt ds i).toList).reverse = (Bt ds i).toList := by cases Bt ds i <;> rfl
        have hkv : ((Lz ds i).toList).reverse = (Lz ds i).toList := by cases Lz ds i <;> rfl
        have erev : (pnd ds (i + 1)).reverse = ((Mi ds i).reverse ++ (Bt ds i).toList) ++ (Lz ds i).toList := by rw [estep, List.reverse_append, List.reverse_append, hrv, hkv]
        have hlen2 : (((Az ds).take (i + 1)).map V.int).length = i + 1 := by rw [List.length_map, List.length_take, Bu]; omega
        k_is
        refine Zd (fun σ H12 => ∃ (es : List Addr) (v7 : Option V), σ = [some (.ref x), some (.int (ds.length : Nat)), some (.ref pf), some (.ref pw), some (.int (i : Nat)), some (.int (eld ds i)), some (Gn (Bt ds i)), v7]/\H12 pf = some (.lst (((Az ds).take (i + 1)).map V.int))/\H12 pw = some (.lst (es.map V.ref))/\WAt ds H12 es (pnd ds (i + 1)).reverse/\SmT ts H H12) ?_ ?_
        · cases hkk : Lz ds i with
          | none =>
            k_is
            refine ⟨cs, _, rfl, hpfB, hpwB, ?_, sB⟩
            rw [erev, hkk, Option.toList_none, List.append_nil]
            exact hWB
          | some j =>
            obtain ⟨kj1, kj2, kj3⟩ := Zj hD hkk
            rw [show Gn (some j) = V.int (j : Nat) from rfl]
            k_is
            refine Vj (fun _ => ?_) (fun h => by cases h)
            k_is
            refine ⟨.inl ⟨rfl, _, SqL.of hpwB⟩, ?_⟩
            k_is
            refine ⟨few (by simp), fun t ht => ?_⟩
            have ut := Ah (o := .tup [V.int (j : Nat), V.int (i : Nat)]) ht
            have htt : upd H11 t (.tup [V.int (j : Nat), V.int (i : Nat)]) t = some (.tup [V.int (j : Nat), V.int (i : Nat)]) := Ac
            have sT := sB.then ut
            have hpfT := ut _ _ hpfB
            have hpwT := ut _ _ hpwB
            have hWT := hWB.kp (fun b xs e => ut _ _ e)
            generalize upd H11 t (.tup [V.int (j : Nat), V.int (i : Nat)]) = H12 at *
            k_is
            refine De hpwT (by rw [List.length_map, hbl]; exact Ao (by omega)) ?_
            rw [show cs.map V.ref ++ [V.ref t] = (cs ++ [t]).map V.ref by rw [List.map_append]; rfl]
            have sU := sT.push (o := .lst ((cs ++ [t]).map V.ref)) hpw0 hpwT
            have ktU : ∀ {b : Addr} {xs : List V}, H12 b = some (.tup xs)->upd H12 pw (.lst ((cs ++ [t]).map V.ref)) b = some (.tup xs) := fun {b xs} e => by
              rw [Ap (fun z => by rw [z, hpwT] at e; cases e)]
              exact e
            have hpfU : upd H12 pw (.lst ((cs ++ [t]).map V.ref)) pf = some (.lst (((Az ds).take (i + 1)).map V.int)) := by rw [Ap npw]; exact hpfT
            have hpwU : upd H12 pw (.lst ((cs ++ [t]).map V.ref)) pw = some (.lst ((cs ++ [t]).map V.ref)) := Ac
            have hWU : WAt ds (upd H12 pw (.lst ((cs ++ [t]).map V.ref))) (cs ++ [t]) (((Mi ds i).reverse ++ (Bt ds i).toList) ++ [j]) := (hWT.kp (fun b xs e => ktU e)).push (by rw [kj3]; exact ktU htt)
            generalize upd H12 pw (.lst ((cs ++ [t]).map V.ref)) = H13 at *
            k_is
            refine ⟨x, dx, _, rfl, sU.k hx, rfl, ?_⟩
            k_is
            refine ⟨x, ds, j, rfl, hC.sm sU, sU.ok, kj2, fun H14 s14 => ?_⟩
            rw [show aT (eld ds j) = V.int (i : Nat) by rw [kj3]; unfold aT; rw [if_neg (by omega)]]
            have sV := sU.trans s14
            k_is
            refine Vj (fun h => absurd rfl h) (fun _ => ?_)
            k_is
            refine ⟨x, dx, _, rfl, sV.k hx, rfl, ?_⟩
            k_is
            refine ⟨x, ds, j, rfl, hC.sm sV, sV.ok, kj2, fun H15 s15 => ?_⟩
            have ek : (Ay ds j (eld ds j)).getLast? = none := by
              rw [kj3, kj1, T3 hD (k := i + 1) (v := i) (by omega) (by omega)]
              rfl
            rw [ek]
            k_is
            refine ⟨cs ++ [t], _, rfl, s15.k (s14.k hpfU), s15.k (s14.k hpwU), ?_, sV.trans s15⟩
            rw [erev, hkk]
            exact hWU.kp (fun b xs e => s15.k (s14.k e))
        · rintro σ H12 ⟨es, v8, rfl, hpfE, hpwE, hWE, sE⟩
          k_is
          refine ⟨⟨i + 1, es, _, _, _, _, rfl, hlt, hpfE, hpwE, hWE, sE⟩, ?_⟩
          rw [Mv hpfE, hlen2]
          omega
theorem jR (xs:List V){a b:Nat}(h:b<=xs.length):Iu xs (some (a:Int)) (some (b:Int))=(xs.drop a).take (b-a):=by
 unfold Iu
 rw [HT.sIx_nat,HT.sIx_nat,Nat.min_eq_left h]
 by_cases ha:a<=xs.length
 ·rw [Nat.min_eq_left ha]
 ·rw [Nat.min_eq_right (by omega),List.drop_of_length_le (Nat.le_refl _),List.drop_of_length_le (by omega),List.take_nil,List.take_nil]
def X8:Sp:=fun vs H Q _=>∃ (a:Addr) (ds:List Nat) (k:Nat),vs=[.ref a,.int k]/\H a=some (.lst ((Az ds).map V.int))/\Dok ds/\k<ds.length/\ds.length<=900/\∀ p H',Al H H'->H p=none->H' p=some (.lst ((Az (Dt ds k)).map V.int))->Q (.ref p) H'
theorem Xh {f : Addr}{fd : FuncData}(F : Fun K "_law_under" "_law_under" F9 f fd)(T : Txt K mg a_ONES_OF_FOUR a_SIGNS_OF_FOUR) : Ax P w K mg base CX0 1 f fd ["_law_elders", "_law_k"] X8 := by
  refine F.ok J9 (fun vs H Q E h => ?_) (fun cdv A outer s H vs Q E hr h => ?_)
  · obtain ⟨a, ds, k, rfl, _⟩ := h
    rfl
  · obtain ⟨a, ds, k, rfl, ha, hD, hk, hn, q⟩ := h
    obtain ⟨e1, e2, e3, e4⟩ := Bj (ds := ds) hk
    have hel : ((Az ds).map V.int).length = ds.length := by rw [List.length_map, Bu]
    refine ⟨_, (Ab (An (i := 2) J9.nd rfl (Or.inl rfl) Ag)
      (Ab (Gb PassesOwn.never (PW.pt (N6 (As L7 (Aj Bd (pv 1) (pv 2)) (Av Bg (by rfl) T.n_len Ef (Af (pv 0) Aa rfl)) (Aw _)) (Lm (As lB (Ck Ec (pv 0) (Aj Bd (pv 1) (pv 2)) (fun _ _ => rfl)) (pv 1) (Aw _)))))
      (Ae (An (i := 2) J9.nd rfl (Or.inl rfl) (Aj Bd (pv 2) Ag))))
      (Ae (Am (Aj Jz (By (Af (Gh Dy Ag) Aa rfl)) (Nq rfl Sg (Eb (Cs No (pv 0) (Bw (Aj Bd (pv 1) Ag)) (Bw (Aj Bd (pv 1) (pv 2))))) (fun _ _ _ _ => Db) (fun _ _ _ _ => (Aj Bn (pv 0) (pv 1))))))))), ?_⟩
    k_is
    refine Ge (fun σ H' => H' = H/\∃ m : Nat, σ = [some (.ref a), some (.int k), some (.int m)]/\1 <= m/\k + m <= Aq ds k) (fun σ _ => match σ with | [_, _, some (.int m)] => Aq ds k - (k + m.toNat) | _ => 0) ⟨rfl, 1, rfl, Nat.le_refl _, by omega⟩ ?_
    rintro μ σ H' ⟨rfl, m, rfl, hm1, hm2⟩ hμ
    have hμ : Aq ds k - (k + ((m : Int)).toNat) = μ := hμ
    rw [Int.toNat_natCast] at hμ
    k_is
    refine ⟨a, _, rfl, .inl (SqL.of ha), ?_⟩
    rw [hel]
    k_is
    have hat : k + m < ds.length->atI ((Az ds).map V.int) ((k : Int) + (m : Int)) = some (.int (eld ds (k + m))) := fun h => by
      rw [show (k : Int) + (m : Int) = ((k + m : Nat) : Int) by omega]
      exact B7 (mX (J3 h))
    by_cases hme : k + m = Aq ds k
    · by_cases h1 : (k : Int) + (m : Int) < (ds.length : Nat)
      case' pos =>
        rw [decide_eq_true h1]
        k_is
        refine Gs (SqL.of ha) (hat (by omega)) ?_
        k_is
        rw [decide_eq_false (show ¬ (k : Int) <= eld ds (k + m) by have := e4 (by omega); rw [hme]; omega)]
      case' neg => rw [decide_eq_false h1]
      all_goals
        k_is
        refine ⟨few (by simp), fun p1 hp1 => ?_⟩
        have u1 := Ah (o := .lst [V.int (-1)]) hp1
        have hq1 : upd H' p1 (.lst [V.int (-1)]) p1 = some (.lst [V.int (-1)]) := Ac
        have ha1 := u1 _ _ ha
        generalize upd H' p1 (.lst [V.int (-1)]) = H1 at *
        k_is
        refine ⟨a, _, rfl, SqL.of ha1, fun D hD1 => ?_⟩
        rw [show (k : Int) + 1 = ((k + 1 : Nat) : Int) by omega, show (k : Int) + (m : Int) = ((Aq ds k : Nat) : Int) by omega, jR _ (by rw [hel]; omega), <- List.map_drop, <- List.map_take] at *
        have u2 := Ah (o := .lst ((((Az ds).drop (k + 1)).take (Aq ds k - (k + 1))).map V.int)) hD1
        have hq2 : upd H1 D (.lst ((((Az ds).drop (k + 1)).take (Aq ds k - (k + 1))).map V.int)) D = some (.lst ((((Az ds).drop (k + 1)).take (Aq ds k - (k + 1))).map V.int)) := Ac
        have hq12 := u2 _ _ hq1
        generalize upd H1 D (.lst ((((Az ds).drop (k + 1)).take (Aq ds k - (k + 1))).map V.int)) = H2 at *
        refine ⟨D, rfl, ⟨_, SqL.of hq2⟩, ?_⟩
        generalize hcs : ((Az ds).drop (k + 1)).take (Aq ds k - (k + 1)) = cs at *
        have hcl : cs.length <= 900 := by rw [<- hcs, List.length_take, List.length_drop, Bu]; omega
        refine Lg (SqL.of hq2) (fun i => ((cs.take i).map fun x => x - (k : Int)).map V.int) rfl (fun i hi => ?_) (fun i v H3 R A hv s3 _ hA => ?_) (fun D3 H3 hD3 s3 h3 => ?_)
        · rw [List.length_map, List.length_map, List.length_take]
          exact Ao (by omega)
        · obtain ⟨n, hn2, rfl⟩ := Te hv
          k_is
          refine hA _ _ ?_ (Al.refl _)
          rw [List.take_add_one, hn2, List.map_append, List.map_append]
          rfl
        · rw [List.length_map, List.take_length] at h3
          k_is
          refine ⟨p1, D3, _, _, rfl, rfl, s3 _ _ hq12, h3, ?_, fun p4 hp4 => ?_⟩
          · rw [List.length_map, List.length_map]
            exact few (by simp only [List.length_cons, List.length_nil]; omega)
          have s03 := (u1.trans u2).trans s3
          refine q p4 _ (s03.trans (Ah hp4)) (s03.free hp4) ?_
          rw [Ac, kQ hD hk, hcs, List.map_cons]
          rfl
    · have h1 : (k : Int) + (m : Int) < (ds.length : Nat) := by omega
      rw [decide_eq_true h1]
      k_is
      refine Gs (SqL.of ha) (hat (by omega)) ?_
      k_is
      rw [decide_eq_true (show (k : Int) <= eld ds (k + m) from e3 (k + m) (by omega) (by omega))]
      k_is
      refine Lb ?_
      k_is
      refine ⟨⟨rfl, m + 1, ?_, by omega, by omega⟩, ?_⟩
      · rw [show ((m + 1 : Nat) : Int) = (m : Int) + 1 by omega]
        rfl
      · show Aq ds k - (k + ((m : Int) + 1).toNat) < μ
        omega
def cJ (K:PySem.W.Frag)(CB CC CP CD:Addr)(ts:List Tb):Sp:=fun vs H Q _=>∃ (x:Addr) (ds:List Nat) (k:Nat),vs=[.ref x,.int k]/\Bc K CB CC CP CD H x ds/\Tbs ts H/\k<ds.length/\∀ H',SmT ts H H'->Q (.int (Aq ds k:Nat)) H'
theorem aR {f : Addr}{fd : FuncData}{ts : List Tb}(F : Fun K "_law_next" "_law_next" Jv f fd)(T : Txt K mg a_ONES_OF_FOUR a_SIGNS_OF_FOUR)(Z : Qa K C_Counted)(Qr : Mth P w K mg base C_Counted "right" 12 ["self", "k"] (Nc K C_Bits C_Counts C_Pairs C_Counted ts))(Qq : Mth P w K mg base C_Counted "elder" 12 ["self", "k"] (P1 K C_Bits C_Counts C_Pairs C_Counted ts))(Q5 : Mth P w K mg base C_Counted "many_knots" 1 ["self"] (Sz K C_Bits C_Counts C_Pairs C_Counted)) : Ax P w K mg base CX0 13 f fd ["_law_wood_here", "_law_k"] (cJ K C_Bits C_Counts C_Pairs C_Counted ts) := by
  refine F.ok Hk (fun vs H Q E h => ?_) (fun cdv A outer s H vs Q E hr h => ?_)
  · obtain ⟨x, ds, k, rfl, _⟩ := h
    rfl
  · obtain ⟨x, ds, k, rfl, hC, hT, hk, q⟩ := h
    obtain ⟨dx, pc, mc, hx, hP, hD, hn4⟩ := id hC
    refine ⟨_, (Ab (An (i := 2) Hk.nd rfl (Or.inl rfl) (pv 1))
      (Ab (Gb PassesOwn.never (K2 (Kb (pv 2)))
      (Ab (An (i := 3) Hk.nd rfl (Or.inl rfl) (A4 Qr (hr.mono (by decide : 12 <= _)) (pv 0) (Af (pv 2) Aa rfl)))
      (Ab (B4 (K2 (Kb (pv 3))) (Ae (Am (pv 3)))
      A9)
      (Ae (An (i := 2) Hk.nd rfl (Or.inl rfl) (A4 Qq (hr.mono (by decide : 12 <= _)) (pv 0) (Af (pv 2) Aa rfl)))))))
      (Ae (Am (Kj Q5 (hr.mono (by decide : 1 <= _)) (pv 0)))))), ?_⟩
    k_is
    refine Ge (fun σ H' => SmT ts H H'/\∃ (v : Option V) (o : Option Nat), σ = [some (.ref x), some (.int k), some (Gn o), v]/\match o with | some h => h < ds.length/\Aq ds h = Aq ds k | none => Aq ds k = ds.length) (fun σ _ => match σ with | [_, _, some (.int h), _] => h.toNat + 1 | _ => 0) ⟨SmT.refl hT, none, some k, rfl, hk, rfl⟩ ?_
    rintro μ σ H' ⟨s1, v, o, rfl, ho⟩ hμ
    k_is
    cases o with
    | none =>
      have ho : Aq ds k = ds.length := ho
      rw [show (!decide (Gn none = V.non)) = false from rfl]
      k_is
      refine ⟨x, dx, _, rfl, s1.k hx, rfl, ?_⟩
      k_is
      refine ⟨x, ds, rfl, hC.sm s1, ?_⟩
      have := q H' s1
      rw [ho] at this
      exact this
    | some h =>
      obtain ⟨hh, he⟩ : h < ds.length/\Aq ds h = Aq ds k := ho
      have hμ : ((h : Int)).toNat + 1 = μ := hμ
      rw [show Gn (some h) = V.int (h : Nat) from rfl]
      refine Vj (fun _ => ?_) (fun z => by cases z)
      refine Lb ?_
      k_is
      refine ⟨x, dx, _, rfl, s1.k hx, rfl, ?_⟩
      k_is
      refine ⟨x, ds, h, rfl, hC.sm s1, s1.ok, hh, fun H2 s2 => ?_⟩
      have s12 := s1.trans s2
      cases hr2 : Bt ds h with
      | some j =>
        obtain ⟨r1, r2, r3⟩ := E7 hr2
        rw [show Gn (some j) = V.int (j : Nat) from rfl]
        k_is
        have := q H2 s12
        rw [<- he, <- r1] at this
        exact this
      | none =>
        rw [show Gn none = V.non from rfl]
        k_is
        rw [show (!decide (V.non = V.non)) = false from rfl]
        k_is
        refine ⟨x, dx, _, rfl, s12.k hx, rfl, ?_⟩
        k_is
        refine ⟨x, ds, h, rfl, hC.sm s12, s12.ok, hh, fun H3 s3 => ?_⟩
        have hge := E2 hD hh
        by_cases hv : eld ds h = -1
        · rw [show aT (eld ds h) = Gn none by rw [hv]; rfl]
          k_is
          refine ⟨⟨s12.trans s3, _, none, rfl, ?_⟩, ?_⟩
          · show Aq ds k = ds.length
            rw [<- he]
            exact qJ hD hh hr2 hv
          · show 0 < μ
            omega
        · obtain ⟨u, hu, huh, _⟩ := Dx hD hh hv
          rw [show aT (eld ds h) = Gn (some u) by rw [hu]; unfold aT; rw [if_neg (by omega)]; rfl]
          k_is
          refine ⟨⟨s12.trans s3, _, some u, rfl, by omega, ?_⟩, ?_⟩
          · rw [uV hD hh hr2 hu]
            exact he
          · show ((u : Int)).toNat + 1 < μ
            omega
theorem fX (a b:List Nat):grB (a++b)=grB a++grB b:=by
 unfold grB
 rw [List.map_append,List.flatten_append]
theorem pQ {ns:List Nat}{a b:Nat}(h:a<=b)(hb:b<=ns.length):((grB ns).drop (gB ns a)).take (gB ns b-gB ns a)=grB ((ns.drop a).take (b-a)):=by
 have e:ns=ns.take a++((ns.drop a).take (b-a)++ns.drop b):=by
  rw [show ns.drop b=(ns.drop a).drop (b-a) by rw [List.drop_drop];congr 1;omega,List.take_append_drop,List.take_append_drop]
 have ha:(grB (ns.take a)).length=gB ns a:=by rw [Hm,List.length_take];unfold gB;omega
 have hm:(grB ((ns.drop a).take (b-a))).length=gB ns b-gB ns a:=by
  have h1:(ns.take b).sum=(ns.take a).sum+((ns.drop a).take (b-a)).sum:=by
   rw [show ns.take b=ns.take a++(ns.drop a).take (b-a) by rw [<- List.take_add];congr 1;omega,List.sum_append]
  rw [Hm,List.length_take,List.length_drop]
  unfold gB
  omega
 have key:=congrArg grB e
 rw [fX,fX] at key
 rw [key,<- hm,<- ha,List.drop_left,List.take_left]
theorem nG {ds:List Nat}(h:Dok ds){j:Nat}(hj:j<=ds.length):gB (gsC ds) (j+1)=bgC ds j:=by
 unfold gB bgC
 rw [Nl h j hj]
 omega
theorem qH {ds:List Nat}(h:Dok ds){k:Nat}(hk:k<ds.length):[true,false]++((grB (gsC ds)).drop (bgC ds k)).take (bgC ds (Aq ds k)-bgC ds k)=grB (gsC (Dt ds k)):=by
 obtain ⟨a,b,c,d⟩:=Bj (ds:=ds) hk
 rw [<- nG h (show k<=ds.length by omega),<- nG h b,pQ (by omega) (by rw [G2];omega),qV h hk,Dw,show Aq ds k+1-(k+1)=Aq ds k-k by omega]
 rfl
def Xw (K:PySem.W.Frag)(CB CC CP CD:Addr)(ts:List Tb):Sp:=fun vs H Q _=>∃ (x a:Addr) (ds:List Nat) (k:Nat) (b:Bool),vs=[.ref x,.ref a,.int k,.bl b]/\Bc K CB CC CP CD H x ds/\Tbs ts H/\H a=some (.lst ((Az ds).map V.int))/\k<ds.length/\ds.length<=900/\∀ H',SmT ts H H'->Q (.bl true) H'
theorem Z9 {f : Addr}{fd : FuncData}{ts : List Tb}(F : Fun K "_law_good" "_law_good" Jw f fd)(T : Txt K mg a_ONES_OF_FOUR a_SIGNS_OF_FOUR)(Z : Qa K C_Counted)(c_law_under : Cal P w K mg base "_law_under" 1 ["_law_elders", "_law_k"] X8)(Qn : Mth P w K mg base C_Counted "stretch" 10 ["self", "k"] (Js K C_Bits C_Counts C_Pairs C_Counted ts))(c_Counted : Mkr P w K mg base "Counted" C_Counted 9 ["self", "elders"] (Ps K C_Bits C_Counts C_Pairs C_Counted))(Qo : Mth P w K mg base C_Counted "row" 8 ["self"] (U8 K C_Bits C_Counts C_Pairs C_Counted))(Ww : Mth P w K mg base C_Counted "elders" 9 ["self"] (Oo K C_Bits C_Counts C_Pairs C_Counted))
    (Qy : Mth P w K mg base C_Counted "behind" 11 ["self", "k"] (Ro K C_Bits C_Counts C_Pairs C_Counted ts))(c_law_next : Cal P w K mg base "_law_next" 13 ["_law_wood_here", "_law_k"] (cJ K C_Bits C_Counts C_Pairs C_Counted ts)) : Ax P w K mg base CX0 14 f fd ["_law_wood_here", "_law_elders", "_law_k", "_law_further"] (Xw K C_Bits C_Counts C_Pairs C_Counted ts) := by
  refine F.ok Gf (fun vs H Q E h => ?_) (fun cdv A outer s H vs Q E hr h => ?_)
  · obtain ⟨x, a, ds, k, b, rfl, _⟩ := h
    rfl
  · obtain ⟨x, a, ds, k, b, rfl, hC, hT, ha, hk, hn, q⟩ := h
    obtain ⟨dx, pc, mc, hx, hP, hD, hn4⟩ := id hC
    obtain ⟨e1, e2, e3, e4⟩ := Bj (ds := ds) hk
    have hsl := F6 ds k
    have hsd := Vy hD hk
    refine ⟨_, (Ab (An (i := 4) Gf.nd rfl (Or.inl rfl) (Bb c_law_under (hr.mono (by decide : 1 <= _)) (Af (pv 1) (Af (pv 2) Aa rfl) rfl)))
      (Ab (kD (A4 Qn (hr.mono (by decide : 10 <= _)) (pv 0) (Af (pv 2) Aa rfl)) (Mg rfl (Cc (Bl (i := 5) Gf.nd rfl (Or.inl rfl)) (Cc (Bl (i := 6) Gf.nd rfl (Or.inl rfl)) Ka))))
      (Ab (An (i := 7) Gf.nd rfl (Or.inl rfl) (Zf c_Counted (hr.mono (by decide : 10 <= _)) (Af (Dk Gx (by rfl) T.n_list Kl (Af (pv 4) Aa rfl)) Aa rfl)))
      (Ab (B4 (PW.pt (O1 (As U0 (Aj Mn Fq (Cs Rb (Kj Qo (hr.mono (by decide : 8 <= _)) (pv 0)) (Bw (pv 5)) (Bw (pv 6)))) (Kj Qo (hr.mono (by decide : 8 <= _)) (pv 7)) (Aw _)) (Oc (As (jJ (uE hr)) (Kj Ww (hr.mono (by decide : 9 <= _)) (pv 7)) (pv 4) (Aw _))))) (Ae (Am T7))
      A9)
      (Ab (B4 (As U0 (Aj Bn (A4 Qy (hr.mono (by decide : 11 <= _)) (pv 0) (Af (pv 2) Aa rfl)) (pv 2)) (Av Bg (by rfl) T.n_len Ef (Af (pv 4) Aa rfl)) (Aw _)) (Ae (Am T7))
      A9)
      (Ae (Am (sK (jK (pv 3)) (S8 (G5 Fm (Bb c_law_next (hr.mono (by decide : 13 <= _)) (Af (pv 0) (Af (pv 2) Aa rfl) rfl)) (A4 Qy (hr.mono (by decide : 11 <= _)) (pv 0) (Af (pv 2) Aa rfl)) (Aw _))))))))))), ?_⟩
    k_is
    refine ⟨a, ds, k, rfl, ha, hD, hk, hn, fun pu H1 s1 hpu0 hpu => ?_⟩
    k_is
    refine ⟨x, dx, _, rfl, s1 _ _ hx, rfl, ?_⟩
    k_is
    refine ⟨x, ds, k, rfl, hC.same s1, hT.same s1, hk, fun t H2 s2 ht => ?_⟩
    have s12 := (SmT.of hT s1).trans s2
    have hpu2 := s2.k hpu
    refine Lj (SqT.of ht) ?_
    k_is
    refine ⟨pu, _, rfl, .inl (SqL.of hpu2), fun p3 hp3 => ?_⟩
    have u3 := Ah (o := .lst ((Az (Dt ds k)).map V.int)) hp3
    have hp33 : upd H2 p3 (.lst ((Az (Dt ds k)).map V.int)) p3 = some (.lst ((Az (Dt ds k)).map V.int)) := Ac
    have s13 := s12.then u3
    have hpu3 := u3 _ _ hpu2
    generalize upd H2 p3 (.lst ((Az (Dt ds k)).map V.int)) = H3 at *
    k_is
    intro y dy hy hdy hyd
    refine ⟨y, dy, p3, Dt ds k, rfl, Ac, R9 hy hdy _ _ hp33, hsd, by rw [hsl]; omega, fun H4 s4 hC4 => ⟨rfl, ?_⟩⟩
    have s4 := Je hy hdy s4
    have s14 := s13.then s4
    have hpu4 := s4 _ _ hpu3
    obtain ⟨dy4, py4, my4, hy4, _⟩ := id hC4
    k_is
    refine ⟨x, dx, _, rfl, s14.k hx, rfl, ?_⟩
    k_is
    refine ⟨x, ds, rfl, hC.sm s14, fun H5 s5 => ?_⟩
    k_is
    have hgl : (grB (gsC ds)).length <= 2000 := by rw [Hm, Nd hD, G2]; omega
    refine ⟨_, rfl, Nat.le_of_lt (Ao (by rw [A7]; omega)), ?_⟩
    rw [Il]
    refine ⟨_, _, rfl, rfl, ?_, ?_⟩
    · refine Nat.le_of_lt (Ao ?_)
      rw [A7, List.length_take, List.length_drop, show ("10" : Str).length = 2 from rfl]
      omega
    rw [show ("10" : Str) ++ Au (((grB (gsC ds)).drop (bgC ds k)).take (bgC ds (Aq ds k) - bgC ds k)) = Au (grB (gsC (Dt ds k))) by rw [<- qH hD hk]; exact Jo [true, false] _]
    have s15 := s14.then s5
    k_is
    refine ⟨y, dy4, _, rfl, s5 _ _ hy4, rfl, ?_⟩
    k_is
    refine ⟨y, Dt ds k, rfl, hC4.same s5, fun H6 s6 => ?_⟩
    k_is
    refine Vj (fun h => absurd rfl h) (fun _ => ?_)
    have s56 := s5.trans s6
    k_is
    refine ⟨y, dy4, _, rfl, s56 _ _ hy4, rfl, ?_⟩
    k_is
    refine ⟨y, Dt ds k, rfl, hC4.same s56, fun pe H7 s7 hpe0 hpe => ?_⟩
    have s57 := s56.trans s7
    k_is
    refine kZ (Di.lsts (SqL.of hpe) (SqL.of (s57 _ _ hpu4)) (G8 _)) ?_
    have s17 := s14.then s57
    k_is
    refine ⟨x, dx, _, rfl, s17.k hx, rfl, ?_⟩
    k_is
    refine ⟨x, ds, k, rfl, hC.sm s17, s17.ok, hk, fun H8 s8 => ?_⟩
    have s18 := s17.trans s8
    k_is
    refine ⟨pu, _, rfl, .inl (SqL.of (s8.k (s57 _ _ hpu4))), ?_⟩
    rw [List.length_map, Bu, hsl]
    k_is
    rw [show ((Aq ds k : Nat) : Int) - (k : Int) = ((Aq ds k - k : Nat) : Int) by omega]
    refine Vj (fun h => absurd rfl h) (fun _ => ?_)
    cases b with
    | false =>
      k_is
      exact q H8 s18
    | true =>
      k_is
      refine ⟨x, ds, k, rfl, hC.sm s18, s18.ok, hk, fun H9 s9 => ?_⟩
      have s19 := s18.trans s9
      k_is
      refine ⟨x, dx, _, rfl, s19.k hx, rfl, ?_⟩
      k_is
      refine ⟨x, ds, k, rfl, hC.sm s19, s19.ok, hk, fun H10 s10 => ?_⟩
      k_is
      rw [decide_eq_true rfl]
      exact q H10 (s19.trans s10)
theorem tT {f : Addr}{fd : FuncData}{ts : List Tb}(F : Fun K "law" "law" Sw f fd)(T : Txt K mg a_ONES_OF_FOUR a_SIGNS_OF_FOUR)(Z : Qa K C_Counted)(c_law_wood : Cal P w K mg base "_law_wood" 3 ["_law_script", "_law_most", "_law_large"] (Vg K))(c_Counted : Mkr P w K mg base "Counted" C_Counted 9 ["self", "elders"] (Ps K C_Bits C_Counts C_Pairs C_Counted))(c_law_walked : Cal P w K mg base "_law_walked" 15 ["_law_wood_here", "_law_most"] (S4 K C_Bits C_Counts C_Pairs C_Counted ts))(c_law_good : Cal P w K mg base "_law_good" 14 ["_law_wood_here", "_law_elders", "_law_k", "_law_further"] (Xw K C_Bits C_Counts C_Pairs C_Counted ts)) : Ax P w K mg base CX0 16 f fd ["_law_script"] (aH K ts) := by
  refine F.ok Ny (fun vs H Q E h => ?_) (fun cdv A outer s H vs Q E hr h => ?_)
  · obtain ⟨a, ns, rfl, _⟩ := h
    rfl
  · obtain ⟨a, ns, rfl, hS, hlen, hT, q⟩ := h
    refine ⟨_, (Ab (An (i := 1) Ny.nd rfl (Or.inl rfl) (Bb c_law_wood (hr.mono (by decide : 3 <= _)) (Af (pv 0) (Af Ag (Af Ag Aa rfl) rfl) rfl)))
      (Ab (An (i := 2) Ny.nd rfl (Or.inl rfl) (Av Bg (by rfl) T.n_len Ef (Af (pv 1) Aa rfl)))
      (Ab (An (i := 3) Ny.nd rfl (Or.inl rfl) (Zf c_Counted (hr.mono (by decide : 10 <= _)) (Af (Dk Gx (by rfl) T.n_list Kl (Af (pv 1) Aa rfl)) Aa rfl)))
      (Ab (B4 (As (jJ (uE hr)) (Bb c_law_walked (hr.mono (by decide : 15 <= _)) (Af (pv 3) (Af (pv 2) Aa rfl) rfl)) (pv 1) (Aw _)) (Ae (Am T7))
      A9)
      (Ab (An (i := 4) Ny.nd rfl (Or.inl rfl) (Ck Ec (By (Af Ag (Af Ag Aa rfl) rfl)) (Dk hU (by rfl) T.n_int jI (Af (G5 Ir (pv 2) Ag (Aw _)) Aa rfl)) (fun _ _ => rfl)))
      (Ab (E4 PassesOwn.never rfl (Eb (Aj Jz (Sd rfl rfl T.n_list rfl T.n_range (Af Ag (Af (pv 2) (Af (pv 4) Aa rfl) rfl) rfl)) (Cs No (gY rfl rfl T.n_list rfl T.n_range (Af (pv 2) Aa rfl)) (Bw (Gh Dy Ag)) M7))) (Bl (i := 5) Ny.nd rfl (Or.inl rfl))
      (Ae (B4 (Hd (Dl (Bb c_law_good (hr.mono (by decide : 14 <= _)) (Af (pv 3) (Af (pv 1) (Af (pv 5) (Af (sK (G5 Fm (pv 5) (Aj Bn (pv 2) Ag) (Aw _)) (S8 (dZ (G5 Uj (pv 2) Ag (Aw _)) (S8 (G5 Fm (Aj Ek (pv 5) Ag) Ag (Aw _)))))) Aa rfl) rfl) rfl) rfl)))) (Ae (Am T7))
      A9)))
      (Ae (Am T7)))))))), ?_⟩
    k_is
    refine ⟨a, ns, 60, rfl, hS, by omega, fun p ds H1 s1 hp0 hp hD hl => ?_⟩
    have hel : (Az ds).length = ds.length := Bu ds
    k_is
    refine ⟨p, _, rfl, .inl (SqL.of hp), ?_⟩
    rw [List.length_map, hel]
    k_is
    refine ⟨p, _, rfl, .inl (SqL.of hp), fun p4 hp4 => ?_⟩
    have t4 := Ah (o := .lst ((Az ds).map V.int)) hp4
    have hp44 : upd H1 p4 (.lst ((Az ds).map V.int)) p4 = some (.lst ((Az ds).map V.int)) := Ac
    generalize upd H1 p4 (.lst ((Az ds).map V.int)) = H2 at *
    k_is
    intro x dx hx hdx hxd
    refine ⟨x, dx, p4, ds, rfl, Ac, R9 hx hdx _ _ hp44, hD, by omega, fun H3 s3 hC => ⟨rfl, ?_⟩⟩
    have s3 := Je hx hdx s3
    have s13 := t4.trans s3
    have hp3 := s13 _ _ hp
    have hT3 := hT.same (s1.trans s13)
    k_is
    refine ⟨x, ds, rfl, hC, hT3, by omega, fun pf H4 s4 hpf => ?_⟩
    have hp5 := s4.k hp3
    k_is
    refine kZ (Di.lsts (SqL.of hpf) (SqL.of hp5) (G8 _)) ?_
    k_is
    refine ⟨few (by simp), fun p6 hp6 => ?_⟩
    have u6 := Ah (o := .lst [V.int 4, V.int 16]) hp6
    k_is
    refine .inr ⟨_, rfl, ?_⟩
    obtain ⟨st, hst, hst1, hst2⟩ : ∃ st : Nat, atI [V.int 4, V.int 16] (if decide ((40 : Int) < ((ds.length : Nat) : Int)) = true then 1 else 0) = some (.int st)/\4 <= st/\st <= 16 := by
      by_cases h : (40 : Int) < ((ds.length : Nat) : Int)
      · rw [decide_eq_true h]; exact ⟨16, rfl, by decide, by decide⟩
      · rw [decide_eq_false h]; exact ⟨4, rfl, by decide, by decide⟩
    refine Gs (SqL.of Ac) hst ?_
    have s6 := s4.then u6
    have hp7 := u6 _ _ hp5
    have hC6 := hC.sm s6
    generalize upd H4 p6 (.lst [V.int 4, V.int 16]) = H5 at *
    k_is
    refine ⟨ds.length, st, rfl, by omega, by omega, by omega, fun pr hpr => ?_⟩
    have u7 := Ah (o := .lst ((List.range ((ds.length + st - 1) / st)).map fun t : Nat => V.int ((t * st : Nat) : Int))) hpr
    have hpr1 : upd H5 pr (.lst ((List.range ((ds.length + st - 1) / st)).map fun t : Nat => V.int ((t * st : Nat) : Int))) pr = some (.lst ((List.range ((ds.length + st - 1) / st)).map fun t : Nat => V.int ((t * st : Nat) : Int))) := Ac
    have s7 := s6.then u7
    have hp8 := u7 _ _ hp7
    generalize upd H5 pr (.lst ((List.range ((ds.length + st - 1) / st)).map fun t : Nat => V.int ((t * st : Nat) : Int))) = H6 at *
    k_is
    refine ⟨ds.length, rfl, by omega, fun pm hpm => ?_⟩
    have u8 := Ah (o := .lst ((List.range ds.length).map fun i : Nat => V.int (i : Int))) hpm
    have hpm1 : upd H6 pm (.lst ((List.range ds.length).map fun i : Nat => V.int (i : Int))) pm = some (.lst ((List.range ds.length).map fun i : Nat => V.int (i : Int))) := Ac
    have s8 := s7.then u8
    have hp9 := u8 _ _ hp8
    have hpr2 := u8 _ _ hpr1
    generalize upd H6 pm (.lst ((List.range ds.length).map fun i : Nat => V.int (i : Int))) = H7 at *
    k_is
    refine ⟨pm, _, rfl, SqL.of hpm1, fun pl hpl => ?_⟩
    have hcm : ∀ v ∈ Iu ((List.range ds.length).map fun i : Nat => V.int (i : Int)) (some (-1)) none, ∃ k : Nat, k < ds.length/\v = .int k := fun v hv => by
      unfold Iu at hv
      obtain ⟨k, hk, rfl⟩ := List.mem_map.mp (List.mem_of_mem_drop (List.mem_of_mem_take hv))
      exact ⟨k, List.mem_range.mp hk, rfl⟩
    have hcl : (Iu ((List.range ds.length).map fun i : Nat => V.int (i : Int)) (some (-1)) none).length <= ds.length := by
      unfold Iu
      rw [List.length_take, List.length_drop, List.length_map, List.length_range]
      omega
    generalize Iu ((List.range ds.length).map fun i : Nat => V.int (i : Int)) (some (-1)) none = zs at *
    have u9 := Ah (o := .lst zs) hpl
    have hpl1 : upd H7 pl (.lst zs) pl = some (.lst zs) := Ac
    have s9 := s8.then u9
    have hp10 := u9 _ _ hp9
    have hpr3 := u9 _ _ hpr2
    generalize upd H7 pl (.lst zs) = H8 at *
    have hrm : ∀ v ∈ (List.range ((ds.length + st - 1) / st)).map (fun t : Nat => V.int ((t * st : Nat) : Int)), ∃ k : Nat, k < ds.length/\v = .int k := fun v hv => by
      obtain ⟨t, ht, rfl⟩ := List.mem_map.mp hv
      have ht := List.mem_range.mp ht
      refine ⟨t * st, ?_, rfl⟩
      have h1 : t + 1 <= (ds.length + st - 1) / st := ht
      have h2 := (Nat.le_div_iff_mul_le (by omega)).mp h1
      rw [Nat.add_mul, Nat.one_mul] at h2
      omega
    have hrl : ((List.range ((ds.length + st - 1) / st)).map (fun t : Nat => V.int ((t * st : Nat) : Int))).length <= ds.length := by
      rw [List.length_map, List.length_range]
      rcases Nat.eq_zero_or_pos ds.length with z | z
      · rw [z, Nat.div_eq_of_lt (by omega)]
        exact Nat.le_refl _
      · refine Nat.le_of_lt_succ ((Nat.div_lt_iff_lt_mul (by omega)).mpr ?_)
        have : (ds.length + 1) * 4 <= (ds.length + 1) * st := Nat.mul_le_mul_left _ hst1
        have h3 : (ds.length + 1) * st = ds.length * st + st := by rw [Nat.add_mul, Nat.one_mul]
        have h4 : ds.length <= ds.length * st := Nat.le_mul_of_pos_right _ (by omega)
        show ds.length + st - 1 < (ds.length + 1) * st
        rw [h3]
        omega
    generalize (List.range ((ds.length + st - 1) / st)).map (fun t : Nat => V.int ((t * st : Nat) : Int)) = rs at *
    k_is
    refine ⟨pr, pl, _, _, rfl, rfl, hpr3, hpl1, few (by omega), fun pc hpc => ?_⟩
    have u10 := Ah (o := .lst (rs ++ zs)) hpc
    have hpc1 : upd H8 pc (.lst (rs ++ zs)) pc = some (.lst (rs ++ zs)) := Ac
    have s10 := s9.then u10
    have hp11 := u10 _ _ hp10
    generalize upd H8 pc (.lst (rs ++ zs)) = H9 at *
    refine ⟨pc, rfl, ⟨_, SqL.of hpc1⟩, ?_⟩
    refine Kz (xs := rs ++ zs) (fun i σ H10 => (∃ v5 : Option V, σ = [some (.ref a), some (.ref p), some (.int (ds.length : Nat)), some (.ref x), some (.int (st : Nat)), v5])/\SmT ts H9 H10) ⟨⟨_, rfl⟩, SmT.refl s10.ok⟩ (fun i σ H10 _ h => SqL.of (h.2.k hpc1)) ?_ ?_
    · rintro i y σ H10 hy ⟨⟨v5, rfl⟩, s11⟩
      obtain ⟨k, hk, rfl⟩ : ∃ k : Nat, k < ds.length/\y = .int k := by
        rcases List.mem_append.mp (List.mem_of_getElem? hy) with z | z
        · exact hrm y z
        · exact hcm y z
      have s12 := s10.trans s11
      k_is
      refine B6 (fun _ => ?_) (fun _ => ?_)
      · k_is
        refine ⟨x, p, ds, k, _, rfl, hC.sm s12, s12.ok, s11.k hp11, hk, by omega, fun H11 s13 => ?_⟩
        k_is
        exact ⟨⟨_, rfl⟩, s11.trans s13⟩
      · k_is
        refine B6 (fun _ => ?_) (fun _ => ?_)
        · k_is
          refine ⟨x, p, ds, k, _, rfl, hC.sm s12, s12.ok, s11.k hp11, hk, by omega, fun H11 s13 => ?_⟩
          k_is
          exact ⟨⟨_, rfl⟩, s11.trans s13⟩
        · k_is
          refine ⟨x, p, ds, k, _, rfl, hC.sm s12, s12.ok, s11.k hp11, hk, by omega, fun H11 s13 => ?_⟩
          k_is
          exact ⟨⟨_, rfl⟩, s11.trans s13⟩
    · rintro σ H10 _
      k_is
      exact q H10
end
set_option maxHeartbeats 8000000 in
theorem all_mk {l:PySem.W.OpenLaw}{w:World}{K:PySem.W.Frag}{h:Heap}{mg:Str->Option Value}{fa:Addr}(X:K.In h)(G:h.Ns mainGlobals mg)(hfa:mg "law"=some (.ref fa))
  {C_Bits:Addr}
  {C_Counts:Addr}
  {C_Pairs:Addr}
  {C_Counted:Addr}
  {C_Heights:Addr}
  {f26:Addr}{od26 an26:Option Addr}{sl26:Array (Option Value)}{oc26 kV26 dc26 pm26 ct26:Value}
  {oo26:Obj}
  {a_ONES_OF_FOUR:Addr}{o_ONES_OF_FOUR:Obj}{i_ONES_OF_FOUR:Array Value}{n_ONES_OF_FOUR:Nat}
  {a_SIGNS_OF_FOUR:Addr}{o_SIGNS_OF_FOUR:Obj}{i_SIGNS_OF_FOUR:Array Value}{n_SIGNS_OF_FOUR:Nat}
  {t_WORD_BITS:Tok}
  {t_MOST_BITS:Tok}
  {t_BLOCK_WORDS:Tok}
  {t_BLOCK_BITS:Tok}
  {t_FULL_WORD:Tok}
  {t_MOST_SIGNS:Tok}
  {t_STRETCH_BITS:Tok}
  {t_MOST_KNOTS:Tok}
  {t_MARK_STEP:Tok}
  (cd_Bits:CD K C_Bits "Bits")
  (fd_Bits:FD K C_Bits ["length","many_ones","kept_words"])
  (cd_Counts:CD K C_Counts "Counts")
  (fd_Counts:FD K C_Counts ["length","kept_words","kept_table"])
  (cd_Pairs:CD K C_Pairs "Pairs")
  (fd_Pairs:FD K C_Pairs ["bits","counts","length","kept_table","often_least"])
  (cd_Counted:CD K C_Counted "Counted")
  (fd_Counted:FD K C_Counted ["knots","pairs","marks"])
  (bc_Heights:BC K C_Heights "Heights")
  (g0:GD K "is_whole" J1)
  (g1:GD K "is_within" Hw)
  (g2:GD K "check_bit" Ib)
  (g3:GD K "check_place" F2)
  (g4:GD K "check_stretch" Ex)
  (g5:GD K "check_knot" G1)
  (g6:GD K "ones_in" Lp)
  (g7:GD K "nth_of_four" Eo)
  (g8:GD K "nth_one" Lk)
  (g9:GD K "is_row" Nx)
  (g10:GD K "word_of" Li)
  (g11:GD K "words_of" Hc)
  (g12:GD K "signs_of" Hg)
  (g13:MD K C_Bits "__init__" "Bits.__init__" Ht)
  (g14:MD K C_Bits "size" "Bits.size" Hq)
  (g15:MD K C_Bits "words" "Bits.words" G4)
  (g16:MD K C_Bits "stretch" "Bits.stretch" Dz)
  (g17:MD K C_Bits "bit" "Bits.bit" Jr)
  (g18:GD K "first_that" Gu)
  (g19:GD K "running_sums" Fd)
  (g20:GD K "table_of_words" B5)
  (g21:MD K C_Counts "__init__" "Counts.__init__" F1)
  (g22:MD K C_Counts "ones_ahead" "Counts.ones_ahead" Cn)
  (g23:MD K C_Counts "ahead" "Counts.ahead" Fw)
  (g24:MD K C_Counts "ahead_of_block" "Counts.ahead_of_block" Bz)
  (g25:MD K C_Counts "many_like" "Counts.many_like" C0)
  (i26:PySem.W.isFn K (.ref f26)=true)
  (a26:PySem.W.findIn K (.ref C_Counts) "block_with"=some (some (.ref f26)))(l26:K.lookup f26=some ⟨oc26,od26,.func (PySem.W.fnOf "block_with" "Counts.block_with" (C4 A8) (Ch A8) (Ad A8) .none kV26 dc26 pm26 an26 (.ref 379) ct26),sl26⟩)(c26:PySem.W.codeIn K (.ref 379) "Counts.block_with"=true)(k26:PySem.W.keepIn K (.ref f26)=true)
  (lc26:K.lookup 379=some oo26)(hc26:Lr oo26 379 375)
  (g27:MD K C_Counts "place_from" "Counts.place_from" Cp)
  (g28:MD K C_Counts "place_of" "Counts.place_of" Do)
  (g29:GD K "heights_of" Gv)
  (g30:GD K "check_row" Hn)
  (g31:BD K C_Heights "__init__" "Heights.__init__" Fv)
  (g32:MD K C_Pairs "opens_ahead" "Pairs.opens_ahead" Cl)
  (g33:MD K C_Pairs "closes_ahead" "Pairs.closes_ahead" Ce)
  (g34:MD K C_Pairs "height" "Heights.height" Ed)
  (g35:MD K C_Pairs "stretch" "Pairs.stretch" Es)
  (g36:MD K C_Pairs "size" "Heights.size" Fn)
  (g37:MD K C_Pairs "text" "Heights.text" Fk)
  (g38:MD K C_Pairs "__init__" "Pairs.__init__" Cf)
  (g39:MD K C_Pairs "stretch_at" "Pairs.stretch_at" C7)
  (g40:MD K C_Pairs "begin_of" "Pairs.begin_of" Ee)
  (g41:MD K C_Pairs "parts" "Heights.parts" Dg)
  (g42:MD K C_Pairs "may_meet" "Heights.may_meet" C2)
  (g43:MD K C_Pairs "heights_within" "Heights.heights_within" Bx)
  (g44:MD K C_Pairs "next_within" "Heights.next_within" B9)
  (g45:MD K C_Pairs "last_within" "Heights.last_within" B8)
  (g46:GD K "check_height" Fj)
  (g47:MD K C_Pairs "next_at" "Heights.next_at" Dm)
  (g48:MD K C_Pairs "last_at" "Heights.last_at" Dq)
  (g49:MD K C_Pairs "is_opening" "Pairs.is_opening" C3)
  (g50:MD K C_Pairs "partner" "Heights.partner" Dn)
  (g51:MD K C_Pairs "closing" "Pairs.closing" Ev)
  (g52:GD K "look_at" Lf)
  (g53:GD K "depths_of" Hu)
  (g54:GD K "children_counted" C1)
  (g55:GD K "counted_row" En)
  (g56:GD K "thin_rest" Ia)
  (g57:GD K "marked_depths" Dh)
  (g58:MD K C_Counted "__init__" "Counted.__init__" Fl)
  (g59:MD K C_Counted "row" "Counted.row" F3)
  (g60:MD K C_Counted "stretch" "Counted.stretch" Dr)
  (g61:MD K C_Counted "behind" "Counted.behind" D0)
  (g62:MD K C_Counted "stem" "Counted.stem" Fc)
  (g63:MD K C_Counted "many_knots" "Counted.many_knots" Cd)
  (g64:MD K C_Counted "elders" "Counted.elders" Cv)
  (g65:MD K C_Counted "elder" "Counted.elder" Ew)
  (g66:MD K C_Counted "knot_of" "Counted.knot_of" Dp)
  (g67:MD K C_Counted "right" "Counted.right" Eu)
  (g68:MD K C_Counted "left" "Counted.left" Fs)
  (g69:MD K C_Counted "many" "Counted.many" Fh)
  (g70:MD K C_Counted "child" "Counted.child" Et)
  (g71:GD K "check_from_nought" Cm)
  (g72:MD K C_Counted "nth" "Wood.nth" Jk)
  (g73:MD K C_Counted "first" "Wood.first" Gw)
  (g74:GD K "_law_cell_at" F5)
  (g75:GD K "_law_twice" Id)
  (g76:GD K "_law_grown" Ic)
  (g77:GD K "_law_drawn" Hx)
  (g78:GD K "_law_repeated" Du)
  (g79:GD K "_law_wood" Jt)
  (g80:GD K "_law_walked" Gy)
  (g81:GD K "_law_under" F9)
  (g82:GD K "_law_next" Jv)
  (g83:GD K "_law_good" Jw)
  (g84:GD K "law" Sw)
  (g_ONES_OF_FOUR:PySem.W.nsIn K mainGlobals "ONES_OF_FOUR"=some (some (.ref a_ONES_OF_FOUR)))(o1_ONES_OF_FOUR:K.lookup a_ONES_OF_FOUR=some o_ONES_OF_FOUR)(o2_ONES_OF_FOUR:o_ONES_OF_FOUR.cls=.type "tuple")(o3_ONES_OF_FOUR:o_ONES_OF_FOUR.data=.seq i_ONES_OF_FOUR n_ONES_OF_FOUR)(o4_ONES_OF_FOUR:i_ONES_OF_FOUR.size<=sizeLine)(o5_ONES_OF_FOUR:A6 (Sx.map fun n:Nat=>V.int n) i_ONES_OF_FOUR.toList)
  (g_SIGNS_OF_FOUR:PySem.W.nsIn K mainGlobals "SIGNS_OF_FOUR"=some (some (.ref a_SIGNS_OF_FOUR)))(o1_SIGNS_OF_FOUR:K.lookup a_SIGNS_OF_FOUR=some o_SIGNS_OF_FOUR)(o2_SIGNS_OF_FOUR:o_SIGNS_OF_FOUR.cls=.type "tuple")(o3_SIGNS_OF_FOUR:o_SIGNS_OF_FOUR.data=.seq i_SIGNS_OF_FOUR n_SIGNS_OF_FOUR)(o4_SIGNS_OF_FOUR:i_SIGNS_OF_FOUR.size<=sizeLine)(o5_SIGNS_OF_FOUR:A6 (aP) i_SIGNS_OF_FOUR.toList)
  (g_WORD_BITS:PySem.W.nsIn K mainGlobals "WORD_BITS"=some (some (.int 32 t_WORD_BITS)))
  (g_MOST_BITS:PySem.W.nsIn K mainGlobals "MOST_BITS"=some (some (.int 20000 t_MOST_BITS)))
  (g_BLOCK_WORDS:PySem.W.nsIn K mainGlobals "BLOCK_WORDS"=some (some (.int 8 t_BLOCK_WORDS)))
  (g_BLOCK_BITS:PySem.W.nsIn K mainGlobals "BLOCK_BITS"=some (some (.int 256 t_BLOCK_BITS)))
  (g_FULL_WORD:PySem.W.nsIn K mainGlobals "FULL_WORD"=some (some (.int 4294967295 t_FULL_WORD)))
  (g_MOST_SIGNS:PySem.W.nsIn K mainGlobals "MOST_SIGNS"=some (some (.int 8192 t_MOST_SIGNS)))
  (g_STRETCH_BITS:PySem.W.nsIn K mainGlobals "STRETCH_BITS"=some (some (.int 256 t_STRETCH_BITS)))
  (g_MOST_KNOTS:PySem.W.nsIn K mainGlobals "MOST_KNOTS"=some (some (.int 4000 t_MOST_KNOTS)))
  (g_MARK_STEP:PySem.W.nsIn K mainGlobals "MARK_STEP"=some (some (.int 16 t_MARK_STEP)))
  (z_range:PySem.W.nsIn K mainGlobals "range"=some none)
  (z_len:PySem.W.nsIn K mainGlobals "len"=some none)
  (z_int:PySem.W.nsIn K mainGlobals "int"=some none)
  (z_bool:PySem.W.nsIn K mainGlobals "bool"=some none)
  (z_str:PySem.W.nsIn K mainGlobals "str"=some none)
  (z_isinstance:PySem.W.nsIn K mainGlobals "isinstance"=some none)
  (z_list:PySem.W.nsIn K mainGlobals "list"=some none)
  (z_tuple:PySem.W.nsIn K mainGlobals "tuple"=some none)
  (z_dict:PySem.W.nsIn K mainGlobals "dict"=some none)
  (z_enumerate:PySem.W.nsIn K mainGlobals "enumerate"=some none)
  (z_zip:PySem.W.nsIn K mainGlobals "zip"=some none)
  (z_sum:PySem.W.nsIn K mainGlobals "sum"=some none)
  (z_abs:PySem.W.nsIn K mainGlobals "abs"=some none)
  (z_max:PySem.W.nsIn K mainGlobals "max"=some none)
  (z_min:PySem.W.nsIn K mainGlobals "min"=some none)
  (z_reversed:PySem.W.nsIn K mainGlobals "reversed"=some none)
  : ∃ fd:FuncData,(∀ (s:Shared) (v:Value),BindsTo s fd ⟨[v],[]⟩ [("_law_script",v)])/\∀ base:Heap,K.In base->base.Ns mainGlobals mg->(∀ q∈([(379,375)]:List (Addr×Addr)),base.BuiltinsAt mg q.2)->Ax l.prog w K mg base CX0 16 fa fd ["_law_script"] (aH K [⟨375,Ak,"Counts.block_with.<locals>.<lambda>"⟩]):=by
 obtain ⟨f84,d84,F84,a84⟩:=g84
 obtain ⟨_,_,kV84,dc84,pm84,an84,cd84,ct84,_,rfl,_,_⟩:=F84.ex
 have e:=hfa.symm.trans (PySem.W.mg_of X G a84)
 cases e
 have q_ONES_OF_FOUR:∀ H,SqT K H a_ONES_OF_FOUR (Sx.map fun n:Nat=>V.int n):=fun H=>.inr ⟨o_ONES_OF_FOUR,i_ONES_OF_FOUR,n_ONES_OF_FOUR,o1_ONES_OF_FOUR,o2_ONES_OF_FOUR,o3_ONES_OF_FOUR,o4_ONES_OF_FOUR,o5_ONES_OF_FOUR⟩
 have q_SIGNS_OF_FOUR:∀ H,SqT K H a_SIGNS_OF_FOUR (aP):=fun H=>.inr ⟨o_SIGNS_OF_FOUR,i_SIGNS_OF_FOUR,n_SIGNS_OF_FOUR,o1_SIGNS_OF_FOUR,o2_SIGNS_OF_FOUR,o3_SIGNS_OF_FOUR,o4_SIGNS_OF_FOUR,o5_SIGNS_OF_FOUR⟩
 have T:Txt K mg a_ONES_OF_FOUR a_SIGNS_OF_FOUR:=⟨PySem.W.mg_of X G g_ONES_OF_FOUR,q_ONES_OF_FOUR,PySem.W.mg_of X G g_SIGNS_OF_FOUR,q_SIGNS_OF_FOUR,⟨_,PySem.W.mg_of X G g_WORD_BITS⟩,⟨_,PySem.W.mg_of X G g_MOST_BITS⟩,⟨_,PySem.W.mg_of X G g_BLOCK_WORDS⟩,⟨_,PySem.W.mg_of X G g_BLOCK_BITS⟩,⟨_,PySem.W.mg_of X G g_FULL_WORD⟩,⟨_,PySem.W.mg_of X G g_MOST_SIGNS⟩,⟨_,PySem.W.mg_of X G g_STRETCH_BITS⟩,⟨_,PySem.W.mg_of X G g_MOST_KNOTS⟩,⟨_,PySem.W.mg_of X G g_MARK_STEP⟩,PySem.W.mg_none_of X G z_range,PySem.W.mg_none_of X G z_len,PySem.W.mg_none_of X G z_int,PySem.W.mg_none_of X G z_bool,PySem.W.mg_none_of X G z_str,PySem.W.mg_none_of X G z_isinstance,PySem.W.mg_none_of X G z_list,PySem.W.mg_none_of X G z_tuple,PySem.W.mg_none_of X G z_dict,PySem.W.mg_none_of X G z_enumerate,PySem.W.mg_none_of X G z_zip,PySem.W.mg_none_of X G z_sum,PySem.W.mg_none_of X G z_abs,PySem.W.mg_none_of X G z_max,PySem.W.mg_none_of X G z_min,PySem.W.mg_none_of X G z_reversed⟩
 have Qh:Qh K C_Bits:=⟨fd_Bits.cl,fd_Bits.no 0,fd_Bits.no 1,fd_Bits.no 2⟩
 have Qc:Qc K C_Counts:=⟨fd_Counts.cl,fd_Counts.no 0,fd_Counts.no 1,fd_Counts.no 2⟩
 have Qb:Qb K C_Pairs:=⟨fd_Pairs.cl,fd_Pairs.no 0,fd_Pairs.no 1,fd_Pairs.no 2,fd_Pairs.no 3,fd_Pairs.no 4⟩
 have Qa:Qa K C_Counted:=⟨fd_Counted.cl,fd_Counted.no 0,fd_Counted.no 1,fd_Counted.no 2⟩
 have F26:=oV (st:=A8) l26 c26 k26 lc26 hc26
 have b26:=F26.binds (ps:=["self","bit","nth"]) fun _ _ _ _ _ _=>us3 fun _ _ _=>rfl
 refine ⟨PySem.W.fnOf "law" "law" (C4 Sw) (Ch Sw) (Ad Sw) .none kV84 dc84 pm84 an84 cd84 ct84,fun s v=>.of_eq rfl,fun base hK _ hB=>?_⟩
 have V0:=GD.cal (P:=l.prog) (w:=w) (base:=base) (sp:=Ij) X G g0 fun F=>bE F T
 have V1:=GD.cal (P:=l.prog) (w:=w) (base:=base) (sp:=Ih) X G g1 fun F=>X4 F T V0
 have V2:=GD.cal (P:=l.prog) (w:=w) (base:=base) (sp:=Xp) X G g2 fun F=>Xe F T V1
 have V3:=GD.cal (P:=l.prog) (w:=w) (base:=base) (sp:=Gj) X G g3 fun F=>Tf F T V1
 have V4:=GD.cal (P:=l.prog) (w:=w) (base:=base) (sp:=eB) X G g4 fun F=>Oi F T V3
 have V5:=GD.cal (P:=l.prog) (w:=w) (base:=base) (sp:=Mt) X G g5 fun F=>Tr F T V1
 have V6:=GD.cal (P:=l.prog) (w:=w) (base:=base) (sp:=Sj) X G g6 fun F=>dP F T
 have V7:=GD.cal (P:=l.prog) (w:=w) (base:=base) (sp:=cW) X G g7 fun F=>Se F T
 have V8:=GD.cal (P:=l.prog) (w:=w) (base:=base) (sp:=jT) X G g8 fun F=>eM F T V7
 have V9:=GD.cal (P:=l.prog) (w:=w) (base:=base) (sp:=Vh) X G g9 fun F=>gQ F T
 have V10:=GD.cal (P:=l.prog) (w:=w) (base:=base) (sp:=eL) X G g10 fun F=>dN F T
 have V11:=GD.cal (P:=l.prog) (w:=w) (base:=base) (sp:=(Vm K)) X G g11 fun F=>aB F T V10
 have V12:=GD.cal (P:=l.prog) (w:=w) (base:=base) (sp:=(N1 K)) X G g12 fun F=>bA F T
 have V13:=MD.mkr (P:=l.prog) (w:=w) (base:=base) (sp:=(Mb K C_Bits)) X G cd_Bits g13 fun F=>Yt F T Qh V9 V11
 have V14:=MD.mth (P:=l.prog) (w:=w) (base:=base) (sp:=(L9 K C_Bits)) Qh.cl g14 fun F=>Yu F T Qh
 have V15:=MD.mth (P:=l.prog) (w:=w) (base:=base) (sp:=(Kx K C_Bits)) Qh.cl g15 fun F=>Yo F T Qh
 have V16:=MD.mth (P:=l.prog) (w:=w) (base:=base) (sp:=(N9 K C_Bits)) Qh.cl g16 fun F=>W7 F T Qh V4 V12
 have V17:=MD.mth (P:=l.prog) (w:=w) (base:=base) (sp:=(nN K C_Bits)) Qh.cl g17 fun F=>Yw F T Qh V3
 have V18:=GD.cal (P:=l.prog) (w:=w) (base:=base) (sp:=(M3 l.prog w K mg base 2)) X G g18 fun F=>Ts F T
 have V19:=GD.cal (P:=l.prog) (w:=w) (base:=base) (sp:=kC) X G g19 fun F=>Pe F T
 have V20:=GD.cal (P:=l.prog) (w:=w) (base:=base) (sp:=(Y9 K)) X G g20 fun F=>M1 F T V6 V19
 have V21:=MD.mkr (P:=l.prog) (w:=w) (base:=base) (sp:=(Ju K C_Bits C_Counts)) X G cd_Counts g21 fun F=>Ym F T Qc V14 V15 V20
 have V22:=MD.mth (P:=l.prog) (w:=w) (base:=base) (sp:=(Kv K C_Counts)) Qc.cl g22 fun F=>Q7 F T Qc V6
 have V23:=MD.mth (P:=l.prog) (w:=w) (base:=base) (sp:=(Px K C_Counts)) Qc.cl g23 fun F=>Yd F T Qc V2 V3 V22
 have V24:=MD.mth (P:=l.prog) (w:=w) (base:=base) (sp:=(Fu K C_Counts)) Qc.cl g24 fun F=>Qz F T Qc
 have V25:=MD.mth (P:=l.prog) (w:=w) (base:=base) (sp:=(Ma K C_Counts)) Qc.cl g25 fun F=>Wg F T Qc V24
 have V26:Mth l.prog w K mg base C_Counts "block_with" 4 ["self","bit","nth"] (Lc K C_Counts [⟨375,Ak,"Counts.block_with.<locals>.<lambda>"⟩]):=⟨⟨f26,_,Q6 F26 T hK (hB (379,375) (by simp)) List.mem_cons_self Qc V24 V18,b26,⟨a26,i26,k26⟩⟩,Qc.cl⟩
 have V27:=MD.mth (P:=l.prog) (w:=w) (base:=base) (sp:=(K4 K C_Counts)) Qc.cl g27 fun F=>Q8 F T Qc V6 V8
 have V28:=MD.mth (P:=l.prog) (w:=w) (base:=base) (sp:=(Oh K C_Counts [⟨375,Ak,"Counts.block_with.<locals>.<lambda>"⟩])) Qc.cl g28 fun F=>Wn F T Qc V2 V3 V24 V25 V26 V27
 have V29:=GD.cal (P:=l.prog) (w:=w) (base:=base) (sp:=Jj) X G g29 fun F=>Tv F T
 have V30:=GD.cal (P:=l.prog) (w:=w) (base:=base) (sp:=Y6) X G g30 fun F=>Xb F T
 have V31:=BD.calC (P:=l.prog) (w:=w) (base:=base) (sp:=(Xi K C_Pairs)) X G bc_Heights g31 fun F=>Ye F T Qb
 have V32:=MD.mth (P:=l.prog) (w:=w) (base:=base) (sp:=(Y3 K C_Counts C_Pairs)) Qb.cl g32 fun F=>Q9 F T Qb V23
 have V33:=MD.mth (P:=l.prog) (w:=w) (base:=base) (sp:=(Nj K C_Counts C_Pairs)) Qb.cl g33 fun F=>Q4 F T Qb V23
 have V34:=MD.mth (P:=l.prog) (w:=w) (base:=base) (sp:=(Ix K C_Counts C_Pairs)) Qb.cl g34 fun F=>Wu F T Qb V32
 have V35:=MD.mth (P:=l.prog) (w:=w) (base:=base) (sp:=(J5 K C_Bits C_Pairs)) Qb.cl g35 fun F=>W3 F T Qb V16
 have V36:=MD.mth (P:=l.prog) (w:=w) (base:=base) (sp:=(fM K C_Bits C_Counts C_Pairs)) Qb.cl g36 fun F=>Yg F T Qb
 have V37:=MD.mth (P:=l.prog) (w:=w) (base:=base) (sp:=(Xg K C_Bits C_Counts C_Pairs)) Qb.cl g37 fun F=>Yh F T Qb V35
 have V38:=MD.mkr (P:=l.prog) (w:=w) (base:=base) (sp:=(Yz K C_Bits C_Counts C_Pairs)) X G cd_Pairs g38 fun F=>Yp F T Qb V30 V13 V21 V34 V29 V31
 have V39:=MD.mth (P:=l.prog) (w:=w) (base:=base) (sp:=Hs) Qb.cl g39 fun F=>Wj F T Qb
 have V40:=MD.mth (P:=l.prog) (w:=w) (base:=base) (sp:=(Oj K C_Bits C_Counts C_Pairs)) Qb.cl g40 fun F=>Wv F T Qb
 have V41:=MD.mth (P:=l.prog) (w:=w) (base:=base) (sp:=(P2 K C_Bits C_Counts C_Pairs)) Qb.cl g41 fun F=>W1 F T Qb V39 V40
 have V42:=MD.mth (P:=l.prog) (w:=w) (base:=base) (sp:=(Le K C_Bits C_Counts C_Pairs)) Qb.cl g42 fun F=>Wh F T Qb V39
 have V43:=MD.mth (P:=l.prog) (w:=w) (base:=base) (sp:=(Lh K C_Bits C_Counts C_Pairs)) Qb.cl g43 fun F=>Qx F T Qb V29 V35 V34
 have V44:=MD.mth (P:=l.prog) (w:=w) (base:=base) (sp:=(Vb K C_Bits C_Counts C_Pairs)) Qb.cl g44 fun F=>Q1 F T Qb V43
 have V45:=MD.mth (P:=l.prog) (w:=w) (base:=base) (sp:=(Va K C_Bits C_Counts C_Pairs)) Qb.cl g45 fun F=>Q0 F T Qb V43
 have V46:=GD.cal (P:=l.prog) (w:=w) (base:=base) (sp:=Vz) X G g46 fun F=>Pc F T V0
 have V47:=MD.mth (P:=l.prog) (w:=w) (base:=base) (sp:=(Nw K C_Bits C_Counts C_Pairs)) Qb.cl g47 fun F=>Wp F T Qb V3 V46 V41 V42 V44
 have V48:=MD.mth (P:=l.prog) (w:=w) (base:=base) (sp:=(Sv K C_Bits C_Counts C_Pairs)) Qb.cl g48 fun F=>Wo F T Qb V3 V46 V41 V42 V45
 have V49:=MD.mth (P:=l.prog) (w:=w) (base:=base) (sp:=(K5 K C_Bits C_Counts C_Pairs)) Qb.cl g49 fun F=>Wi F T Qb V17
 have V50:=MD.mth (P:=l.prog) (w:=w) (base:=base) (sp:=(Ln K C_Bits C_Counts C_Pairs)) Qb.cl g50 fun F=>Wq F T Qb V49 V47 V34 V48
 have V51:=MD.mth (P:=l.prog) (w:=w) (base:=base) (sp:=(G7 K C_Bits C_Counts C_Pairs [⟨375,Ak,"Counts.block_with.<locals>.<lambda>"⟩])) Qb.cl g51 fun F=>W2 F T Qb V28
 have V52:=GD.cal (P:=l.prog) (w:=w) (base:=base) (sp:=eE) X G g52 fun F=>bV F T V0
 have V53:=GD.cal (P:=l.prog) (w:=w) (base:=base) (sp:=Rq) X G g53 fun F=>Y4 F T
 have V54:=GD.cal (P:=l.prog) (w:=w) (base:=base) (sp:=Mc) X G g54 fun F=>Ls F T
 have V55:=GD.cal (P:=l.prog) (w:=w) (base:=base) (sp:=Ra) X G g55 fun F=>Td F T
 have V56:=GD.cal (P:=l.prog) (w:=w) (base:=base) (sp:=cO) X G g56 fun F=>Xu F T
 have V57:=GD.cal (P:=l.prog) (w:=w) (base:=base) (sp:=Sl) X G g57 fun F=>Oq F T V53 V56
 have V58:=MD.mkr (P:=l.prog) (w:=w) (base:=base) (sp:=(Ps K C_Bits C_Counts C_Pairs C_Counted)) X G cd_Counted g58 fun F=>W8 F T Qa V52 V38 V55 V54 V57
 have V59:=MD.mth (P:=l.prog) (w:=w) (base:=base) (sp:=(U8 K C_Bits C_Counts C_Pairs C_Counted)) Qa.cl g59 fun F=>Yl F T Qa V37
 have V60:=MD.mth (P:=l.prog) (w:=w) (base:=base) (sp:=(Js K C_Bits C_Counts C_Pairs C_Counted [⟨375,Ak,"Counts.block_with.<locals>.<lambda>"⟩])) Qa.cl g60 fun F=>Wm F T Qa V5 V51 V47 V34
 have V61:=MD.mth (P:=l.prog) (w:=w) (base:=base) (sp:=(Ro K C_Bits C_Counts C_Pairs C_Counted [⟨375,Ak,"Counts.block_with.<locals>.<lambda>"⟩])) Qa.cl g61 fun F=>Ws F T Qa V60
 have V62:=MD.mth (P:=l.prog) (w:=w) (base:=base) (sp:=(Rw K C_Bits C_Counts C_Pairs C_Counted [⟨375,Ak,"Counts.block_with.<locals>.<lambda>"⟩])) Qa.cl g62 fun F=>Yc F T Qa V5 V50 V51
 have V63:=MD.mth (P:=l.prog) (w:=w) (base:=base) (sp:=(Sz K C_Bits C_Counts C_Pairs C_Counted)) Qa.cl g63 fun F=>Q3 F T Qa
 have V64:=MD.mth (P:=l.prog) (w:=w) (base:=base) (sp:=(Oo K C_Bits C_Counts C_Pairs C_Counted)) Qa.cl g64 fun F=>Wt F T Qa V59
 have V65:=MD.mth (P:=l.prog) (w:=w) (base:=base) (sp:=(P1 K C_Bits C_Counts C_Pairs C_Counted [⟨375,Ak,"Counts.block_with.<locals>.<lambda>"⟩])) Qa.cl g65 fun F=>Wz F T Qa V33 V62
 have V66:=MD.mth (P:=l.prog) (w:=w) (base:=base) (sp:=(K9 K C_Bits C_Counts C_Pairs C_Counted)) Qa.cl g66 fun F=>Wl F T Qa V33 V50
 have V67:=MD.mth (P:=l.prog) (w:=w) (base:=base) (sp:=(Nc K C_Bits C_Counts C_Pairs C_Counted [⟨375,Ak,"Counts.block_with.<locals>.<lambda>"⟩])) Qa.cl g67 fun F=>W0 F T Qa V62 V66 V49
 have V68:=MD.mth (P:=l.prog) (w:=w) (base:=base) (sp:=(Xd K C_Bits C_Counts C_Pairs C_Counted [⟨375,Ak,"Counts.block_with.<locals>.<lambda>"⟩])) Qa.cl g68 fun F=>W9 F T Qa V62 V66 V49
 have V69:=MD.mth (P:=l.prog) (w:=w) (base:=base) (sp:=(Vx K C_Bits C_Counts C_Pairs C_Counted [⟨375,Ak,"Counts.block_with.<locals>.<lambda>"⟩])) Qa.cl g69 fun F=>Yb F T Qa V5 V51
 have V70:=MD.mth (P:=l.prog) (w:=w) (base:=base) (sp:=(Ru K C_Bits C_Counts C_Pairs C_Counted [⟨375,Ak,"Counts.block_with.<locals>.<lambda>"⟩])) Qa.cl g70 fun F=>Wy F T Qa V66 V51
 have V71:=GD.cal (P:=l.prog) (w:=w) (base:=base) (sp:=N4) X G g71 fun F=>Ku F T V0
 have V72:=MD.mth (P:=l.prog) (w:=w) (base:=base) (sp:=(bT K C_Bits C_Counts C_Pairs C_Counted [⟨375,Ak,"Counts.block_with.<locals>.<lambda>"⟩])) Qa.cl g72 fun F=>Yx F T Qa V69 V71 V70
 have V73:=MD.mth (P:=l.prog) (w:=w) (base:=base) (sp:=(Sr K C_Bits C_Counts C_Pairs C_Counted [⟨375,Ak,"Counts.block_with.<locals>.<lambda>"⟩])) Qa.cl g73 fun F=>Yq F T Qa V72
 have V74:=GD.cal (P:=l.prog) (w:=w) (base:=base) (sp:=(Vw K)) X G g74 fun F=>Rj F T
 have V75:=GD.cal (P:=l.prog) (w:=w) (base:=base) (sp:=Ve) X G g75 fun F=>X2 F T
 have V76:=GD.cal (P:=l.prog) (w:=w) (base:=base) (sp:=Y5) X G g76 fun F=>X0 F T
 have V77:=GD.cal (P:=l.prog) (w:=w) (base:=base) (sp:=(Y2 K)) X G g77 fun F=>Y7 F T V74 V75
 have V78:=GD.cal (P:=l.prog) (w:=w) (base:=base) (sp:=jV) X G g78 fun F=>Pf F T
 have V79:=GD.cal (P:=l.prog) (w:=w) (base:=base) (sp:=(Vg K)) X G g79 fun F=>aU F T V74 V76 V77 V78
 have V80:=GD.cal (P:=l.prog) (w:=w) (base:=base) (sp:=(S4 K C_Bits C_Counts C_Pairs C_Counted [⟨375,Ak,"Counts.block_with.<locals>.<lambda>"⟩])) X G g80 fun F=>Tx F T Qa V67 V68 V73 V65
 have V81:=GD.cal (P:=l.prog) (w:=w) (base:=base) (sp:=X8) X G g81 fun F=>Xh F T
 have V82:=GD.cal (P:=l.prog) (w:=w) (base:=base) (sp:=(cJ K C_Bits C_Counts C_Pairs C_Counted [⟨375,Ak,"Counts.block_with.<locals>.<lambda>"⟩])) X G g82 fun F=>aR F T Qa V67 V65 V63
 have V83:=GD.cal (P:=l.prog) (w:=w) (base:=base) (sp:=(Xw K C_Bits C_Counts C_Pairs C_Counted [⟨375,Ak,"Counts.block_with.<locals>.<lambda>"⟩])) X G g83 fun F=>Z9 F T Qa V81 V60 V58 V59 V64 V61 V82
 exact tT F84 T Qa V79 V58 V80 V83
end TK
theorem PySem.Challenge.cw_tightwood_k55_whole_each_stretch_a_wood_holds : PySem.Challenge.rw_tightwood_k55_whole_each_stretch_a_wood.Holds :=
 TK.HEAD @TK.all_mk
#print axioms PySem.Challenge.cw_tightwood_k55_whole_each_stretch_a_wood_holds
