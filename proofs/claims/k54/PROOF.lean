import PyProof.Rows.All
import Wide.All
import OpenK.AllK
import Wide.FinOn
import Lean
import PyProof.EqAt
import PyProof.EqKinds
import PyProof.TupleCall
import KE.KDictOf
import KE.KLam
import KE.KNest
import KE.KNestM
import KE.KRevIter
import KE.KSortKey
import KE.KSortTup
import KE.KTryMore
import OpenK.KCls
import PyProof.AttrMissHeap
import PyProof.Draws
import PyProof.EnumMake
import PyProof.EnumStmt
import PyProof.FactsAll.list
import PyProof.InstStoreFacts
import PyProof.IsiH_list
import PyProof.ListNew
import PyProof.ListRange
import PyProof.ObjNew
import PyProof.Rows.StrItems
import PyProof.Rows.StrSplitAre
import PyProof.SliceList
import PyProof.StrBlockL
import PyProof.StrCalls2
import PyProof.StrLawsChain
import PyProof.StrLawsIn
import PyProof.WalksEnum
import PyProof.ZipIter
import PySem.Challenge.RW_tightwood_k54_refused_by_counts
set_option Elab.async false
set_option linter.all false
set_option maxRecDepth 100000
set_option maxHeartbeats 4000000
open PySem.W (instObj hideAll of_hideAll lookIn kitOne kia_one callWith_K exmOne kitAny CodeHd kla_obj mg_none_of)
namespace L2
open PySem PySem.Spec PyProof.Rows
abbrev Key:=Sum Int Str
def eL:Key->Value->Bool
 | .inl k,v=>Value.isInt k v
 | .inr x,v=>Value.isStrOf x v
def xU (w:World):Key->Int
 | .inl k=>hashInt k
 | .inr x=>hashStr w x
theorem Cg:∀ {k:Key} {v:Value},eL k v=true->(∃ i t,k=Sum.inl i/\v=Value.int i t)\/(∃ x t,k=Sum.inr x/\v=Value.str x t)
 | .inl i,v,h=>by
  obtain ⟨t,e⟩:=Value.isInt_shape (k:=i) (v:=v) h
  exact .inl ⟨i,t,rfl,e⟩
 | .inr x,v,h=>by
  obtain ⟨t,e⟩:=Value.isStrOf_shape (x:=x) (v:=v) h
  exact .inr ⟨x,t,rfl,e⟩
theorem gR (i:Int)(t:Tok):eL (.inl i) (.int i t)=true:=by simp [eL,Value.isInt]
theorem sX (a b:Int):decide ((Sum.inl a:Key)=Sum.inl b)=(a==b):=by
 by_cases e:a=b
 ·subst e;simp
 ·have h:¬ (Sum.inl a:Key)=Sum.inl b:=fun q=>e (Sum.inl.inj q)
  rw [decide_eq_false h]
  exact (beq_eq_false_iff_ne.mpr e).symm
theorem rV (a b:Str):decide ((Sum.inr a:Key)=Sum.inr b)=decide (a=b):=by
 by_cases e:a=b
 ·subst e;simp
 ·have h:¬ (Sum.inr a:Key)=Sum.inr b:=fun q=>e (Sum.inr.inj q)
  rw [decide_eq_false h,decide_eq_false e]
theorem uE (a:Int)(b:Str):decide ((Sum.inl a:Key)=Sum.inr b)=false:=decide_eq_false (fun q=>nomatch q)
theorem tG (a:Str)(b:Int):decide ((Sum.inr a:Key)=Sum.inl b)=false:=decide_eq_false (fun q=>nomatch q)
def F4 (prog:Program)(w:World):PySem.KeyKind prog w Key where
 is:=eL
 hash:=xU w
 inj:=fun v a b ha hb=>by
  rcases Cg ha with ⟨i,t,rfl,rfl⟩ | ⟨x,t,rfl,rfl⟩
  ·rcases Cg hb with ⟨j,u,rfl,e⟩ | ⟨y,u,rfl,e⟩
   ·injection e with e1 _;rw [e1]
   ·exact nomatch e
  ·rcases Cg hb with ⟨j,u,rfl,e⟩ | ⟨y,u,rfl,e⟩
   ·exact nomatch e
   ·injection e with e1 _;rw [e1]
 byValue:=fun k v h=>by
  rcases Cg h with ⟨i,t,rfl,rfl⟩ | ⟨x,t,rfl,rfl⟩<;>rfl
 pyHash:=fun hv h=>by
  rcases Cg hv with ⟨i,t,rfl,rfl⟩ | ⟨x,t,rfl,rfl⟩
  ·exact wpAny_pyHash_int h
  ·exact wpAny_pyHash_str h
 eqBool:=fun hu hv h=>by
  rcases Cg hu with ⟨i,t,rfl,rfl⟩ | ⟨x,t,rfl,rfl⟩
  ·rcases Cg hv with ⟨j,u,rfl,rfl⟩ | ⟨y,u,rfl,rfl⟩
   ·rw [sX] at h;exact wpAny_eqBool_int h
   ·rw [uE] at h;exact SeqAt.EqAt.int_str i t y u _ _ _ _ h
  ·rcases Cg hv with ⟨j,u,rfl,rfl⟩ | ⟨y,u,rfl,rfl⟩
   ·rw [tG] at h;exact SeqAt.EqAt.str_int x t j u _ _ _ _ h
   ·rw [rV] at h;exact wpAny_eqBool_str h
 «strs»:=fun k x t v h=>by
  rcases Cg h with ⟨i,u,rfl,e⟩ | ⟨y,u,rfl,e⟩
  ·exact nomatch e
  ·injection e with e1 _
   subst e1
   cases v<;>rfl
theorem Xi (prog:Program)(w:World)(i:Int)(t:Tok):(F4 prog w).is (.inl i) (.int i t)=true:=gR i t
inductive V where
 | non | bl (b:Bool) | int (i:Int) | str (x:Str) | byt (b:Array UInt8) | flt (b:UInt64) | ref (a:Addr) | ty (n:String)
 deriving DecidableEq
def Bc:V->Value->Prop
 | .non,u=>u=Value.none
 | .bl b,u=>u=Value.bool b
 | .int i,u=>∃ t,u=Value.int i t
 | .str x,u=>∃ t,u=Value.str x t
 | .byt b,u=>∃ t,u=Value.bytes b t
 | .flt b,u=>∃ t,u=Value.float b t
 | .ref a,u=>u=Value.ref a
 | .ty n,u=>u=Value.type n
abbrev A0:List V->List Value->Prop:=Paired Bc
theorem A0.length {xs:List V}{us:List Value}(r:A0 xs us):xs.length=us.length:=Paired.length r
theorem A0.get:∀ {xs:List V} {us:List Value} {i:Nat} {x:V},A0 xs us->xs[i]?=some x->∃ u,us[i]?=some u/\Bc x u
 | _,_,_,_,.nil,e=>by simp at e
 | _,_,0,_,.cons r _,e=>by simp at e;subst e;exact ⟨_,rfl,r⟩
 | _,_,i+1,x,.cons _ t,e=>by
  obtain ⟨u,h1,h2⟩:=A0.get (i:=i) (x:=x) t (by simpa using e)
  exact ⟨u,by simpa using h1,h2⟩
theorem A0.set {x:V}{u:Value}(r:Bc x u):∀ {xs:List V} {us:List Value} (i:Nat),A0 xs us->A0 (xs.set i x) (us.set i u)
 | _,_,_,.nil=>.nil
 | _,_,0,.cons _ t=>.cons r t
 | _,_,i+1,.cons q t=>.cons q (A0.set r i t)
theorem A0.append:∀ {xs ys:List V} {us ws:List Value},A0 xs us->A0 ys ws->A0 (xs++ys) (us++ws)
 | _,_,_,_,.nil,s=>s
 | _,_,_,_,.cons r t,s=>.cons r (A0.append t s)
theorem A0.take:∀ {xs:List V} {us:List Value} (n:Nat),A0 xs us->A0 (xs.take n) (us.take n)
 | _,_,0,_=>.nil
 | _,_,_+1,.nil=>.nil
 | _,_,n+1,.cons r t=>.cons r (A0.take n t)
theorem A0.drop:∀ {xs:List V} {us:List Value} (n:Nat),A0 xs us->A0 (xs.drop n) (us.drop n)
 | _,_,0,r=>r
 | _,_,_+1,.nil=>.nil
 | _,_,n+1,.cons _ t=>A0.drop n t
def Ot:Option V->Option Value->Prop
 | some v,some u=>Bc v u
 | none,none=>True
 | _,_=>False
def KV {κ:Type}:List (κ×V)->List (κ×Value)->Prop:=Paired fun (p:κ×V) (q:κ×Value)=>p.1=q.1/\Bc p.2 q.2
def kV:Key->V
 | .inl i=>.int i
 | .inr x=>.str x
inductive HO where
  | lst (xs:List V)
  | tup (xs:List V)
  | dK (kvs:List (Key×V)) | dT (kvs:List (List Key×V))
  | set (S:Int->Bool) (n:Nat)
  | ins (C dx:Addr) (fs:List (Str×V))
  | own (x:Addr)
  | xd (fs:List (Str×V))
  | met (f x:Addr)
  | rng (lo hi:Int)
  | frz (o:Obj) (u:HO)
  | tbl (ps:Array Value)
  | ext (φ:Heap->Prop)
abbrev Hp:=Addr->Option HO
def upd (H:Hp)(a:Addr)(o:HO):Hp:=fun b=>if b=a then some o else H b
theorem Ac {H:Hp}{a:Addr}{o:HO}:upd H a o a=some o:=by unfold upd;rw [if_pos rfl]
theorem Al {H:Hp}{a b:Addr}{o:HO}(h:b≠a):upd H a o b=H b:=by unfold upd;rw [if_neg h]
theorem O9 {H:Hp}{a:Addr}{o u:HO}:upd (upd H a o) a u=upd H a u:=by
 funext b;unfold upd;split<;>rfl
theorem Rz {H:Hp}{a b:Addr}{o u:HO}(h:H a=some o)(h':H b=some u)(d:o≠u):a≠b:=by
 intro e;subst e;rw [h] at h';exact d (Option.some.inj h')
theorem Aq {H:Hp}{a b:Addr}{o:HO}(h:H a=some o)(h':H b=none):a≠b:=by
 intro e;subst e;rw [h] at h';cases h'
section
variable (P:Program) (w:World)
def B3 (H:Hp)(h:Heap)(a:Addr):HO->Prop
 | .lst xs=>xs.length<=sizeLine/\∃ (its:List Value) (n:Nat),A0 xs its/\h.get? a=some { cls:=.type "list",data:=.seq its.toArray n }
 | .tup xs=>xs.length<=sizeLine/\∃ its:List Value,A0 xs its/\IsTup h a its.toArray
 | .dK kvs=>kvs.length<=sizeLine/\(a==sysModules)=false/\∃ vs,KV kvs vs/\h.DictOf (F4 P w) a vs
 | .dT kvs=>kvs.length<=sizeLine/\(a==sysModules)=false/\∃ xs:List (List Key×Addr×Value),
   Paired (fun (p:List Key×V) (q:List Key×Addr×Value)=>p.1=q.1/\H q.2.1=some (.tup (p.1.map kV))/\Bc p.2 q.2.2) kvs xs /\
   ∃ o es ep,h.get? a=some o/\o.ExactDict/\o.data=.dict es ep/\es.toList=xs.map (entryOfKey (tupleKind (F4 P w)))/\(xs.map (·.1)).Nodup
 | .set S n=>h.SetOf (intKind P w) a S n
 | .ins C dx fs=>H dx=some (.own a)/\fs.length<=1000/\dx≠a/\h.get? a=some (instObj C dx) /\
   ∃ mA,h.Ns1 dx mA/\(∀ f,Ot (fs.lookup f) (mA f))/\PySem.Within mA (fs.map (·.1))
 | .own _=>∃ o,h.get? a=some o
 | .xd fs=>∃ mA,h.Ns1 a mA/\∀ f,Ot (fs.lookup f) (mA f)
 | .rng lo hi=>∃ t u v,h.get? a=some { cls:=.type "range",data:=.fields #[.int lo t,.int hi u,.int 1 v] }
 | .frz o u=>h.get? a=some o/\B3 H h a u
 | .tbl ps=>h.get? a=some { cls:=.none,data:=.fields ps }
 | .met f x=>h.get? a=some (PySem.W.methodObj (.ref f) (.ref x))
 | .ext φ=>φ h/\(∃ o,h.get? a=some o)/\∀ h1 h2:Heap,φ h1->(∀ o,h1.get? a=some o->h2.get? a=some o)->φ h2
def HOk (H:Hp)(h:Heap):Prop:=∀ a o,H a=some o->B3 P w H h a o
end
section
variable {P:Program} {w:World} {H H':Hp} {h h':Heap} {a:Addr} {o:HO}
theorem B3.lt (x:B3 P w H h a o):a<h.objs.size:=by
 cases o with
 | lst xs=>obtain ⟨_,_,_,_,e⟩:=x;exact Heap.lt_size e
 | tup xs=>obtain ⟨_,_,_,p⟩:=x;exact p.lt
 | dK kvs=>obtain ⟨_,_,_,_,o,_,_,e,_⟩:=x;exact Heap.lt_size e
 | dT kvs=>obtain ⟨_,_,_,_,o,_,_,e,_⟩:=x;exact Heap.lt_size e
 | set S n=>obtain ⟨o,_,_,_,e,_⟩:=x;exact Heap.lt_size e
 | ins C dx fs=>obtain ⟨_,_,_,e,_⟩:=x;exact Heap.lt_size e
 | own y=>obtain ⟨_,e⟩:=x;exact Heap.lt_size e
 | xd fs=>obtain ⟨_,⟨_,_,_,e,_⟩,_⟩:=x;exact Heap.lt_size e
 | rng lo hi=>obtain ⟨_,_,_,e⟩:=x;exact Heap.lt_size e
 | frz ob u=>obtain ⟨e,_⟩:=x;exact Heap.lt_size e
 | tbl ps=>exact Heap.lt_size (show h.get? a=some _ from x)
 | met f y=>exact Heap.lt_size (show h.get? a=some _ from x)
 | ext φ=>obtain ⟨_,⟨_,e⟩,_⟩:=x;exact Heap.lt_size e
theorem Paired.mapP {α β:Type}{F G:α->β->Prop}:∀ {l₁:List α} {l₂:List β},Paired F l₁ l₂->(∀ a b,F a b->G a b)->Paired G l₁ l₂
 | _,_,.nil,_=>.nil
 | _,_,.cons r t,f=>.cons (f _ _ r) (Paired.mapP t f)
theorem B3.stay (x:B3 P w H h a o)(k:∀ b u,(b=a\/H b=some (.own a))->h.get? b=some u->h'.get? b=some u)
  (ho:∀ b,H b=some (.own a)->H' b=some (.own a))(ht:∀ b xs,H b=some (.tup xs)->H' b=some (.tup xs)):B3 P w H' h' a o:=by
 induction o with
 | lst xs=>obtain ⟨z,its,n,r,e⟩:=x;exact ⟨z,its,n,r,k _ _ (.inl rfl) e⟩
 | tup xs=>obtain ⟨z,its,r,ob,e,c⟩:=x;exact ⟨z,its,r,ob,k _ _ (.inl rfl) e,c⟩
 | dK kvs=>obtain ⟨z,y,vs,r,ob,es,ep,e,c⟩:=x;exact ⟨z,y,vs,r,ob,es,ep,k _ _ (.inl rfl) e,c⟩
 | dT kvs =>
  obtain ⟨z,y,xs,r,ob,es,ep,e,c⟩:=x
  exact ⟨z,y,xs,Paired.mapP r fun p q z=>⟨z.1,ht _ _ z.2.1,z.2.2⟩,ob,es,ep,k _ _ (.inl rfl) e,c⟩
 | set S n=>obtain ⟨ob,es,ep,t,e,c⟩:=x;exact ⟨ob,es,ep,t,k _ _ (.inl rfl) e,c⟩
 | ins C dx fs =>
  obtain ⟨d,z,ne,e,mA,⟨od,es,ep,e2,c⟩,r⟩:=x
  exact ⟨ho _ d,z,ne,k _ _ (.inl rfl) e,mA,⟨od,es,ep,k _ _ (.inr d) e2,c⟩,r⟩
 | own y=>obtain ⟨ob,e⟩:=x;exact ⟨ob,k _ _ (.inl rfl) e⟩
 | xd fs=>obtain ⟨mA,⟨od,es,ep,e,c⟩,r⟩:=x;exact ⟨mA,⟨od,es,ep,k _ _ (.inl rfl) e,c⟩,r⟩
 | rng lo hi=>obtain ⟨t,u,v,e⟩:=x;exact ⟨t,u,v,k _ _ (.inl rfl) e⟩
 | frz ob u ih=>obtain ⟨e,q⟩:=x;exact ⟨k _ _ (.inl rfl) e,ih q⟩
 | tbl ps =>
  have e:h.get? a=some { cls:=.none,data:=.fields ps }:=x
  show h'.get? a=some { cls:=.none,data:=.fields ps }
  exact k a _ (.inl rfl) e
 | met f y =>
  have e:h.get? a=some (PySem.W.methodObj (.ref f) (.ref y)):=x
  show h'.get? a=some (PySem.W.methodObj (.ref f) (.ref y))
  exact k a _ (.inl rfl) e
 | ext φ=>obtain ⟨p,⟨o,e⟩,st⟩:=x;exact ⟨st _ _ p fun o q=>k _ _ (.inl rfl) q,⟨o,k _ _ (.inl rfl) e⟩,st⟩
theorem HOk.lt (x:HOk P w H h)(e:H a=some o):a<h.objs.size:=(x a o e).lt
theorem HOk.fresh (x:HOk P w H h)(e:h.objs.size<=a):H a=none:=by
 cases q:H a with
 | none=>rfl
 | some u=>exact absurd (Nat.lt_of_lt_of_le (x.lt q) e) (Nat.lt_irrefl _)
theorem HOk.kept (x:HOk P w H h)(k:∀ b u,h.get? b=some u->h'.get? b=some u):HOk P w H h':=fun a o e =>
 (x a o e).stay (fun b u _ q=>k b u q) (fun _ q=>q) fun _ _ q=>q
theorem HOk.laid (x:HOk P w H h)(k:∀ b u,h.get? b=some u->h'.get? b=some u)(hp:h.objs.size<=a)(new:B3 P w (upd H a o) h' a o):HOk P w (upd H a o) h':=fun b u e=>by
 have hn:=x.fresh hp
 by_cases hb:b=a
 ·subst hb;rw [Ac] at e;cases e;exact new
 ·rw [Al hb] at e
  exact (x b u e).stay (fun c v _ q=>k c v q) (fun c q=>by rw [Al (Aq q hn)];exact q) fun c xs q=>by rw [Al (Aq q hn)];exact q
end
def Rd (H:Hp)(a:Addr)(u:HO):Prop:=H a=some u\/∃ o,H a=some (.frz o u)
theorem Rd.ok {P:Program}{w:World}{H:Hp}{h:Heap}{a:Addr}{u:HO}(r:Rd H a u)(x:HOk P w H h):B3 P w H h a u:=by
 rcases r with r | ⟨o,r⟩
 ·exact x a u r
 ·obtain ⟨_,q⟩:=x a _ r
  exact q
def Mut:Option HO->Prop
 | some (.lst _)=>True
 | some (.dK _)=>True
 | some (.dT _)=>True
 | some (.set _ _)=>True
 | some (.ins _ _ _)=>True
 | some (.ext _)=>True
 | _=>False
section
variable {P:Program} {w:World} {H:Hp} {h h':Heap} {x e:Addr} {o':HO}
theorem HOk.write (ok:HOk P w H h)(mu:Mut (H x))(he:e=x\/H e=some (.own x))(k:∀ b u,b≠e->h.get? b=some u->h'.get? b=some u)(heo:∃ u,h'.get? e=some u)
  (new:B3 P w (upd H x o') h' x o'):HOk P w (upd H x o') h':=fun b u q=>by
 have nown:∀ c y,H c=some (.own y)->c≠x:=fun c y r z=>by subst z;rw [r] at mu;exact mu
 have ntup:∀ c xs,H c=some (.tup xs)->c≠x:=fun c xs r z=>by subst z;rw [r] at mu;exact mu
 by_cases hb:b=x
 ·subst hb;rw [Ac] at q;cases q;exact new
 ·rw [Al hb] at q
  by_cases hbe:b=e
  ·have q':H b=some (.own x):=by
    rcases he with z | z
    ·exact absurd (hbe.trans z) hb
    ·rw [hbe];exact z
   rw [q] at q';cases q'
   obtain ⟨v,hv⟩:=heo
   exact ⟨v,by rw [hbe];exact hv⟩
  ·refine (ok b u q).stay (fun c v hc r=>k c v ?_ r) (fun c r=>by rw [Al (nown c b r)];exact r) fun c xs r=>by rw [Al (ntup c xs r)];exact r
   rcases hc with rfl | hc
   ·exact hbe
   ·rintro rfl
    rcases he with z | z
    ·exact nown c b hc z
    ·rw [hc] at z;cases z;exact hb rfl
end
structure Un (fs ex:List Addr) (H H':Hp) (h h':Heap):Prop where
 keep:∀ b o,h.get? b=some o->H b=none->b∉fs->b∉ex->h'.get? b=some o
 slot:∀ b o,h.get? b=some o->H b=none->b∈fs->b∉ex->∃ sl,h'.get? b=some { o with slots:=sl }
 free:∀ b o,h.get? b=some o->H b=none->b∉ex->H' b=none
 there:∀ b o,h.get? b=some o->b∉ex->∃ o',h'.get? b=some o'
 tups:∀ b xs,H b=some (.tup xs)->H' b=some (.tup xs)
 frzs:∀ b o u,H b=some (.frz o u)->H' b=some (.frz o u)
 tbls:∀ b ps,H b=some (.tbl ps)->∃ more,H' b=some (.tbl (ps++more))
section
variable {fs fs' ex ex':List Addr} {H H1 H2:Hp} {h h1 h2 h':Heap} {a x e:Addr} {o:HO}
theorem Un.any (u:Un fs ex H H1 h h1){b:Addr}{ob:Obj}(q:h.get? b=some ob)(n:H b=none)(hx:b∉ex):∃ sl,h1.get? b=some { ob with slots:=sl }:=by
 by_cases hb:b∈fs
 ·exact u.slot b ob q n hb hx
 ·exact ⟨ob.slots,u.keep b ob q n hb hx⟩
theorem Un.trans (a:Un fs ex H H1 h h1)(b:Un fs ex H1 H2 h1 h2):Un fs ex H H2 h h2 where
 keep:=fun c ob q n hc hx=>b.keep c ob (a.keep c ob q n hc hx) (a.free c ob q n hx) hc hx
 slot:=fun c ob q n hc hx=>by
  obtain ⟨sl,e1⟩:=a.slot c ob q n hc hx
  obtain ⟨sl',e2⟩:=b.slot c _ e1 (a.free c ob q n hx) hc hx
  exact ⟨sl',e2⟩
 free:=fun c ob q n hx=>by
  obtain ⟨o',e1⟩:=a.there c ob q hx
  exact b.free c o' e1 (a.free c ob q n hx) hx
 there:=fun c ob q hx=>by
  obtain ⟨o',e1⟩:=a.there c ob q hx
  exact b.there c o' e1 hx
 tups:=fun c xs q=>b.tups c xs (a.tups c xs q)
 frzs:=fun c ob xs q=>b.frzs c ob xs (a.frzs c ob xs q)
 tbls:=fun c ps q=>by
  obtain ⟨m1,e1⟩:=a.tbls c ps q
  obtain ⟨m2,e2⟩:=b.tbls c _ e1
  exact ⟨m1++m2,by rw [e2,Array.append_assoc]⟩
theorem Un.kept (k:∀ b u,h.get? b=some u->h'.get? b=some u):Un fs ex H H h h' :=
 ⟨fun b ob q _ _ _=>k b ob q,fun b ob q _ _ _=>⟨ob.slots,k b ob q⟩,fun _ _ _ n _=>n,fun b ob q _=>⟨ob,k b ob q⟩,fun _ _ q=>q,fun _ _ _ q=>q,fun _ ps q=>⟨#[],by rw [q];simp⟩⟩
theorem Un.refl:Un fs ex H H h h:=Un.kept fun _ _ q=>q
theorem Un.laid (k:∀ b u,h.get? b=some u->h'.get? b=some u)(hp:h.objs.size<=a)(hn:H a=none):Un fs ex H (upd H a o) h h' where
 keep:=fun b u q _ _ _=>k b u q
 slot:=fun b u q _ _ _=>⟨u.slots,k b u q⟩
 free:=fun b u q n _=>by rw [Al (Nat.ne_of_lt (Nat.lt_of_lt_of_le (Heap.lt_size q) hp))];exact n
 there:=fun b u q _=>⟨u,k b u q⟩
 tups:=fun b xs q=>by rw [Al (Aq q hn)];exact q
 frzs:=fun b u xs q=>by rw [Al (Aq q hn)];exact q
 tbls:=fun b ps q=>⟨#[],by rw [Al (Aq q hn),q];simp⟩
theorem Un.write (mu:Mut (H x))(he:e=x\/H e=some (.own x))(k:∀ b u,b≠e->h.get? b=some u->h'.get? b=some u)(heo:∃ u,h'.get? e=some u):Un fs ex H (upd H x o) h h':=by
 have hx:∀ b,H b=none->b≠x:=fun b n z=>by subst z;rw [n] at mu;exact mu
 have hb:∀ b,H b=none->b≠e:=fun b n z=>by
  subst z
  rcases he with r | r
  ·exact hx b n r
  ·rw [n] at r;cases r
 have hm:∀ b u,H b=some u->¬ Mut (some u)->b≠x:=fun b u q nm z=>by subst z;rw [q] at mu;exact nm mu
 refine ⟨fun b u q n _ _=>k b u (hb b n) q,fun b u q n _ _=>⟨u.slots,k b u (hb b n) q⟩,fun b u q n _=>by rw [Al (hx b n)];exact n,fun b u q _=>?_,
  fun b xs q=>by rw [Al (hm b _ q fun z=>z)];exact q,fun b u xs q=>by rw [Al (hm b _ q fun z=>z)];exact q,fun b ps q=>⟨#[],by rw [Al (hm b _ q fun z=>z),q];simp⟩⟩
 by_cases hbe:b=e
 ·subst hbe;exact heo
 ·exact ⟨u,k b u hbe q⟩
end
def trk (h:Heap)(H:Hp):List Addr:=(List.range h.objs.size).filter fun a=>(H a).isSome
def Uu (h:Heap)(H:Hp):Heap:=hideAll h (trk h H)
theorem fL (h:Heap)(H:Hp):(Uu h H).objs.size=h.objs.size:=PySem.W.hideAll_size _ _
theorem Sa {h:Heap}{H:Hp}{b:Addr}{o:Obj}(e:h.get? b=some o)(n:H b=none):(Uu h H).get? b=some o :=
 PySem.W.hideAll_get _ e fun hm=>by
  have q:(H b).isSome=true:=(List.mem_filter.mp hm).2
  rw [n] at q;simp at q
theorem oP {h:Heap}{H:Hp}{b:Addr}{o:Obj}(e:(Uu h H).get? b=some o):h.get? b=some o/\H b=none:=by
 have e':h.get? b=some o:=of_hideAll (trk h H) e
 refine ⟨e',?_⟩
 cases q:H b with
 | none=>rfl
 | some x =>
  have hm:b∈trk h H:=List.mem_filter.mpr ⟨List.mem_range.mpr (Heap.lt_size e'),by simp [q]⟩
  have z:(Uu h H).get? b=none:=PySem.W.hideAll_none (trk h H) hm
  rw [z] at e;cases e
structure Mod (K:PySem.W.Frag) (mg:Str->Option Value) (base:Heap):Prop where
 kin:K.In base
 glob:base.Ns mainGlobals mg
 blt:∃ mb,base.Ns builtinsNs mb/\∀ x:Str,x≠"__name__"->mb x=bootBuiltins x
 nolimit:base.NoLimit
structure Cx where
 prog:Program
 w:World
 K:PySem.W.Frag
 mg:Str->Option Value
 base:Heap
 A:Around
 N:List Str
 s₀:Shared
 H₀:Hp
 env:Env
 outer:List Env
 stack:List Env
 ex:List Addr
 fn:Str->Bool
 calm:Bool
 pn:List (Addr×Obj)
 xe:Value->Shared->Prop
def frs (l:List Env):List Addr:=l.filterMap (·.frame)
abbrev Cx.fs (X:Cx):List Addr:=frs X.outer
def Vis (sc:Scope)(x:Str):Prop:=sc.names.lookup x=some .local\/sc.names.lookup x=some .cell\/sc.names.lookup x=some .free
def Loc (sc:Scope)(x:Str):Prop:=sc.names.lookup x=some .local\/sc.names.lookup x=some .cell
def xY (env:Env)(h:Heap)(m:Str->Option Value)(x:Str)(u:Value):Prop :=
 (env.kindOf x=some .local/\m x=some u)\/((env.kindOf x=some .cell\/env.kindOf x=some .free)/\∃ c,env.cells.lookup x=some c/\h.IsCell c (some u))
structure Cx.Ok (X:Cx):Prop where
 mod:Mod X.K X.mg X.base
 kind:X.env.scope.kind=.function
 glob:X.env.globals=mainGlobals
 blt:X.env.builtins=builtinsNs
 above:X.s₀.heap.objs.size<=X.env.locals
 inj:∀ x y c,X.env.cells.lookup x=some c->X.env.cells.lookup y=some c->x=y
 has:∀ x,(X.env.kindOf x=some .cell\/X.env.kindOf x=some .free)->∃ c,X.env.cells.lookup x=some c
 cab:∀ x c,X.fn x=true->X.env.cells.lookup x=some c->X.s₀.heap.objs.size<=c
 hd:X.calm=true->X.A.handled=none
 frames:X.A.frames=some X.stack
 stk:X.stack=X.outer\/(X.stack=X.env::X.outer/\X.env.frame=some X.env.locals)
 exf:∀ b∈X.ex,b≠X.env.locals/\∀ x c,X.env.cells.lookup x=some c->c≠b
 bs:∀ b o,X.base.get? b=some o->X.s₀.heap.get? b=some o/\X.H₀ b=none
 bsz:X.base.objs.size<=X.s₀.heap.objs.size
 noex:∀ b o,X.base.get? b=some o->b∉X.ex
 exfs:∀ b∈X.ex,b∉X.fs
 funs:X.s₀.heap.FunFrames X.base X.outer
 frf:∀ b∈X.fs,X.H₀ b=none
structure Inv (X:Cx) (pins:List (Addr×Obj)) (σ:List (Option V)) (H:Hp) (s:Shared):Prop where
 ok:X.Ok
 os:s.os=X.s₀.os
 bare:AllBare s.gens
 base:Un X.fs X.ex X.H₀ H X.s₀.heap s.heap
 loc:∃ m,s.heap.Ns X.env.locals m/\∀ (i:Nat) (x:Str) (v:V),X.N[i]?=some x->σ[i]?=some (some v)->Vis X.env.scope x->∃ u,Bc v u/\xY X.env s.heap m x u
 cell:∀ x c,X.env.cells.lookup x=some c->∃ v,s.heap.IsCell c v
 free:H X.env.locals=none
 freeC:∀ x c,X.env.cells.lookup x=some c->H c=none
 pin:∀ p∈X.pn++pins,s.heap.get? p.1=some p.2/\H p.1=none/\p.1≠X.env.locals/\p.1∉X.fs/\∀ v,p.2.data≠.cell v
 hok:HOk X.prog X.w H s.heap
 len:σ.length=X.N.length
section
variable {X:Cx} {pins:List (Addr×Obj)} {σ:List (Option V)} {H H':Hp} {s:Shared} {h':Heap}
theorem Cx.Ok.nofr (ok:X.Ok){b:Addr}{o:Obj}(e:X.base.get? b=some o):b∉X.fs:=fun hb=>by
 have:=(ok.funs.mem hb).1
 rw [e] at this;cases this
theorem Inv.bs (I:Inv X pins σ H s):∀ b o,X.base.get? b=some o->s.heap.get? b=some o/\H b=none:=fun b o e =>
 ⟨I.base.keep b o (I.ok.bs b o e).1 (I.ok.bs b o e).2 (I.ok.nofr e) (I.ok.noex b o e),I.base.free b o (I.ok.bs b o e).1 (I.ok.bs b o e).2 (I.ok.noex b o e)⟩
theorem Inv.bk (I:Inv X pins σ H s):∀ b o,X.base.get? b=some o->s.heap.get? b=some o:=fun b o e=>(I.bs b o e).1
theorem Inv.mod (I:Inv X pins σ H s):Mod X.K X.mg X.base:=I.ok.mod
theorem Inv.kIn (I:Inv X pins σ H s):X.K.In s.heap:=I.ok.mod.kin.keeps I.bk
theorem Inv.fr (I:Inv X pins σ H s):∃ m,Fr X.base X.env.locals s.heap m :=
 let ⟨m,hn,_⟩:=I.loc
 ⟨m,hn,I.bk,Nat.le_trans I.ok.bsz I.ok.above⟩
theorem Inv.lt (I:Inv X pins σ H s):X.env.locals<s.heap.objs.size:=let ⟨_,hn,_⟩:=I.loc;hn.lt
theorem Inv.sz (I:Inv X pins σ H s):X.s₀.heap.objs.size<=s.heap.objs.size:=Nat.le_trans I.ok.above (Nat.le_of_lt I.lt)
theorem Inv.nofs (I:Inv X pins σ H s){a:Addr}(h:s.heap.objs.size<=a):a∉X.fs:=fun hb=>by
 obtain ⟨_,o,ho,_⟩:=I.ok.funs.mem hb
 exact absurd (Nat.lt_of_lt_of_le (Heap.lt_size ho) (Nat.le_trans I.sz h)) (Nat.lt_irrefl _)
theorem Inv.cne (I:Inv X pins σ H s):∀ x c,X.env.cells.lookup x=some c->c≠X.env.locals:=fun x c e z=>by
 obtain ⟨v,o,ho,hd⟩:=I.cell x c e
 obtain ⟨m,⟨o',es,ep,ho',hd',_⟩,_⟩:=I.loc
 rw [z,ho'] at ho;cases ho;rw [hd'] at hd;cases hd
theorem Inv.funs (I:Inv X pins σ H s):s.heap.FunFrames X.base X.outer:=by
 have all:∀ (l:List Env),(∀ b∈frs l,b∈X.fs)->X.s₀.heap.FunFrames X.base l->s.heap.FunFrames X.base l:=by
  intro l
  induction l with
  | nil=>intro _ _;trivial
  | cons env r ih =>
   intro hs hl
   obtain ⟨hk,⟨L,o,hf,hn,ho,hd⟩,hr⟩:=hl
   have hL:L∈X.fs:=hs L (by unfold frs;rw [List.filterMap_cons,hf];exact List.mem_cons_self)
   obtain ⟨sl,e⟩:=I.base.slot L o ho (I.ok.frf L hL) hL fun z=>I.ok.exfs L z hL
   exact ⟨hk,⟨L,_,hf,hn,e,hd⟩,ih (fun b hb=>hs b (by unfold frs;rw [List.filterMap_cons,hf];exact List.mem_cons_of_mem _ hb)) hr⟩
 exact all X.outer (fun _ hb=>hb) I.ok.funs
theorem Inv.stack (I:Inv X pins σ H s):s.heap.FunFrames X.base X.stack:=by
 rcases I.ok.stk with e | ⟨e,hf⟩
 ·rw [e];exact I.funs
 ·rw [e]
  obtain ⟨m,hn,_⟩:=I.loc
  refine .cons (by rw [I.ok.kind];decide) hf hn ?_ I.funs
  exact Heap.get?_none_of_le (Nat.le_trans I.ok.bsz I.ok.above)
theorem Inv.stkSub (I:Inv X pins σ H s):∀ b∈frs X.stack,b∈X.env.locals::X.fs:=fun b hb=>by
 rcases I.ok.stk with e | ⟨e,hf⟩
 ·rw [e] at hb;exact List.mem_cons_of_mem _ hb
 ·rw [e] at hb
  unfold frs at hb
  rw [List.filterMap_cons,hf] at hb
  exact hb
theorem Inv.stkFree (I:Inv X pins σ H s):∀ b∈frs X.stack,H b=none:=fun b hb=>by
 rcases List.mem_cons.mp (I.stkSub b hb) with e | hb
 ·rw [e];exact I.free
 ·obtain ⟨_,o,ho,_⟩:=I.ok.funs.mem hb
  exact I.base.free b o ho (I.ok.frf b hb) fun z=>I.ok.exfs b z hb
theorem Inv.step {g':Array GenState}{t':Nat}{d':Drawn}{ch:List Addr}(I:Inv X pins σ H s)
  (hch:∀ b∈ch,(b∈X.ex\/X.s₀.heap.objs.size<=b)/\b≠X.env.locals/\(∀ x c,X.env.cells.lookup x=some c->c≠b)/\∀ p∈X.pn++pins,p.1≠b)
  (keep:∀ b o,b≠X.env.locals->b∉X.fs->b∉ch->s.heap.get? b=some o->H b=none->h'.get? b=some o)
  (slot:∀ b o,b≠X.env.locals->b∈X.fs->b∉ch->s.heap.get? b=some o->H b=none->∃ sl,h'.get? b=some { o with slots:=sl })(free:∀ b o,b∉ch->s.heap.get? b=some o->H b=none->H' b=none)
  (there:∀ b o,b∉ch->s.heap.get? b=some o->∃ o',h'.get? b=some o')
  (tups:∀ b xs,H b=some (.tup xs)->H' b=some (.tup xs))(frzs:∀ b o u,H b=some (.frz o u)->H' b=some (.frz o u))(tbls:∀ b ps,H b=some (.tbl ps)->∃ more,H' b=some (.tbl (ps++more)))
  (ns:∀ m,s.heap.Ns X.env.locals m->h'.Ns X.env.locals m)(hok:HOk X.prog X.w H' h')(hg:AllBare g') :
  Inv X pins σ H' { s with heap:=h',gens:=g',drawn:=d',toks:=t' }:=by
 have neL:∀ b o,X.s₀.heap.get? b=some o->b≠X.env.locals:=fun b o e=>Nat.ne_of_lt (Nat.lt_of_lt_of_le (Heap.lt_size e) I.ok.above)
 have neC:∀ b o,X.s₀.heap.get? b=some o->b∉X.ex->b∉ch:=fun b o e hx hb=>by
  rcases (hch b hb).1 with z | z
  ·exact hx z
  ·exact absurd (Nat.lt_of_lt_of_le (Heap.lt_size e) z) (Nat.lt_irrefl _)
 have cellK:∀ x c,X.env.cells.lookup x=some c->∀ v,s.heap.IsCell c v->h'.IsCell c v:=fun x c e v ⟨o,ho,hd⟩=>by
  have nch:c∉ch:=fun z=>(hch c z).2.2.1 x c e rfl
  by_cases hc:c∈X.fs
  ·obtain ⟨sl,q⟩:=slot c o (I.cne x c e) hc nch ho (I.freeC x c e)
   exact ⟨_,q,hd⟩
  ·exact ⟨o,keep c o (I.cne x c e) hc nch ho (I.freeC x c e),hd⟩
 refine ⟨I.ok,I.os,hg,⟨fun b o e n hb hx=>?_,fun b o e n hb hx=>?_,fun b o e n hx=>?_,fun b o e hx=>?_,fun b xs e=>tups b xs (I.base.tups b xs e),fun b o xs e=>frzs b o xs (I.base.frzs b o xs e),fun b ps e=>?_⟩,?_,fun x c e=>?_,?_,fun x c e=>?_,fun p hp=>?_,hok,I.len⟩
 ·exact keep b o (neL b o e) hb (neC b o e hx) (I.base.keep b o e n hb hx) (I.base.free b o e n hx)
 ·obtain ⟨sl,e1⟩:=I.base.slot b o e n hb hx
  obtain ⟨sl',e2⟩:=slot b _ (neL b o e) hb (neC b o e hx) e1 (I.base.free b o e n hx)
  exact ⟨sl',e2⟩
 ·obtain ⟨o',e1⟩:=I.base.there b o e hx
  exact free b o' (neC b o e hx) e1 (I.base.free b o e n hx)
 ·obtain ⟨o',e1⟩:=I.base.there b o e hx
  exact there b o' (neC b o e hx) e1
 ·obtain ⟨m1,e1⟩:=I.base.tbls b ps e
  obtain ⟨m2,e2⟩:=tbls b _ e1
  exact ⟨m1++m2,by rw [e2,Array.append_assoc]⟩
 ·obtain ⟨m,hn,hl⟩:=I.loc
  refine ⟨m,ns m hn,fun i x v e1 e2 e3=>?_⟩
  obtain ⟨u,r,l⟩:=hl i x v e1 e2 e3
  refine ⟨u,r,?_⟩
  rcases l with l | ⟨k,c,e,z⟩
  ·exact .inl l
  ·exact .inr ⟨k,c,e,cellK x c e _ z⟩
 ·obtain ⟨v,z⟩:=I.cell x c e
  exact ⟨v,cellK x c e v z⟩
 ·obtain ⟨m,⟨o,_,_,ho,_⟩,_⟩:=I.loc
  exact free _ o (fun z=>(hch _ z).2.1 rfl) ho I.free
 ·obtain ⟨v,o,ho,hd⟩:=I.cell x c e
  exact free c o (fun z=>(hch c z).2.2.1 x c e rfl) ho (I.freeC x c e)
 ·obtain ⟨e,n,ne,nf,d⟩:=I.pin p hp
  have nch:p.1∉ch:=fun z=>(hch p.1 z).2.2.2 p hp rfl
  exact ⟨keep p.1 p.2 ne nf nch e n,free p.1 p.2 nch e n,ne,nf,d⟩
theorem Inv.un {t':Nat}(I:Inv X pins σ H s)(u:Un X.fs [] H H' s.heap h')(hok:HOk X.prog X.w H' h'):Inv X pins σ H' { s with heap:=h',toks:=t' }:=by
 obtain ⟨m,⟨o,es,ep,ho,r⟩,_⟩:=id I.loc
 obtain ⟨sl,hL⟩:=u.any ho I.free (by simp)
 exact I.step (g':=s.gens) (d':=s.drawn) (ch:=[]) (fun _ z=>nomatch z) (fun b o _ hb _ e n=>u.keep b o e n hb (by simp)) (fun b o _ hb _ e n=>u.slot b o e n hb (by simp)) (fun b o _ e n=>u.free b o e n (by simp)) (fun b o _ e=>u.there b o e (by simp)) u.tups u.frzs u.tbls (fun m' hm=>by
  obtain ⟨o',es',ep',ho',r'⟩:=hm
  rw [ho] at ho';cases ho'
  exact ⟨_,es',ep',hL,r'⟩) hok I.bare
theorem Inv.call {g':Array GenState}{t':Nat}{d':Drawn}{ch:List Addr}(I:Inv X pins σ H s)(u:Un (frs X.stack) ch H H' s.heap h')(hok:HOk X.prog X.w H' h')(hg:AllBare g')
  (hch:∀ b∈ch,(b∈X.ex\/X.s₀.heap.objs.size<=b)/\b≠X.env.locals/\(∀ x c,X.env.cells.lookup x=some c->c≠b)/\∀ p∈X.pn++pins,p.1≠b) :
  Inv X pins σ H' { s with heap:=h',gens:=g',drawn:=d',toks:=t' }:=by
 obtain ⟨m,⟨o,es,ep,ho,r⟩,_⟩:=id I.loc
 obtain ⟨sl,hL⟩:=u.any ho I.free fun z=>(hch _ z).2.1 rfl
 exact I.step (ch:=ch) hch (fun b o hL hb hc e n=>u.keep b o e n (fun z=>(List.mem_cons.mp (I.stkSub b z)).elim hL hb) hc) (fun b o _ _ hc e n=>u.any e n hc) (fun b o hc e n=>u.free b o e n hc) (fun b o hc e=>u.there b o e hc) u.tups u.frzs u.tbls (fun m' hm=>by
  obtain ⟨o',es',ep',ho',r'⟩:=hm
  rw [ho] at ho';cases ho'
  exact ⟨_,es',ep',hL,r'⟩) hok hg
theorem Inv.turned {t':Nat}{it:Addr}(I:Inv X pins σ H s)(k:∀ b o,b≠it->s.heap.get? b=some o->h'.get? b=some o)(hn:H it=none)(hL:it≠X.env.locals)
  (h1:it∈X.ex\/X.s₀.heap.objs.size<=it)(h2:∀ x c,X.env.cells.lookup x=some c->c≠it)(h3:∀ p∈X.pn++pins,p.1≠it):Inv X pins σ H { s with heap:=h',toks:=t' }:=by
 have nit:∀ b u,H b=some u->b≠it:=fun b u e z=>by rw [z,hn] at e;cases e
 refine I.step (g':=s.gens) (d':=s.drawn) (ch:=[it]) (fun b hb=>?_) (fun b o _ _ hc e _=>k b o (fun z=>hc (by simp [z])) e) (fun b o _ _ hc e _=>⟨o.slots,k b o (fun z=>hc (by simp [z])) e⟩) (fun _ _ _ _ n=>n)
  (fun b o hc e=>⟨o,k b o (fun z=>hc (by simp [z])) e⟩) (fun _ _ e=>e) (fun _ _ _ e=>e) (fun b ps e=>⟨#[],by rw [e];simp⟩) (fun m hm=>?_) (fun b u e=>?_) I.bare
 ·have e:b=it:=by simpa using hb
  subst e
  exact ⟨h1,hL,h2,h3⟩
 ·obtain ⟨o,es,ep,ho,r⟩:=hm
  exact ⟨o,es,ep,k _ o (Ne.symm hL) ho,r⟩
 ·refine (I.hok b u e).stay (fun c v hc q=>k c v ?_ q) (fun _ q=>q) fun _ _ q=>q
  rcases hc with z | z
  ·rw [z];exact nit b u e
  ·exact nit c _ z
theorem Inv.tok (I:Inv X pins σ H s)(t:Nat):Inv X pins σ H { s with toks:=t }:=I.un (h':=s.heap) (t':=t) Un.refl I.hok
theorem Inv.kept {t':Nat}(I:Inv X pins σ H s)(k:∀ b u,s.heap.get? b=some u->h'.get? b=some u):Inv X pins σ H { s with heap:=h',toks:=t' }:=I.un (Un.kept k) (I.hok.kept k)
theorem Inv.laid {a:Addr}{o:HO}{t':Nat}(I:Inv X pins σ H s)(k:∀ b u,s.heap.get? b=some u->h'.get? b=some u)(hp:s.heap.objs.size<=a)(new:B3 X.prog X.w (upd H a o) h' a o) :
  Inv X pins σ (upd H a o) { s with heap:=h',toks:=t' }:=I.un (Un.laid k hp (I.hok.fresh hp)) (I.hok.laid k hp new)
theorem Inv.write {x e:Addr}{o:HO}{t':Nat}(I:Inv X pins σ H s)(mu:Mut (H x))(he:e=x\/H e=some (.own x))(k:∀ b u,b≠e->s.heap.get? b=some u->h'.get? b=some u)(heo:∃ u,h'.get? e=some u)
  (new:B3 X.prog X.w (upd H x o) h' x o):Inv X pins σ (upd H x o) { s with heap:=h',toks:=t' }:=I.un (Un.write mu he k heo) (I.hok.write mu he k heo new)
theorem Inv.weak {σ':List (Option V)}(I:Inv X pins σ H s)(hl:σ'.length=σ.length)(w:∀ (i:Nat) v,σ'[i]?=some (some v)->σ[i]?=some (some v)):Inv X pins σ' H s :=
 ⟨I.ok,I.os,I.bare,I.base,let ⟨m,hn,hl'⟩:=I.loc;⟨m,hn,fun i x v e1 e2 e3=>hl' i x v e1 (w i v e2) e3⟩,I.cell,I.free,I.freeC,I.pin,I.hok,hl.trans I.len⟩
theorem Inv.pins_of {pins':List (Addr×Obj)}(I:Inv X pins σ H s)(h:∀ p∈pins',s.heap.get? p.1=some p.2/\H p.1=none/\p.1≠X.env.locals/\p.1∉X.fs/\∀ v,p.2.data≠.cell v):Inv X pins' σ H s :=
 ⟨I.ok,I.os,I.bare,I.base,I.loc,I.cell,I.free,I.freeC,fun p hp=>(List.mem_append.mp hp).elim (fun z=>I.pin p (List.mem_append_left _ z)) (h p),I.hok,I.len⟩
theorem Rg {N:List Str}(hN:N.Nodup){i j:Nat}{x:Str}(a:N[i]?=some x)(b:N[j]?=some x):i=j:=by
 obtain ⟨h1,e1⟩:=List.getElem?_eq_some_iff.mp a
 obtain ⟨h2,e2⟩:=List.getElem?_eq_some_iff.mp b
 exact (List.getElem_inj hN).mp (e1.trans e2.symm)
theorem fH {M:Model}{A:Around}{E:Value->Shared->Prop}{i:Nat}{x:Str}{v:V}{u:Value}{Q:Unit->Shared->Prop}(I:Inv X pins σ H s)(hN:X.N.Nodup)(hi:X.N[i]?=some x)(hx:Loc X.env.scope x)(r:Bc v u)
  (h:∀ s',Inv X pins (σ.set i (some v)) H s'->(∃ a,Heap.SameBut a s.heap s'.heap/\(a=X.env.locals\/X.env.cells.lookup x=some a))->Q () s')(hf:X.fn x=true\/X.env.scope.names.lookup x=some .local:=by first | exact .inl rfl | exact .inr rfl | assumption):wpAny M A (storeName X.env x u) Q E s:=by
 obtain ⟨m,hn,hl⟩:=id I.loc
 have hcls:(X.env.scope.kind==.class||(X.env.scope.kind==.module&&X.env.locals != X.env.globals))=false:=by rw [I.ok.kind];rfl
 have hiσ:i<σ.length:=by rw [I.len];exact (List.getElem?_eq_some_iff.mp hi).1
 have cne:=I.cne
 have tracked:∀ {a:Addr} {h':Heap},(∃ o,s.heap.get? a=some o/\H a=none)->Heap.SameBut a s.heap h'->HOk X.prog X.w H h':=fun {a h'} ha hs b ob e=>by
  obtain ⟨_,_,hfree⟩:=ha
  refine (I.hok b ob e).stay (fun c w' hc q=>(hs.2 c ?_).trans q) (fun _ q=>q) fun _ _ q=>q
  rintro rfl
  rcases hc with rfl | hc
  ·rw [hfree] at e;cases e
  ·rw [hfree] at hc;cases hc
 rcases hx with hk | hk
 ·refine wpAny_storeName_local hk hn (fun h' hn' hs=>?_) hcls
  obtain ⟨oL,_,_,hoL,_⟩:=id hn
  refine h _ ⟨I.ok,I.os,I.bare,⟨fun b o e n hb hx=>?_,fun b o e n hb hx=>?_,I.base.free,fun b o e hx=>?_,I.base.tups,I.base.frzs,I.base.tbls⟩,⟨_,hn',fun j y v' e1 e2 e3=>?_⟩,fun y c e=>?_,I.free,I.freeC,fun p hp=>?_,tracked ⟨oL,hoL,I.free⟩ hs,by simpa using I.len⟩ ⟨_,hs,.inl rfl⟩
  ·exact (hs.2 b (Nat.ne_of_lt (Nat.lt_of_lt_of_le (Heap.lt_size e) I.ok.above))).trans (I.base.keep b o e n hb hx)
  ·obtain ⟨sl,e1⟩:=I.base.slot b o e n hb hx
   exact ⟨sl,(hs.2 b (Nat.ne_of_lt (Nat.lt_of_lt_of_le (Heap.lt_size e) I.ok.above))).trans e1⟩
  ·obtain ⟨o',e1⟩:=I.base.there b o e hx
   exact ⟨o',(hs.2 b (Nat.ne_of_lt (Nat.lt_of_lt_of_le (Heap.lt_size e) I.ok.above))).trans e1⟩
  ·by_cases hj:j=i
   ·subst hj
    rw [hi] at e1;cases e1
    rw [List.getElem?_set_self hiσ] at e2
    cases e2
    exact ⟨u,r,.inl ⟨hk,by simp⟩⟩
   ·rw [List.getElem?_set_ne (Ne.symm hj)] at e2
    obtain ⟨u',r',q⟩:=hl j y v' e1 e2 e3
    refine ⟨u',r',?_⟩
    rcases q with ⟨k,e⟩ | ⟨k,c,e,z⟩
    ·refine .inl ⟨k,?_⟩
     have:y≠x:=fun e=>hj (Rg hN e1 (e▸hi))
     simp [this,e]
    ·exact .inr ⟨k,c,e,z.sameBut hs (cne y c e)⟩
  ·obtain ⟨w',z⟩:=I.cell y c e
   exact ⟨w',z.sameBut hs (cne y c e)⟩
  ·obtain ⟨e,n,ne,nf,d⟩:=I.pin p hp
   exact ⟨(hs.2 p.1 ne).trans e,n,ne,nf,d⟩
 ·have hfn:X.fn x=true:=by
   rcases hf with z | z
   ·exact z
   ·rw [z] at hk;cases hk
  obtain ⟨c,hc⟩:=I.ok.has x (.inl hk)
  obtain ⟨w',z⟩:=I.cell x c hc
  refine wpAny_storeName_cell I.ok.kind hk hc z (fun h' hc' hs=>?_)
  obtain ⟨oc,hoc,hocd⟩:=id z
  refine h { s with heap:=h' } ⟨I.ok,I.os,I.bare,⟨fun b o e n hb hx=>?_,fun b o e n hb hx=>?_,I.base.free,fun b o e hx=>?_,I.base.tups,I.base.frzs,I.base.tbls⟩,⟨m,hn.sameBut hs (Ne.symm (cne x c hc)),fun j y v' e1 e2 e3=>?_⟩,fun y c' e=>?_,I.free,I.freeC,fun p hp=>?_,tracked ⟨oc,hoc,I.freeC x c hc⟩ hs,by simpa using I.len⟩ ⟨c,hs,.inr hc⟩
  ·exact (hs.2 b (Nat.ne_of_lt (Nat.lt_of_lt_of_le (Heap.lt_size e) (I.ok.cab x c hfn hc)))).trans (I.base.keep b o e n hb hx)
  ·obtain ⟨sl,e1⟩:=I.base.slot b o e n hb hx
   exact ⟨sl,(hs.2 b (Nat.ne_of_lt (Nat.lt_of_lt_of_le (Heap.lt_size e) (I.ok.cab x c hfn hc)))).trans e1⟩
  ·obtain ⟨o',e1⟩:=I.base.there b o e hx
   exact ⟨o',(hs.2 b (Nat.ne_of_lt (Nat.lt_of_lt_of_le (Heap.lt_size e) (I.ok.cab x c hfn hc)))).trans e1⟩
  ·by_cases hj:j=i
   ·subst hj
    rw [hi] at e1;cases e1
    rw [List.getElem?_set_self hiσ] at e2
    cases e2
    exact ⟨u,r,.inr ⟨.inl hk,c,hc,hc'⟩⟩
   ·rw [List.getElem?_set_ne (Ne.symm hj)] at e2
    obtain ⟨u',r',q⟩:=hl j y v' e1 e2 e3
    refine ⟨u',r',?_⟩
    rcases q with q | ⟨k,c',e,z'⟩
    ·exact .inl q
    ·refine .inr ⟨k,c',e,z'.sameBut hs ?_⟩
     rintro rfl
     exact hj (Rg hN e1 (I.ok.inj _ _ _ e hc▸hi))
  ·by_cases hcc:c'=c
   ·subst hcc;exact ⟨_,hc'⟩
   ·obtain ⟨w2,z2⟩:=I.cell y c' e
    exact ⟨w2,z2.sameBut hs hcc⟩
  ·obtain ⟨e,n,ne,nf,d⟩:=I.pin p hp
   refine ⟨(hs.2 p.1 ?_).trans e,n,ne,nf,d⟩
   intro q
   rw [q,hoc] at e
   have q':oc=p.2:=Option.some.inj e
   exact d w' (by rw [<- q'];exact hocd)
theorem Lz {M:Model}{A:Around}{E:Value->Shared->Prop}{i:Nat}{x:Str}{v:V}{u:Value}{Q:Unit->Shared->Prop}(I:Inv X pins σ H s)(hN:X.N.Nodup)(hi:X.N[i]?=some x)(hx:Loc X.env.scope x)(r:Bc v u)
  (h:∀ s',Inv X pins (σ.set i (some v)) H s'->Q () s')(hf:X.fn x=true\/X.env.scope.names.lookup x=some .local:=by first | exact .inl rfl | exact .inr rfl | assumption):wpAny M A (storeName X.env x u) Q E s :=
 fH I hN hi hx r (fun s' I' _=>h s' I') hf
theorem Inv.call' {s':Shared}{ch:List Addr}(I:Inv X pins σ H s)(ho:s'.os=s.os)(u:Un (frs X.stack) ch H H' s.heap s'.heap)(hok:HOk X.prog X.w H' s'.heap)(hg:AllBare s'.gens)
  (hch:∀ b∈ch,(b∈X.ex\/X.s₀.heap.objs.size<=b)/\b≠X.env.locals/\(∀ x c,X.env.cells.lookup x=some c->c≠b)/\∀ p∈X.pn++pins,p.1≠b):Inv X pins σ H' s':=by
 obtain ⟨h',g',d',t',o'⟩:=s'
 have e:o'=s.os:=ho
 subst e
 exact I.call (g':=g') (t':=t') (d':=d') u hok hg hch
end
abbrev XK:=Value->Option Addr->Hp->Prop
abbrev St:=List (Option V)
abbrev VK:=V->Hp->Prop
abbrev TE:=St->Hp->VK->Prop
abbrev TT:=St->Hp->(Bool->Hp->Prop)->Prop
abbrev TA:=St->Hp->(List V->Hp->Prop)->Prop
structure Hb where
 nx:St->Hp->Prop
 rt:VK
 bk:St->Hp->Prop:=fun _ _=>False
 ct:St->Hp->Prop:=fun _ _=>False
abbrev TS:=Hb->St->Hp->Prop
def EP (X:Cx)(pins:List (Addr×Obj))(σ:St)(Q:VK)(u:Value)(s':Shared):Prop:=∃ v H',Inv X pins σ H' s'/\Bc v u/\Q v H'
def TP (X:Cx)(pins:List (Addr×Obj))(σ:St)(Q:Bool->Hp->Prop)(b:Bool)(s':Shared):Prop:=∃ H',Inv X pins σ H' s'/\Q b H'
def AP (X:Cx)(pins:List (Addr×Obj))(σ:St)(Q:List V->Hp->Prop)(us:List Value)(s':Shared):Prop:=∃ vs H',Inv X pins σ H' s'/\A0 vs us/\Q vs H'
def SP (X:Cx)(pins:List (Addr×Obj))(D:Hb)(f:Flow)(s':Shared):Prop :=
 match f with
 | .next=>∃ σ' H',Inv X pins σ' H' s'/\D.nx σ' H'
 | .brk=>∃ σ' H',Inv X pins σ' H' s'/\D.bk σ' H'
 | .cont=>∃ σ' H',Inv X pins σ' H' s'/\D.ct σ' H'
 | .ret u=>∃ v σ' H',Inv X pins σ' H' s'/\Bc v u/\D.rt v H'
def PE (X:Cx)(e:Expr)(t:TE):Prop :=
 ∀ (pins:List (Addr×Obj)) (s:Shared) (σ:St) (H:Hp) (Q:VK),Inv X pins σ H s->t σ H Q->wpAny (model X.prog X.w) X.A (eval e X.env) (EP X pins σ Q) X.xe s
def PT (X:Cx)(e:Expr)(t:TT):Prop :=
 ∀ (pins:List (Addr×Obj)) (s:Shared) (σ:St) (H:Hp) (Q:Bool->Hp->Prop),Inv X pins σ H s->t σ H Q->wpAny (model X.prog X.w) X.A (isTrue e X.env (eval e X.env)) (TP X pins σ Q) X.xe s
def PW (X:Cx)(e:Expr)(t:TT):Prop :=
 ∀ (whole:Sem Value) (pins:List (Addr×Obj)) (s:Shared) (σ:St) (H:Hp) (Q:Bool->Hp->Prop),Inv X pins σ H s->t σ H Q->wpAny (model X.prog X.w) X.A (isTrue e X.env whole) (TP X pins σ Q) X.xe s
theorem PW.pt {X:Cx}{e:Expr}{t:TT}(h:PW X e t):PT X e t:=h _
def PA (X:Cx)(es:List Expr)(t:TA):Prop :=
 ∀ (pos:Pos) (pins:List (Addr×Obj)) (s:Shared) (σ:St) (H:Hp) (Q:List V->Hp->Prop),Inv X pins σ H s->t σ H Q->wpAny (model X.prog X.w) X.A (spliced (backTo pos (starEach es X.env))) (AP X pins σ Q) X.xe s
def PS (X:Cx)(st:Stmt)(t:TS):Prop :=
 ∀ (pins:List (Addr×Obj)) (s:Shared) (σ:St) (H:Hp) (D:Hb),Inv X pins σ H s->t D σ H->wpAny (model X.prog X.w) X.A (exec st X.env) (SP X pins D) X.xe s
def PSs (X:Cx)(st:List Stmt)(t:TS):Prop :=
 ∀ (pins:List (Addr×Obj)) (s:Shared) (σ:St) (H:Hp) (D:Hb),Inv X pins σ H s->t D σ H->wpAny (model X.prog X.w) X.A (execs st X.env) (SP X pins D) X.xe s
theorem thn {α:Type}{t:Sem α}{Q Q':α->Shared->Prop}{M:Model}{A:Around}{E:Value->Shared->Prop}{s:Shared}(h:wpAny M A t Q E s)(hQ:∀ a s,Q a s->Q' a s):wpAny M A t Q' E s:=wpAny_mono h hQ fun _ _ x=>x
section
variable {X:Cx}
theorem bin {a b:Expr}{ta tb:TE}(ha:PE X a ta)(hb:PE X b tb){pins:List (Addr×Obj)}{s:Shared}{σ:St}{H:Hp}{R:V->V->Hp->Prop}(I:Inv X pins σ H s)(h:ta σ H fun x H1=>tb σ H1 fun y H2=>R x y H2)
  {α:Type}{Q:α->Shared->Prop}{f:Value->Value->Sem α}
  (hf:∀ v u s2 x y H2,Inv X pins σ H2 s2->Bc x v->Bc y u->R x y H2->wpAny (model X.prog X.w) X.A (f v u) Q X.xe s2) :
  wpAny (model X.prog X.w) X.A (eval a X.env) (fun v s₁=>wpAny (model X.prog X.w) X.A (eval b X.env) (fun u s₂=>wpAny (model X.prog X.w) X.A (f v u) Q X.xe s₂) X.xe s₁) X.xe s:=by
 refine thn (ha pins s σ H _ I h) fun v s1 ⟨x,H1,I1,r1,q1⟩=>?_
 refine thn (hb pins s1 σ H1 _ I1 q1) fun u s2 ⟨y,H2,I2,r2,q2⟩=>?_
 exact hf v u s2 x y H2 I2 r1 r2 q2
def pY (i:Nat):TE:=fun σ H Q=>∃ v,σ[i]?=some (some v)/\Q v H
def tC (v:V):TE:=fun _ H Q=>Q v H
theorem lB {i:Nat}{x:Str}{pos:Pos}(hN:X.N[i]?=some x)(hv:Vis X.env.scope x)(hd:(x==("__debug__":Str))=false:=by decide)(hcd:(x==("__classdict__":Str))=false:=by decide):PE X (.Name x pos) (pY i):=by
 intro pins s σ H Q I h
 obtain ⟨v,e,h⟩:=h
 obtain ⟨m,hn,hl⟩:=I.loc
 obtain ⟨u,r,l⟩:=hl i x v hN e hv
 have fin:EP X pins σ Q u s:=⟨v,H,I,r,h⟩
 rcases l with ⟨hk,hm⟩ | ⟨hk,c,hc,hcell⟩
 ·exact wpAny_Name (wpAny_loadName_local I.ok.kind hk hn hm fin) hd
 ·rcases hk with hk | hk
  ·exact wpAny_Name (wpAny_loadName_cell I.ok.kind hk hc hcell fin) hd
  ·exact wpAny_Name (wpAny_loadName_free I.ok.kind hk hc hcell fin hcd) hd
theorem Af {i j pos}:PE X (.Constant (.int i) j pos) (tC (.int i)):=fun _ _ _ H _ I h=>wpAny_Constant_int ⟨.int i,H,I.tok _,⟨_,rfl⟩,h⟩
theorem Gz {b j pos}:PE X (.Constant (.bool b) j pos) (tC (.bl b)):=fun _ _ _ H _ I h=>Constant_bool ⟨.bl b,H,I,rfl,h⟩
theorem Ki {j pos}:PE X (.Constant .none j pos) (tC .non):=fun _ _ _ H _ I h=>Constant_none ⟨.non,H,I,rfl,h⟩
theorem As {x j pos}:PE X (.Constant (.str x) j pos) (tC (.str x)):=fun _ _ _ H _ I h=>Calls.Constant_str ⟨.str x,H,I.tok _,⟨_,rfl⟩,h⟩
def Gl (X:Cx)(x:Str):Prop:=X.env.kindOf x=some .globalImplicit
theorem Ei {E:Value->Shared->Prop}{pins:List (Addr×Obj)}{s:Shared}{σ:St}{H:Hp}{x:Str}{u:Value}{pos:Pos}{Q:Value->Shared->Prop}(I:Inv X pins σ H s)(hg:Gl X x)(hm:X.mg x=some u)(h:Q u s)
  (hd:(x==("__debug__":Str))=false:=by decide):wpAny (model X.prog X.w) X.A (eval (.Name x pos) X.env) Q E s :=
 Calls.Name_function_global I.ok.kind hg (Calls.loadGlobal_global (by rw [I.ok.glob];exact I.mod.glob.keeps I.bk) hm h) hd
theorem G7 {E:Value->Shared->Prop}{pins:List (Addr×Obj)}{s:Shared}{σ:St}{H:Hp}{x:Str}{u:Value}{pos:Pos}{Q:Value->Shared->Prop}(I:Inv X pins σ H s)(hg:Gl X x)(hm:X.mg x=none)(hv:bootBuiltins x=some u)(h:Q u s)
  (hn:x≠"__name__":=by decide)(hd:(x==("__debug__":Str))=false:=by decide):wpAny (model X.prog X.w) X.A (eval (.Name x pos) X.env) Q E s:=by
 obtain ⟨mb,h1,h2⟩:=I.mod.blt
 exact Calls.Name_function_global I.ok.kind hg (Calls.loadGlobal_builtin (by rw [I.ok.glob];exact I.mod.glob.keeps I.bk) hm (by rw [I.ok.blt];exact h1.keeps I.bk) ((h2 x hn).trans hv) h) hd
theorem Bz {x:Str}{v:V}{u:Value}{pos:Pos}(hg:Gl X x)(hm:X.mg x=some u)(r:Bc v u)(hd:(x==("__debug__":Str))=false:=by decide):PE X (.Name x pos) (tC v) :=
 fun _ _ _ H _ I h=>Ei I hg hm ⟨v,H,I,r,h⟩ hd
theorem F5 {x:Str}{v:V}{u:Value}{pos:Pos}(hg:Gl X x)(hm:X.mg x=none)(hv:bootBuiltins x=some u)(r:Bc v u)(hn:x≠"__name__":=by decide)(hd:(x==("__debug__":Str))=false:=by decide):PE X (.Name x pos) (tC v) :=
 fun _ _ _ H _ I h=>G7 I hg hm hv ⟨v,H,I,r,h⟩ hn hd
variable {a b:Expr} {ta tb:TE} {pos:Pos}
def PC (X:Cx)(op:CmpOp)(a b:Expr)(t:TE):Prop :=
 ∀ (pins:List (Addr×Obj)) (s:Shared) (σ:St) (H:Hp) (Q:VK),Inv X pins σ H s->t σ H Q ->
  wpAny (model X.prog X.w) X.A (eval a X.env) (fun v s₁=>wpAny (model X.prog X.w) X.A (eval b X.env) (fun u s₂=>wpAny (model X.prog X.w) X.A (compareOp op v u) (EP X pins σ Q) X.xe s₂) X.xe s₁) X.xe s
theorem mO (b:Expr){op:CmpOp}(h:op≠.In)(h2:op≠.NotIn):behindInMarks op b=false:=by
 have e1:(op==CmpOp.In)=false:=by cases op<;>first | rfl | exact absurd rfl h
 have e2:(op==CmpOp.NotIn)=false:=by cases op<;>first | rfl | exact absurd rfl h2
 cases b<;>simp [behindInMarks,e1,e2]
def vC (ta:TE):TE:=fun σ H Q=>ta σ H fun x H1=>Q (.bl (decide (x=.non))) H1
def qS (ta:TE):TE:=fun σ H Q=>ta σ H fun x H1=>Q (.bl (!decide (x=.non))) H1
theorem Bc.none_iff {x:V}{v:Value}(r:Bc x v):(v==Value.none)=decide (x=.non):=by
 cases x with
 | non=>cases r;rfl
 | bl _=>cases r;rfl
 | int _=>obtain ⟨t,rfl⟩:=r;rfl
 | str _=>obtain ⟨t,rfl⟩:=r;rfl
 | byt _=>obtain ⟨t,rfl⟩:=r;rfl
 | flt _=>obtain ⟨t,rfl⟩:=r;rfl
 | ref _=>cases r;rfl
 | ty _=>cases r;rfl
theorem tM {j pos'}(ha:PE X a ta):PC X .Is a (.Constant .none j pos') (vC ta):=by
 intro pins s σ H Q I h
 refine thn (ha pins s σ H _ I h) fun v s1 ⟨x,H1,I1,r1,q1⟩=>?_
 exact Constant_none (is_none_gen ⟨.bl _,H1,I1,by rw [r1.none_iff];rfl,q1⟩)
theorem nZ {j pos'}(ha:PE X a ta):PC X .IsNot a (.Constant .none j pos') (qS ta):=by
 intro pins s σ H Q I h
 refine thn (ha pins s σ H _ I h) fun v s1 ⟨x,H1,I1,r1,q1⟩=>?_
 exact Constant_none (isnot_none_gen ⟨.bl _,H1,I1,by rw [r1.none_iff];rfl,q1⟩)
def tB (t:TE):TT:=fun σ H Q=>t σ H fun x H1=>∃ c,x=.bl c/\Q c H1
theorem lK {op:CmpOp}{t:TE}(h:PC X op a b t)(h1:behindInMarks op b=false:=by first | exact mO _ (by decide) (by decide) | rfl):PT X (.Compare a [op] [b] pos) (tB t):=by
 intro pins s σ H Q I hw
 refine wpAny_isTrue_Compare1 (thn (h pins s σ H _ I hw) fun v s1 h1=>thn h1 fun u s2 h2=>thn h2 fun c s3 ⟨x,H1,I1,r1,q1⟩=>?_) h1
 obtain ⟨d,rfl,q⟩:=q1
 cases r1
 exact wpAny_truthy_bool ⟨H1,I1,q⟩
theorem C5 {e:Expr}{t:TE}(h:PE X e t)(he:∀ whole,isTrue e X.env whole=(do let v <- whole;standAt e.pos;holding [v] (truthy v)):=by intro _;rfl):PT X e (tB t):=by
 intro pins s σ H Q I hw
 refine isTrue_plain (thn (h pins s σ H _ I hw) fun v s1 ⟨x,H1,I1,r1,q1⟩=>?_) (he _)
 obtain ⟨d,rfl,q⟩:=q1
 cases r1
 exact wpAny_truthy_bool ⟨H1,I1,q⟩
variable {tA tB':TT} {rest:List Expr}
def vL (t u:TT):TT:=fun σ H Q=>t σ H fun c H1=>if c=true then u σ H1 Q else Q false H1
def tOr (t u:TT):TT:=fun σ H Q=>t σ H fun c H1=>if c=true then Q true H1 else u σ H1 Q
def xA (t:TT):TT:=fun σ H Q=>t σ H fun c H1=>Q (!c) H1
theorem Kp (ha:PT X a tA):PW X (.BoolOp .And [a] pos) tA:=by
 intro wh pins s σ H Q I h
 refine isTrue_and (thn (ha pins s σ H Q I h) fun c s1 e=>?_)
 cases c with
 | true=>exact isTrue_and_nil e
 | false=>exact e
theorem La (ha:PT X a tA):PW X (.BoolOp .Or [a] pos) tA:=by
 intro wh pins s σ H Q I h
 refine isTrue_or (thn (ha pins s σ H Q I h) fun c s1 e=>?_)
 cases c with
 | false=>exact isTrue_or_nil e
 | true=>exact e
theorem Nu (ha:PT X a tA)(hb:PW X (.BoolOp .And (b::rest) pos) tB'):PW X (.BoolOp .And (a::b::rest) pos) (vL tA tB'):=by
 intro wh pins s σ H Q I h
 refine isTrue_and (thn (ha pins s σ H _ I h) fun c s1 ⟨H1,I1,q1⟩=>?_)
 cases c with
 | true=>exact hb wh pins s1 σ H1 Q I1 q1
 | false=>exact ⟨H1,I1,q1⟩
theorem K0 (ha:PT X a tA)(hb:PW X (.BoolOp .Or (b::rest) pos) tB'):PW X (.BoolOp .Or (a::b::rest) pos) (tOr tA tB'):=by
 intro wh pins s σ H Q I h
 refine isTrue_or (thn (ha pins s σ H _ I h) fun c s1 ⟨H1,I1,q1⟩=>?_)
 cases c with
 | true=>exact ⟨H1,I1,q1⟩
 | false=>exact hb wh pins s1 σ H1 Q I1 q1
theorem E3 (ha:PT X a tA):PT X (.UnaryOp .Not a pos) (xA tA):=by
 intro pins s σ H Q I h
 exact isTrue_not (ha pins s σ H (fun c H1=>Q (!c) H1) I h)
def rF (ta tb:TE):TE:=fun σ H Q=>ta σ H fun x H1=>∃ c,x=.bl c/\if c=true then tb σ H1 Q else Q (.bl false) H1
def qQ (ta:TE):TE:=fun σ H Q=>ta σ H fun x H1=>∃ c,x=.bl c/\Q (.bl (!c)) H1
theorem lT {op}{t:TE}(h:PE X a t):PE X (.BoolOp op [a] pos) t:=fun pins s σ H Q I hw=>BoolOp_one (h pins s σ H Q I hw)
theorem iH (ha:PE X a ta)(hb:PE X (.BoolOp .And (b::rest) pos) tb):PE X (.BoolOp .And (a::b::rest) pos) (rF ta tb):=by
 intro pins s σ H Q I h
 refine BoolOp_and (thn (ha pins s σ H _ I h) fun v s1 ⟨x,H1,I1,r1,q1⟩=>?_)
 obtain ⟨c,rfl,q1⟩:=q1
 cases r1
 refine wpAny_truthy_bool ?_
 cases c with
 | true=>exact hb pins s1 σ H1 Q I1 q1
 | false=>exact ⟨.bl false,H1,I1,rfl,q1⟩
theorem tE (ha:PE X a ta):PE X (.UnaryOp .Not a pos) (qQ ta):=by
 intro pins s σ H Q I h
 refine UnaryOp_ (thn (ha pins s σ H _ I h) fun v s1 ⟨x,H1,I1,r1,q1⟩=>?_)
 obtain ⟨c,rfl,q1⟩:=q1
 cases r1
 exact not_of (wpAny_truthy_bool ⟨.bl (!c),H1,I1,rfl,q1⟩)
def tIf (t:TT)(ta tb:TE):TE:=fun σ H Q=>t σ H fun c H1=>if c=true then ta σ H1 Q else tb σ H1 Q
theorem Gm {c:Expr}(hc:PT X c tA)(ha:PE X a ta)(hb:PE X b tb):PE X (.IfExp c a b pos) (tIf tA ta tb):=by
 intro pins s σ H Q I h
 refine wpAny_IfExp (thn (hc pins s σ H _ I h) fun d s1 ⟨H1,I1,q1⟩=>?_)
 cases d with
 | true=>exact ha pins s1 σ H1 Q I1 q1
 | false=>exact hb pins s1 σ H1 Q I1 q1
end
def SqL (K:PySem.W.Frag)(H:Hp)(a:Addr)(xs:List V):Prop :=
 Rd H a (.lst xs) \/
  ∃ (o:Obj) (its:Array Value) (n:Nat),K.lookup a=some o/\o.cls=.type "list"/\o.dict=none/\o.data=.seq its n/\its.size<=sizeLine/\A0 xs its.toList
def SqT (K:PySem.W.Frag)(H:Hp)(a:Addr)(xs:List V):Prop :=
 Rd H a (.tup xs) \/
  ∃ (o:Obj) (its:Array Value) (n:Nat),K.lookup a=some o/\o.cls=.type "tuple"/\o.data=.seq its n/\its.size<=sizeLine/\A0 xs its.toList
def yH:Value->Option V
 | .none=>some .non
 | .bool b=>some (.bl b)
 | .int i _=>some (.int i)
 | .str x _=>some (.str x)
 | .bytes b _=>some (.byt b)
 | .float b _=>some (.flt b)
 | .ref a=>some (.ref a)
 | .type n=>some (.ty n)
 | _=>none
theorem Bc.abs {x:V}{u:Value}(r:Bc x u):yH u=some x:=by
 cases x with
 | non=>cases r;rfl
 | bl _=>cases r;rfl
 | int _=>obtain ⟨t,rfl⟩:=r;rfl
 | str _=>obtain ⟨t,rfl⟩:=r;rfl
 | byt _=>obtain ⟨t,rfl⟩:=r;rfl
 | flt _=>obtain ⟨t,rfl⟩:=r;rfl
 | ref _=>cases r;rfl
 | ty _=>cases r;rfl
theorem Bc.inj {x y:V}{u:Value}(r:Bc x u)(q:Bc y u):x=y:=Option.some.inj (r.abs.symm.trans q.abs)
theorem A0.inj:∀ {xs ys:List V} {us:List Value},A0 xs us->A0 ys us->xs=ys
 | _,_,_,.nil,.nil=>rfl
 | _,_,_,.cons r t,.cons r' t'=>by rw [r.inj r',A0.inj t t']
section
variable {X:Cx} {pins:List (Addr×Obj)} {σ:St} {H:Hp} {s:Shared} {a:Addr} {xs ys:List V}
theorem SqL.of {K:PySem.W.Frag}(h:H a=some (.lst xs)):SqL K H a xs:=.inl (.inl h)
theorem SqT.of {K:PySem.W.Frag}(h:H a=some (.tup xs)):SqT K H a xs:=.inl (.inl h)
theorem Inv.list (I:Inv X pins σ H s)(h:SqL X.K H a xs):∃ its:List Value,A0 xs its/\PlainL s.heap a its.toArray/\xs.length<=sizeLine:=by
 rcases h with h | ⟨o,its,n,hk,hc,hd,hs,hz,r⟩
 ·obtain ⟨z,its,n,r,e⟩:=h.ok I.hok
  exact ⟨its,r,⟨_,n,e,rfl,rfl,rfl⟩,z⟩
 ·refine ⟨its.toList,r,⟨o,n,I.kIn a o hk,hc,hd,by simpa using hs⟩,?_⟩
  have e:=r.length
  simp only [Array.length_toList] at e
  omega
theorem Inv.tuple (I:Inv X pins σ H s)(h:SqT X.K H a xs):∃ its:List Value,A0 xs its/\IsTup s.heap a its.toArray/\xs.length<=sizeLine:=by
 rcases h with h | ⟨o,its,n,hk,hc,hs,hz,r⟩
 ·obtain ⟨z,its,r,p⟩:=h.ok I.hok
  exact ⟨its,r,p,z⟩
 ·refine ⟨its.toList,r,⟨o,I.kIn a o hk,hc,n,by simpa using hs⟩,?_⟩
  have e:=r.length
  simp only [Array.length_toList] at e
  omega
theorem Inv.list_inj (I:Inv X pins σ H s)(h:SqL X.K H a xs)(h':SqL X.K H a ys):xs=ys:=by
 obtain ⟨its,r,⟨o,n,e,_,_,d⟩,_⟩:=I.list h
 obtain ⟨its',r',⟨o',n',e',_,_,d'⟩,_⟩:=I.list h'
 rw [e] at e';cases e'
 rw [d] at d'
 injection d' with d1 _
 have:its=its':=by simpa using congrArg Array.toList d1
 subst this
 exact r.inj r'
theorem Inv.tuple_inj (I:Inv X pins σ H s)(h:SqT X.K H a xs)(h':SqT X.K H a ys):xs=ys:=by
 obtain ⟨its,r,⟨o,e,_,n,d⟩,_⟩:=I.tuple h
 obtain ⟨its',r',⟨o',e',_,n',d'⟩,_⟩:=I.tuple h'
 rw [e] at e';cases e'
 rw [d] at d'
 injection d' with d1 _
 have:its=its':=by simpa using congrArg Array.toList d1
 subst this
 exact r.inj r'
end
abbrev Cx.wish (X:Cx)(E:Value->Shared->Prop):Cx:={ X with xe:=E }
abbrev Cx.nox (X:Cx):Cx:=X.wish fun _ _=>False
theorem Cx.Ok.wish {X:Cx}(ok:X.Ok)(E:Value->Shared->Prop):(X.wish E).Ok :=
 ⟨ok.mod,ok.kind,ok.glob,ok.blt,ok.above,ok.inj,ok.has,ok.cab,ok.hd,ok.frames,ok.stk,ok.exf,ok.bs,ok.bsz,ok.noex,ok.exfs,ok.funs,ok.frf⟩
theorem Cx.Ok.unwish {X:Cx}{E:Value->Shared->Prop}(ok:(X.wish E).Ok):X.Ok :=
 ⟨ok.mod,ok.kind,ok.glob,ok.blt,ok.above,ok.inj,ok.has,ok.cab,ok.hd,ok.frames,ok.stk,ok.exf,ok.bs,ok.bsz,ok.noex,ok.exfs,ok.funs,ok.frf⟩
section
variable {X:Cx} {pins:List (Addr×Obj)} {σ:St} {H:Hp} {s:Shared} {E:Value->Shared->Prop}
theorem Inv.wish (I:Inv X pins σ H s)(E:Value->Shared->Prop):Inv (X.wish E) pins σ H s:=⟨I.ok.wish E,I.os,I.bare,I.base,I.loc,I.cell,I.free,I.freeC,I.pin,I.hok,I.len⟩
theorem Inv.unwish (I:Inv (X.wish E) pins σ H s):Inv X pins σ H s:=⟨I.ok.unwish,I.os,I.bare,I.base,I.loc,I.cell,I.free,I.freeC,I.pin,I.hok,I.len⟩
theorem SP.unwish {D:Hb}{f:Flow}{s':Shared}(h:SP (X.wish E) pins D f s'):SP X pins D f s':=by
 cases f with
 | next=>obtain ⟨σ',H',I,q⟩:=h;exact ⟨σ',H',I.unwish,q⟩
 | brk=>obtain ⟨σ',H',I,q⟩:=h;exact ⟨σ',H',I.unwish,q⟩
 | cont=>obtain ⟨σ',H',I,q⟩:=h;exact ⟨σ',H',I.unwish,q⟩
 | ret u=>obtain ⟨v,σ',H',I,r,q⟩:=h;exact ⟨v,σ',H',I.unwish,r,q⟩
theorem PSs.nox {st:List Stmt}{t:TS}(h:PSs X.nox st t):PSs X st t:=fun pins s σ H D I hw =>
 wpAny_mono (h pins s σ H D (I.wish _) hw) (fun _ _ q=>q.unwish) fun _ _ z=>False.elim z
end
section
variable {X:Cx} {st:Stmt} {rest:List Stmt} {t u:TS} {e:Expr} {te:TE} {pos:Pos}
def qV:TS:=fun D σ H=>D.nx σ H
def sL (t u:TS):TS:=fun D σ H=>t { D with nx:=u D } σ H
theorem A6:PSs X [] qV:=fun _ _ σ H _ I h=>wpAny_execs_nil ⟨σ,H,I,h⟩
theorem Ab (h1:PS X st t)(h2:PSs X rest u):PSs X (st::rest) (sL t u):=by
 intro pins s σ H D I h
 refine wpAny_execs_cons (thn (h1 pins s σ H { D with nx:=u D } I h) fun f s1 q=>?_)
 cases f with
 | next =>
  obtain ⟨σ',H',I',q⟩:=q
  exact h2 pins s1 σ' H' D I' q
 | ret v=>exact q
 | brk=>exact q
 | cont=>exact q
theorem Ag (h1:PS X st t):PSs X [st] t:=by
 intro pins s σ H D I h
 refine wpAny_execs_cons (thn (h1 pins s σ H D I h) fun f s1 q=>?_)
 cases f with
 | next=>exact wpAny_execs_nil q
 | ret v=>exact q
 | brk=>exact q
 | cont=>exact q
theorem Inv.quiet {pins:List (Addr×Obj)}{σ:St}{H:Hp}{s:Shared}(I:Inv X pins σ H s):interactive X.env=false:=by simp [interactive,I.ok.kind]
def lJ (te:TE):TS:=fun D σ H=>te σ H fun _ H1=>D.nx σ H1
theorem Bj (he:PE X e te)(hs:swapsWith e none pos.line X.env=pure false:=by rfl):PS X (.Expr e pos) (lJ te):=by
 intro pins s σ H D I h
 exact wpAny_Expr_any (thn (he pins s σ H _ I h) fun v s1 ⟨x,H1,I1,r1,q1⟩=>⟨σ,H1,I1,q1⟩) I.quiet hs
def wU (te:TE):TS:=fun D σ H=>te σ H D.rt
theorem Ao (he:PE X e te):PS X (.Return (some e) pos) (wU te):=by
 intro pins s σ H D I h
 exact wpAny_Return_some (thn (he pins s σ H _ I h) fun v s1 ⟨x,H1,I1,r1,q1⟩=>⟨x,σ,H1,I1,r1,q1⟩)
def tX (c:TT)(t u:TS):TS:=fun D σ H=>c σ H fun b H1=>if b=true then t D σ H1 else u D σ H1
theorem B4 {c:Expr}{a b:List Stmt}{tc:TT}(hc:PT X c tc)(ha:PSs X a t)(hb:PSs X b u):PS X (.If c a b pos) (tX tc t u):=by
 intro pins s σ H D I h
 refine wpAny_If (thn (hc pins s σ H _ I h) fun d s1 ⟨H1,I1,q1⟩=>?_)
 cases d with
 | true=>exact ha pins s1 σ H1 D I1 q1
 | false=>exact hb pins s1 σ H1 D I1 q1
def rZ:TS:=fun _ _ _=>False
theorem Bi:PS X st rZ:=fun _ _ _ _ _ _ h=>h.elim
end
abbrev TG:=V->St->Hp->(St->Hp->Prop)->Prop
abbrev TGs:=List V->St->Hp->(St->Hp->Prop)->Prop
def PG (X:Cx)(target:Expr)(t:TG):Prop :=
 ∀ (pins:List (Addr×Obj)) (s:Shared) (σ:St) (H:Hp) (v:V) (u:Value) (Q:St->Hp->Prop),Inv X pins σ H s->Bc v u->t v σ H Q ->
  wpAny (model X.prog X.w) X.A (assign target X.env u) (fun _ s'=>∃ σ' H',Inv X pins σ' H' s'/\Q σ' H') X.xe s
def PGs (X:Cx)(ts:List Expr)(t:TGs):Prop :=
 ∀ (pins:List (Addr×Obj)) (s:Shared) (σ:St) (H:Hp) (vs:List V) (us:List Value) (Q:St->Hp->Prop),Inv X pins σ H s->A0 vs us->t vs σ H Q ->
  wpAny (model X.prog X.w) X.A (assignInOrder ((assignEach ts X.env).map (·.2)) us) (fun _ s'=>∃ σ' H',Inv X pins σ' H' s'/\Q σ' H') X.xe s
abbrev pE:=V->V->V->Hp->(Hp->Prop)->Prop
def vQ (X:Cx)(t:pE):Prop :=
 ∀ (pins:List (Addr×Obj)) (s:Shared) (σ:St) (H:Hp) (o i v:V) (ov iv u:Value) (Q:Hp->Prop),Inv X pins σ H s->Bc o ov->Bc i iv->Bc v u->t o i v H Q ->
  wpAny (model X.prog X.w) X.A (setItem ov iv u) (fun _ s'=>∃ H',Inv X pins σ H' s'/\Q H') X.xe s
abbrev TIp:=V->V->Hp->VK->Prop
def PIp (X:Cx)(op:Operator)(t:TIp):Prop :=
 ∀ (pins:List (Addr×Obj)) (s:Shared) (σ:St) (H:Hp) (x y:V) (v u:Value) (Q:VK),Inv X pins σ H s->Bc x v->Bc y u->t x y H Q ->
  wpAny (model X.prog X.w) X.A (inplaceOp op v u) (EP X pins σ Q) X.xe s
section
variable {X:Cx} {pos:Pos}
def Fl (i:Nat):TG:=fun v σ H Q=>Q (σ.set i (some v)) H
theorem Bn {i:Nat}{x:Str}(hN:X.N.Nodup)(hi:X.N[i]?=some x)(hx:Loc X.env.scope x)(hf:X.fn x=true\/X.env.scope.names.lookup x=some .local:=by first | exact .inl rfl | exact .inr rfl | assumption):PG X (.Name x pos) (Fl i):=by
 intro pins s σ H v u Q I r h
 exact wpAny_assign_Name (Lz I hN hi hx r (fun s' I'=>⟨_,H,I',h⟩) hf)
def mS:TGs:=fun vs σ H Q=>vs=[]/\Q σ H
def Mt (t:TG)(u:TGs):TGs:=fun vs σ H Q=>∃ v r,vs=v::r/\t v σ H fun σ' H'=>u r σ' H' Q
theorem Me:PGs X [] mS:=by
 intro pins s σ H vs us Q I r h
 obtain ⟨e,h⟩:=h
 subst e
 cases r
 exact assignInOrder_nil ⟨σ,H,I,h⟩
theorem Dw {e:Expr}{es:List Expr}{t:TG}{u:TGs}(h1:PG X e t)(h2:PGs X es u)
  (hs:(assignEach (e::es) X.env).map (·.2)=assign e X.env::(assignEach es X.env).map (·.2):=by rfl):PGs X (e::es) (Mt t u):=by
 intro pins s σ H vs us Q I r h
 obtain ⟨v,vr,e1,h⟩:=h
 subst e1
 cases r with
 | cons r rr =>
  rw [hs]
  refine assignInOrder_cons (thn (h1 pins s σ H _ _ _ I r h) fun _ s1 ⟨σ1,H1,I1,q1⟩=>?_)
  exact h2 pins s1 σ1 H1 _ _ Q I1 rr q1
def mX (K:PySem.W.Frag)(n:Nat)(t:TGs):TG:=fun v σ H Q=>∃ a xs,v=.ref a/\SqT K H a xs/\xs.length=n/\t xs σ H Q
theorem Sj {es:List Expr}{k:Nat}{t:TGs}{n:Nat}(hc:X.calm=true)(h:PGs X es t)
  (hn:(assignEach es X.env).length=n:=by rfl)(hst:(assignEach es X.env).findIdx? (·.1)=none:=by rfl):PG X (.Tuple es k pos) (mX X.K n t):=by
 intro pins s σ H v u Q I r hw
 obtain ⟨a,xs,e1,hq,hl,hw⟩:=hw
 subst e1
 cases r
 obtain ⟨its,rv,ht,hz⟩:=I.tuple hq
 refine assign_Tuple_tuple (I.ok.hd hc) ht (by simp [hn,<- hl,rv.length]) hst fun h' hx=>?_
 have I1:Inv X pins σ H { s with heap:=h' }:=I.kept (t':=s.toks) fun b o e=>hx b o (Nat.ne_of_lt (Heap.lt_size e)) e
 exact h pins _ σ H xs _ Q I1 (by simpa using rv) hw
def iI (te:TE)(g:TG):TS:=fun D σ H=>te σ H fun x H1=>g x σ H1 D.nx
theorem Am {i:Nat}{x:Str}{e:Expr}{te:TE}{pos':Pos}(hN:X.N.Nodup)(hi:X.N[i]?=some x)(hx:Loc X.env.scope x)(he:PE X e te)(hs:swapsWith e (some (.Name x pos')) pos.line X.env=pure false:=by rfl)(hf:X.fn x=true\/X.env.scope.names.lookup x=some .local:=by first | exact .inl rfl | exact .inr rfl | assumption) :
  PS X (.Assign [.Name x pos'] e pos) (iI te (Fl i)):=by
 intro pins s σ H D I h
 refine wpAny_Assign_Name (thn (he pins s σ H _ I h) fun v s1 ⟨y,H1,I1,r1,q1⟩=>?_) hs
 exact Lz I1 hN hi hx r1 (fun s2 I2=>⟨_,H1,I2,q1⟩) hf
def wZ (i:Nat)(te:TE)(ti:TIp):TS:=fun D σ H=>∃ x,σ[i]?=some (some x)/\te σ H fun y H1=>ti x y H1 fun z H2=>D.nx (σ.set i (some z)) H2
theorem F9 {i:Nat}{x:Str}{e:Expr}{te:TE}{op:Operator}{ti:TIp}{pos':Pos}(hN:X.N.Nodup)(hi:X.N[i]?=some x)(hx:Loc X.env.scope x)(he:PE X e te)(ho:PIp X op ti)(hf:X.fn x=true\/X.env.scope.names.lookup x=some .local:=by first | exact .inl rfl | exact .inr rfl | assumption) :
  PS X (.AugAssign (.Name x pos') op e pos) (wZ i te ti):=by
 intro pins s σ H D I h
 obtain ⟨v,e1,h⟩:=h
 obtain ⟨m,hn,hl⟩:=I.loc
 have vis:Vis X.env.scope x:=by rcases hx with k | k;exact .inl k;exact .inr (.inl k)
 obtain ⟨u,r,l⟩:=hl i x v hi e1 vis
 refine wpAny_AugAssign_Name ?_
 have go:wpAny (model X.prog X.w) X.A (eval e X.env) (fun w s₂=>wpAny (model X.prog X.w) X.A (inplaceOp op u w) (fun r s₃=>wpAny (model X.prog X.w) X.A (storeName X.env x r) (fun _=>SP X pins D .next) X.xe s₃) X.xe s₂) X.xe s:=by
  refine thn (he pins s σ H _ I h) fun w s1 ⟨y,H1,I1,r1,q1⟩=>?_
  refine thn (ho pins s1 σ H1 v y u w _ I1 r r1 q1) fun z s2 ⟨zv,H2,I2,r2,q2⟩=>?_
  exact Lz I2 hN hi hx r2 (fun s3 I3=>⟨_,H2,I3,q2⟩) hf
 rcases l with ⟨hk,hm⟩ | ⟨hk,c,hc,hcell⟩
 ·exact wpAny_loadName_local I.ok.kind hk hn hm go
 ·rcases hk with hk | hk
  ·exact wpAny_loadName_cell I.ok.kind hk hc hcell go
  ·rcases hx with k | k
   ·have:X.env.scope.names.lookup x=some .free:=hk
    rw [k] at this;cases this
   ·have:X.env.scope.names.lookup x=some .free:=hk
    rw [k] at this;cases this
def rC (to ti te:TE)(tget:V->V->Hp->VK->Prop)(tip:TIp)(tset:pE):TS:=fun D σ H=>to σ H fun o H1=>ti σ H1 fun i H2=>tget o i H2 fun x H3=>te σ H3 fun y H4=>tip x y H4 fun z H5=>tset o i z H5 fun H6=>D.nx σ H6
def vK (X:Cx)(t:V->V->Hp->VK->Prop):Prop :=
 ∀ (pins:List (Addr×Obj)) (s:Shared) (σ:St) (H:Hp) (o i:V) (ov iv:Value) (Q:VK),Inv X pins σ H s->Bc o ov->Bc i iv->t o i H Q ->
  wpAny (model X.prog X.w) X.A (getItem ov iv) (EP X pins σ Q) X.xe s
theorem dZ {o i e:Expr}{to ti te:TE}{tget:V->V->Hp->VK->Prop}{tip:TIp}{tset:pE}{op:Operator}{tpos:Pos}(ho:PE X o to)(hi:PE X i ti)(hg:vK X tget)(he:PE X e te)(hp:PIp X op tip)(hs:vQ X tset)
  (ha:∀ ov iv new,augStore i ov iv new=(do holding [new,ov,iv] (setItem ov iv new);release [new,ov,iv] [];pure .next):=by intros;rfl):PS X (.AugAssign (.Subscript o i tpos) op e pos) (rC to ti te tget tip tset):=by
 intro pins s σ H D I h
 refine wpAny_AugAssign_SubscriptAny (thn (ho pins s σ H _ I h) fun ov s1 ⟨x1,H1,I1,r1,q1⟩=>?_) ha
 refine thn (hi pins s1 σ H1 _ I1 q1) fun iv s2 ⟨x2,H2,I2,r2,q2⟩=>?_
 refine thn (hg pins s2 σ H2 x1 x2 ov iv _ I2 r1 r2 q2) fun old s3 ⟨x3,H3,I3,r3,q3⟩=>?_
 refine thn (he pins s3 σ H3 _ I3 q3) fun v s4 ⟨x4,H4,I4,r4,q4⟩=>?_
 refine thn (hp pins s4 σ H4 x3 x4 old v _ I4 r3 r4 q4) fun new s5 ⟨x5,H5,I5,r5,q5⟩=>?_
 exact thn (hs pins s5 σ H5 x1 x2 x5 ov iv new _ I5 r1 r2 r5 q5) fun _ s6 ⟨H6,I6,q6⟩=>⟨σ,H6,I6,q6⟩
def ipI (f:Int->Int->Int):TIp:=fun x y H Q=>∃ i j,x=.int i/\y=.int j/\Q (.int (f i j)) H
theorem Hv:PIp X .Add (ipI fun i j=>i+j):=by
 intro pins s σ H x y v u Q I r1 r2 h
 obtain ⟨i,j,e1,e2,q⟩:=h
 subst e1;subst e2
 obtain ⟨t,rfl⟩:=r1
 obtain ⟨t',rfl⟩:=r2
 exact iadd_int ⟨.int _,H,I.tok _,⟨_,rfl⟩,q⟩
theorem kC:PIp X .Sub (ipI fun i j=>i-j):=by
 intro pins s σ H x y v u Q I r1 r2 h
 obtain ⟨i,j,e1,e2,q⟩:=h
 subst e1;subst e2
 obtain ⟨t,rfl⟩:=r1
 obtain ⟨t',rfl⟩:=r2
 exact isub_int ⟨.int _,H,I.tok _,⟨_,rfl⟩,q⟩
end
section
variable {X:Cx} {pos:Pos}
def mQ (c:TT)(tb:TS):TS:=fun D σ H=>∃ W:Nat->St->Hp->Prop,(∃ m,W m σ H)/\∀ m σ H,W m σ H ->
 c σ H fun b H1=>if b=true then ∃ N:St->Hp->Prop,(∀ σ' H',N σ' H'->∃ m',m'<m/\W m' σ' H')/\tb { D with nx:=N,ct:=N,bk:=D.nx } σ H1 else D.nx σ H1
theorem Jk {c:Expr}{body:List Stmt}{tc:TT}{tb:TS}(hp:PassesOwn (model X.prog X.w) X.A X.env X.xe)(hc:PT X c tc)(hb:PSs X body tb):PS X (.While c body [] pos) (mQ tc tb):=by
 intro pins s σ H D I h
 obtain ⟨W,⟨m0,w0⟩,turn⟩:=h
 refine wpAny_While (codeAny_whileLoop (fun n s'=>∃ σ' H',Inv X pins σ' H' s'/\W n σ' H') ?_ m0 ⟨σ,H,I,w0⟩)
 rintro n s1 ⟨σ1,H1,I1,w1⟩
 refine wpAny_passesOwn hp (thn (hc pins s1 σ1 H1 _ I1 (turn n σ1 H1 w1)) fun b s2 ⟨H2,I2,q2⟩=>?_)
 cases b with
 | true =>
  obtain ⟨N,hN,q2⟩:=q2
  rw [if_pos rfl]
  refine wpAny_passesOwn hp (thn (hb pins s2 σ1 H2 _ I2 q2) fun f s3 q3=>?_)
  cases f with
  | next =>
   obtain ⟨σ3,H3,I3,n3⟩:=q3
   obtain ⟨m',hm,w3⟩:=hN σ3 H3 n3
   exact ⟨m',hm,σ3,H3,I3,w3⟩
  | cont =>
   obtain ⟨σ3,H3,I3,n3⟩:=q3
   obtain ⟨m',hm,w3⟩:=hN σ3 H3 n3
   exact ⟨m',hm,σ3,H3,I3,w3⟩
  | brk=>exact q3
  | ret v=>exact q3
 | false =>
  rw [if_neg Bool.false_ne_true]
  exact wpAny_execs_nil ⟨σ1,H2,I2,q2⟩
end
structure It where
 go:Nat->Hp->Prop
 yld:Nat->Hp->V->Hp->Prop
 stop:Nat->Hp->Prop
def Ma (X:Cx)(pins:List (Addr×Obj))(H:Hp)(b:Addr):Prop :=
 H b=none/\b≠X.env.locals/\b∉X.fs/\(b∈X.ex\/X.s₀.heap.objs.size<=b)/\(∀ x c,X.env.cells.lookup x=some c->c≠b)/\∀ p∈X.pn++pins,p.1≠b
theorem Inv.fpOk {X:Cx}{pins:List (Addr×Obj)}{σ:St}{H H':Hp}{s:Shared}{b:Addr}(I:Inv X pins σ H s)(hb:s.heap.objs.size<=b)(hn:H' b=none):Ma X pins H' b:=by
 refine ⟨hn,Nat.ne_of_gt (Nat.lt_of_lt_of_le I.lt hb),I.nofs hb,.inr (Nat.le_trans I.sz hb),fun x c e z=>?_,fun p hp z=>?_⟩
 ·obtain ⟨v,q⟩:=I.cell x c e
  exact absurd (Nat.lt_of_lt_of_le q.lt (by rw [z];exact hb)) (Nat.lt_irrefl _)
 ·exact absurd (Nat.lt_of_lt_of_le (Heap.lt_size (I.pin p hp).1) (by rw [z];exact hb)) (Nat.lt_irrefl _)
structure Ni (P:Program) (w:World) (K:PySem.W.Frag) (tg:Expr) (J:It) (fp:List Addr) (it:Addr) (tn:Nat->Heap->Prop):Prop where
 mem:it∈fp
 obj:∀ i h,tn i h->∀ b∈fp,∃ o,h.get? b=some o/\∀ v,o.data≠.cell v
 keep:∀ i h h',tn i h->(∀ b∈fp,∀ o,h.get? b=some o->h'.get? b=some o)->tn i h'
 item:∀ (X:Cx),X.prog=P->X.w=w->X.K=K->X.calm=true->∀ (i:Nat) (pins:List (Addr×Obj)) (s:Shared) (σ:St) (H:Hp) (E:Value->Shared->Prop),Inv X pins σ H s->(∀ b∈fp,Ma X pins H b)->tn i s.heap->J.go i H ->
  wpAny (model P w) X.A (pyNext (.ref it)) (fun r s1=>∃ u,r=some u /\
   wpAny (model P w) X.A (letOwnedTupleGo tg (.ref it) u) (fun _ s2=>∃ x H',Inv X pins σ H' s2/\Bc x u/\J.yld i H x H'/\tn (i+1) s2.heap/\∀ b∈fp,H' b=none) E s1) E s
 done:∀ (X:Cx),X.prog=P->X.w=w->X.K=K->X.calm=true->∀ (i:Nat) (pins:List (Addr×Obj)) (s:Shared) (σ:St) (H:Hp) (E:Value->Shared->Prop),Inv X pins σ H s->(∀ b∈fp,Ma X pins H b)->tn i s.heap->J.stop i H ->
  wpAny (model P w) X.A (pyNext (.ref it)) (fun r s1=>r=none/\Inv X pins σ H s1) E s
 self:∀ (A:Around) (i:Nat) (s:Shared) (Q:Value->Shared->Prop) (E:Value->Shared->Prop),tn i s.heap->Q (.ref it) s->wpAny (model P w) A (pyIter (.ref it)) Q E s
abbrev TI:=St->Hp->(It->Hp->Prop)->Prop
def PIE (X:Cx)(pins:List (Addr×Obj))(σ:St)(tg:Expr)(R:It->Hp->Prop)(itv:Value)(s2:Shared):Prop :=
 ∃ (it:Addr) (fp:List Addr) (tn:Nat->Heap->Prop) (J:It) (H':Hp),itv=.ref it/\Inv X pins σ H' s2/\Ni X.prog X.w X.K tg J fp it tn/\tn 0 s2.heap/\(∀ b∈fp,Ma X pins H' b)/\R J H'
def PI (X:Cx)(tg iter:Expr)(wi:TI):Prop :=
 ∀ (pins:List (Addr×Obj)) (s:Shared) (σ:St) (H:Hp) (R:It->Hp->Prop),Inv X pins σ H s->wi σ H R ->
  wpAny (model X.prog X.w) X.A (eval iter X.env) (fun v s1=>wpAny (model X.prog X.w) X.A (pyIter v) (PIE X pins σ tg R) X.xe s1) X.xe s
theorem Xh {M : Model}{A : Around}{E : Value->Shared->Prop}{s : Shared}{tg : Expr}{it : Addr}{u : Value}{o : Obj}{n : String}{vs : Array Value}{Q : Unit->Shared->Prop}(ho : s.heap.get? it = some o)(hc : o.cls = .type n)(hd : o.data = .fields vs)
    (hn : ["enumerate", "zip", "dict_itemiterator", "dict_reverseitemiterator", "odict_iterator", "itertools.zip_longest", "itertools.pairwise"].contains n = false)(hQ : Q () s) : wpAny M A (letOwnedTupleGo tg (.ref it) u) Q E s := by
  unfold letOwnedTupleGo
  cases tg <;> first
    | exact wpAny_pure hQ
    | (cases u <;> first
        | exact wpAny_pure hQ
        | (refine wpAny_bind (wpAny_load ho ?_)
           rw [hc, hd]
           show wpAny M A (if (["enumerate", "zip", "dict_itemiterator", "dict_reverseitemiterator", "odict_iterator", "itertools.zip_longest", "itertools.pairwise"].contains n && vs[0]? == some (rawInt _)) = true then _ else _) Q E s
           rw [if_neg (by intro h; rw [hn, Bool.false_and] at h; cases h)]
           exact wpAny_pure hQ))
def Itl (K:PySem.W.Frag)(a:Addr):It :=
 ⟨fun i H=>∃ xs x,SqL K H a xs/\xs[i]?=some x,fun i H x H'=>H'=H/\∀ xs,SqL K H a xs->xs[i]?=some x,fun i H=>∃ xs,SqL K H a xs/\xs.length<=i⟩
def Itt (K:PySem.W.Frag)(a:Addr):It :=
 ⟨fun i H=>∃ xs x,SqT K H a xs/\xs[i]?=some x,fun i H x H'=>H'=H/\∀ xs,SqT K H a xs->xs[i]?=some x,fun i H=>∃ xs,SqT K H a xs/\xs.length<=i⟩
def Itr (lo:Int)(n:Nat):It:=⟨fun i _=>i<n,fun i H x H'=>H'=H/\x=.int (lo+i),fun i _=>n<=i⟩
theorem gP {P:Program}{w:World}{K:PySem.W.Frag}{tg:Expr}(a it:Addr):Ni P w K tg (Itl K a) [it] it (fun i h=>h.IsListIter it a i) where
 mem:=by simp
 obj:=fun i h st b hb=>by
  have e:b=it:=by simpa using hb
  subst e
  obtain ⟨o,e,c,d⟩:=st
  exact ⟨o,e,fun v z=>by rw [d] at z;cases z⟩
 keep:=fun i h h' st k=>st.at fun o e=>k it (by simp) o e
 item:=by
  intro X hP hw hK hc i pins s σ H E I hf st hg
  subst hP hw hK
  obtain ⟨xs,x,hq,hx⟩:=hg
  obtain ⟨its,rv,p,hz⟩:=I.list hq
  obtain ⟨u,hu,ru⟩:=rv.get hx
  obtain ⟨f0,f1,f2,f3,f4,f5⟩:=hf it (by simp)
  refine wpAny_pyNext_list_item st p.isList (x:=u) (by simpa using hu) fun h' st' sb=>?_
  have I1:Inv X pins σ H { s with heap:=h' }:=I.turned (t':=s.toks) (fun b o hb e=>(sb.2 b hb).trans e) f0 f1 f3 f4 f5
  obtain ⟨o,e,c,d⟩:=id st'
  exact ⟨u,rfl,Xh (s:={ s with heap:=h' }) e c d (by decide) ⟨x,H,I1,ru,⟨rfl,fun ys hy=>by rw [I.list_inj hy hq];exact hx⟩,st',fun b hb=>(hf b hb).1⟩⟩
 done:=by
  intro X hP hw hK hc i pins s σ H E I hf st hg
  subst hP hw hK
  obtain ⟨xs,hq,hx⟩:=hg
  obtain ⟨its,rv,p,hz⟩:=I.list hq
  obtain ⟨f0,f1,f2,f3,f4,f5⟩:=hf it (by simp)
  have hl:=rv.length
  exact wpAny_pyNext_list_end (I.ok.hd hc) st p.isList (by simp;omega) fun h' eb=>⟨rfl,I.turned (t':=s.toks) (fun b o hb e=>eb b o hb e) f0 f1 f3 f4 f5⟩
 self:=fun _ _ _ _ _ st h=>wpAny_pyIter_listiter st h
theorem cE {P:Program}{w:World}{K:PySem.W.Frag}{tg:Expr}(a it:Addr):Ni P w K tg (Itt K a) [it] it (fun i h=>h.IsTupleIter it a i) where
 mem:=by simp
 obj:=fun i h st b hb=>by
  have e:b=it:=by simpa using hb
  subst e
  obtain ⟨o,e,c,d⟩:=st
  exact ⟨o,e,fun v z=>by rw [d] at z;cases z⟩
 keep:=fun i h h' st k=>st.at fun o e=>k it (by simp) o e
 item:=by
  intro X hP hw hK hc i pins s σ H E I hf st hg
  subst hP hw hK
  obtain ⟨xs,x,hq,hx⟩:=hg
  obtain ⟨its,rv,p,hz⟩:=I.tuple hq
  obtain ⟨u,hu,ru⟩:=rv.get hx
  obtain ⟨f0,f1,f2,f3,f4,f5⟩:=hf it (by simp)
  refine wpAny_pyNext_tuple_item st (show s.heap.IsTuple a its.toArray from p) (x:=u) (by simpa using hu) fun h' st' sb=>?_
  have I1:Inv X pins σ H { s with heap:=h' }:=I.turned (t':=s.toks) (fun b o hb e=>(sb.2 b hb).trans e) f0 f1 f3 f4 f5
  obtain ⟨o,e,c,d⟩:=id st'
  exact ⟨u,rfl,Xh (s:={ s with heap:=h' }) e c d (by decide) ⟨x,H,I1,ru,⟨rfl,fun ys hy=>by rw [I.tuple_inj hy hq];exact hx⟩,st',fun b hb=>(hf b hb).1⟩⟩
 done:=by
  intro X hP hw hK hc i pins s σ H E I hf st hg
  subst hP hw hK
  obtain ⟨xs,hq,hx⟩:=hg
  obtain ⟨its,rv,p,hz⟩:=I.tuple hq
  obtain ⟨f0,f1,f2,f3,f4,f5⟩:=hf it (by simp)
  have hl:=rv.length
  exact wpAny_pyNext_tuple_end (I.ok.hd hc) st (show s.heap.IsTuple a its.toArray from p) (by simp;omega) fun h' eb=>⟨rfl,I.turned (t':=s.toks) (fun b o hb e=>eb b o hb e) f0 f1 f3 f4 f5⟩
 self:=fun _ _ _ _ _ st h=>wpAny_pyIter_tupleiter st h
theorem cW {P:Program}{w:World}{K:PySem.W.Frag}{tg:Expr}(it:Addr)(lo:Int)(n:Nat):Ni P w K tg (Itr lo n) [it] it (fun i h=>IsRangeIter h it (lo+(i:Nat)*1) ((n:Int)-(i:Nat)) 1) where
 mem:=by simp
 obj:=fun i h st b hb=>by
  have e:b=it:=by simpa using hb
  subst e
  exact ⟨_,st,fun v z=>by
   have z':Data.fields _=Data.cell v:=z
   cases z'⟩
 keep:=fun i h h' st k=>k it (by simp) _ st
 item:=by
  intro X hP hw hK hc i pins s σ H E I hf st hg
  subst hP hw hK
  obtain ⟨f0,f1,f2,f3,f4,f5⟩:=hf it (by simp)
  have W:=Walks.range (prog:=X.prog) (w:=X.w) (I.ok.hd hc) it lo 1 n
  refine W.item i s _ _ hg st fun v h' tk hv st' kk=>?_
  obtain ⟨t,rfl⟩:=hv
  have I1:Inv X pins σ H { s with heap:=h',toks:=tk }:=I.turned (fun b o hb e=>kk b o (by simpa using hb) e) f0 f1 f3 f4 f5
  refine ⟨_,rfl,Xh (s:={ s with heap:=h',toks:=tk }) (n:="range_iterator") st' rfl rfl (by decide) ⟨.int (lo+i),H,I1,⟨t,?_⟩,⟨rfl,rfl⟩,st',fun b hb=>(hf b hb).1⟩⟩
  rw [Int.mul_one]
 done:=by
  intro X hP hw hK hc i pins s σ H E I hf st hg
  subst hP hw hK
  obtain ⟨f0,f1,f2,f3,f4,f5⟩:=hf it (by simp)
  exact wpAny_pyNext_range_end (I.ok.hd hc) st (by have:n<=i:=hg;omega) fun h' eb=>⟨rfl,I.turned (t':=s.toks) (fun b o hb e=>eb b o hb e) f0 f1 f3 f4 f5⟩
 self:=fun _ _ _ _ _ st h=>wpAny_pyIter_rangeiter st h
section
variable {X:Cx} {tg:Expr}
def rB (K:PySem.W.Frag)(tl:TE):TI:=fun σ H R=>tl σ H fun x H1=>∃ a,x=.ref a/\(∃ xs,SqL K H1 a xs)/\R (Itl K a) H1
def uH (K:PySem.W.Frag)(tl:TE):TI:=fun σ H R=>tl σ H fun x H1=>∃ a,x=.ref a/\(∃ xs,SqT K H1 a xs)/\R (Itt K a) H1
theorem Fa {l:Expr}{tl:TE}(hl:PE X l tl):PI X tg l (rB X.K tl):=by
 intro pins s σ H R I h
 refine thn (hl pins s σ H _ I h) fun v s1 ⟨x,H1,I1,r1,q1⟩=>?_
 obtain ⟨a,e,⟨xs,hq⟩,q⟩:=q1
 subst e
 cases r1
 obtain ⟨its,rv,p,hz⟩:=I1.list hq
 refine wpAny_pyIter_list p.isList ?_
 refine ⟨s1.heap.objs.size,[s1.heap.objs.size],_,_,H1,rfl,I1.kept (t':=s1.toks) fun b o e=>Heap.get?_push_of_some _ e,gP a _,⟨_,Heap.get?_push_size _ rfl,rfl,rfl⟩,fun b hb=>?_,q⟩
 have e:b=s1.heap.objs.size:=by simpa using hb
 subst e
 exact I1.fpOk (Nat.le_refl _) (I1.hok.fresh (Nat.le_refl _))
theorem Z2 {l:Expr}{tl:TE}(hl:PE X l tl):PI X tg l (uH X.K tl):=by
 intro pins s σ H R I h
 refine thn (hl pins s σ H _ I h) fun v s1 ⟨x,H1,I1,r1,q1⟩=>?_
 obtain ⟨a,e,⟨xs,hq⟩,q⟩:=q1
 subst e
 cases r1
 obtain ⟨its,rv,p,hz⟩:=I1.tuple hq
 refine wpAny_pyIter_tuple (show s1.heap.IsTuple a its.toArray from p) ?_
 refine ⟨s1.heap.objs.size,[s1.heap.objs.size],_,_,H1,rfl,I1.kept (t':=s1.toks) fun b o e=>Heap.get?_push_of_some _ e,cE a _,⟨_,Heap.get?_push_size _ rfl,rfl,rfl⟩,fun b hb=>?_,q⟩
 have e:b=s1.heap.objs.size:=by simpa using hb
 subst e
 exact I1.fpOk (Nat.le_refl _) (I1.hok.fresh (Nat.le_refl _))
theorem jQ {pins:List (Addr×Obj)}{σ:St}{H:Hp}{s:Shared}{R:It->Hp->Prop}{E:Value->Shared->Prop}{lo hi:Int}{t u v:Tok}{tk:Nat}(I:Inv X pins σ H s)(h1:-(2 ^ 62)<=lo)(h2:lo<2 ^ 62)(h3:-(2 ^ 62)<=hi)(h4:hi<2 ^ 62)
  (q:R (Itr lo (hi-lo).toNat) H):wpAny (model X.prog X.w) X.A (pyIter (.ref s.heap.objs.size)) (PIE X pins σ tg R) E { s with heap:=s.heap.push { cls:=.type "range",data:=.fields #[.int lo t,.int hi u,.int 1 v] },toks:=tk }:=by
 refine wpAny_pyIter_range (IsRange.new ..) (small_one h1 h2 h3 h4) ?_
 have I1:Inv X pins σ H { s with heap:=s.heap.push { cls:=.type "range",data:=.fields #[.int lo t,.int hi u,.int 1 v] },toks:=tk }:=I.kept fun b o e=>Heap.get?_push_of_some _ e
 refine ⟨(s.heap.push { cls:=.type "range",data:=.fields #[.int lo t,.int hi u,.int 1 v] }).objs.size,[(s.heap.push { cls:=.type "range",data:=.fields #[.int lo t,.int hi u,.int 1 v] }).objs.size],_,_,H,rfl,
  I1.kept (t':=tk) fun b o e=>Heap.get?_push_of_some _ e,cW _ lo (hi-lo).toNat,?_,fun b hb=>?_,q⟩
 ·have e1:lo+((0:Nat):Int)*1=lo:=by simp
  have e2:(((hi-lo).toNat:Nat):Int)-((0:Nat):Int)=Builtin.Range.rangeSize lo hi 1:=by rw [rangeSize_one];split<;>omega
  show IsRangeIter _ _ (lo+((0:Nat):Int)*1) ((((hi-lo).toNat:Nat):Int)-((0:Nat):Int)) 1
  rw [e1,e2]
  exact Heap.get?_push_size _ rfl
 ·have e:b=(s.heap.push { cls:=.type "range",data:=.fields #[.int lo t,.int hi u,.int 1 v] }).objs.size:=by simpa using hb
  subst e
  exact I1.fpOk (Nat.le_refl _) (I1.hok.fresh (Nat.le_refl _))
def rE (ta:TA):TI:=fun σ H R=>ta σ H fun vs H1=>∃ j:Int,vs=[.int j]/\-(2 ^ 62)<=j/\j<2 ^ 62/\R (Itr 0 j.toNat) H1
theorem F7 {a:Expr}{ta:TA}{p pos:Pos}(hg:Gl X "range")(hm:X.mg "range"=none)(ha:PA X [a] ta)(hs:starEach [a] X.env=[(false,eval a X.env)]:=by rfl):PI X tg (.Call (.Name "range" p) [a] [] pos) (rE ta):=by
 intro pins s σ H R I h
 refine Call_ (G7 I hg hm boot_range (PyProof.Rows.callWith_type1 (thn (ha pos pins s σ H _ I h) fun us s1 ⟨vs,H1,I1,r1,q1⟩=>?_) hs rfl))
 obtain ⟨j,e,q1,q2,q⟩:=q1
 subst e
 cases r1 with
 | cons r rr =>
  cases rr
  obtain ⟨t,rfl⟩:=r
  exact call_range_1 (jQ I1 (by omega) (by omega) q1 q2 (by simpa using q))
def uS (wi:TI)(g:TG)(tb:TS):TS:=fun D σ H=>wi σ H fun J H1=>∃ W:Nat->Nat->St->Hp->Prop,(∃ m,W 0 m σ H1)/\∀ i m σ H,W i m σ H ->
 (J.stop i H/\D.nx σ H)\/(J.go i H/\∃ N:St->Hp->Prop,(∀ σ' H',N σ' H'->∃ m',m'<m/\W (i+1) m' σ' H')/\∀ x H',J.yld i H x H'->g x σ H' fun σ2 H2=>tb { D with nx:=N,ct:=N,bk:=D.nx } σ2 H2)
def Nv (fp:List Addr)(h:Heap):List (Addr×Obj):=fp.filterMap fun b=>(h.get? b).map fun o=>(b,o)
theorem E6 {fp:List Addr}{h:Heap}{b:Addr}{o:Obj}(hb:b∈fp)(e:h.get? b=some o):(b,o)∈Nv fp h:=List.mem_filterMap.mpr ⟨b,hb,by rw [e];rfl⟩
theorem gH {fp:List Addr}{h:Heap}{p:Addr×Obj}(hp:p∈Nv fp h):p.1∈fp/\h.get? p.1=some p.2:=by
 obtain ⟨b,hb,e⟩:=List.mem_filterMap.mp hp
 cases q:h.get? b with
 | none=>rw [q] at e;cases e
 | some o =>
  rw [q] at e
  have e':(b,o)=p:=Option.some.inj e
  subst e'
  exact ⟨hb,q⟩
theorem Inv.pinned {pins:List (Addr×Obj)}{σ:St}{H:Hp}{s:Shared}{fp:List Addr}(I:Inv X pins σ H s)(hf:∀ b∈fp,Ma X pins H b)(ho:∀ b∈fp,∃ o,s.heap.get? b=some o/\∀ v,o.data≠.cell v):Inv X (pins++Nv fp s.heap) σ H s :=
 I.pins_of fun p hp=>(List.mem_append.mp hp).elim (fun z=>I.pin p (List.mem_append_right _ z)) fun z=>by
  obtain ⟨hb,e⟩:=gH z
  obtain ⟨f0,f1,f2,_⟩:=hf p.1 hb
  obtain ⟨o,e',d⟩:=ho p.1 hb
  rw [e] at e';cases e'
  exact ⟨e,f0,f1,f2,d⟩
theorem Inv.unpinned {pins pl:List (Addr×Obj)}{σ:St}{H:Hp}{s:Shared}(I:Inv X (pins++pl) σ H s):Inv X pins σ H s:=I.pins_of fun p hp=>I.pin p (List.mem_append_right _ (List.mem_append_left _ hp))
theorem D0 {iter:Expr}{body:List Stmt}{wi:TI}{g:TG}{tb:TS}{pos:Pos}(hp:PassesOwn (model X.prog X.w) X.A X.env X.xe)(hc:X.calm=true)(hi:PI X tg iter wi)(hg:PG X tg g)(hb:PSs X body tb)
  (hs:∀ x,foldedSetIterable iter X.env x=pure x:=by intro _;rfl):PS X (.For tg iter body [] pos) (uS wi g tb):=by
 intro pins s σ H D I h
 refine wpAny_For (thn (hi pins s σ H _ I h) fun v s1 h1=>thn h1 fun itv s2 h2=>?_) hs
 obtain ⟨it,fp,tn,J,H2,e,I2,T,st2,f2,W,⟨m0,w0⟩,turn⟩:=h2
 subst e
 -- what stays true of the iterator's objects through the loop
 have stat:∀ {H':Hp},(∀ b∈fp,H' b=none)->∀ b∈fp,Ma X pins H' b:=fun hn b hb=>⟨hn b hb,(f2 b hb).2⟩
 refine codeAny_forLoop_any (fun n s'=>∃ i σ' H',Inv X pins σ' H' s'/\tn i s'.heap/\(∀ b∈fp,H' b=none)/\W i n σ' H') ?_ m0 ⟨0,σ,H2,I2,st2,fun b hb=>(f2 b hb).1,w0⟩
 rintro n s3 ⟨i,σ3,H3,I3,st3,fr3,w3⟩
 rcases turn i n σ3 H3 w3 with ⟨stop,qn⟩ | ⟨go,N,hN,step⟩
 ·refine wpAny_passesOwn hp (thn (T.done X rfl rfl rfl hc i pins s3 σ3 H3 X.xe I3 (stat fr3) st3 stop) fun r s4 ⟨hr,I4⟩=>?_)
  subst hr
  exact wpAny_execs_nil ⟨σ3,H3,I4,qn⟩
 ·refine wpAny_passesOwn hp (thn (T.item X rfl rfl rfl hc i pins s3 σ3 H3 X.xe I3 (stat fr3) st3 go) fun r s4 ⟨u,hr,h4⟩=>?_)
  subst hr
  refine wpAny_passesOwn hp (thn h4 fun _ s5 ⟨x,H5,I5,r5,y5,st5,fr5⟩=>?_)
  have I5':=I5.pinned (stat fr5) (T.obj _ _ st5)
  refine wpAny_passesOwn hp (thn (hg _ s5 σ3 H5 x u _ I5' r5 (step x H5 y5)) fun _ s6 ⟨σ6,H6,I6,q6⟩=>?_)
  refine wpAny_passesOwn hp (thn (hb _ s6 σ6 H6 _ I6 q6) fun f s7 q7=>?_)
  have again:∀ {σ7:St} {H7:Hp},Inv X (pins++Nv fp s5.heap) σ7 H7 s7->N σ7 H7->∃ m,m<n/\∃ i σ' H',Inv X pins σ' H' s7/\tn i s7.heap/\(∀ b∈fp,H' b=none)/\W i m σ' H':=fun {σ7 H7} I7 n7=>by
   obtain ⟨m',hm,w7⟩:=hN σ7 H7 n7
   refine ⟨m',hm,i+1,σ7,H7,I7.unpinned,T.keep _ _ _ st5 fun b hb o e=>(I7.pin (b,o) (List.mem_append_right _ (List.mem_append_right _ (E6 hb e)))).1,fun b hb=>?_,w7⟩
   obtain ⟨o,e,d⟩:=T.obj _ _ st5 b hb
   exact (I7.pin (b,o) (List.mem_append_right _ (List.mem_append_right _ (E6 hb e)))).2.1
  cases f with
  | next=>obtain ⟨σ7,H7,I7,n7⟩:=q7;exact again I7 n7
  | cont=>obtain ⟨σ7,H7,I7,n7⟩:=q7;exact again I7 n7
  | brk=>obtain ⟨σ7,H7,I7,q7⟩:=q7;exact ⟨σ7,H7,I7.unpinned,q7⟩
  | ret v=>obtain ⟨x7,σ7,H7,I7,r7,q7⟩:=q7;exact ⟨x7,σ7,H7,I7.unpinned,r7,q7⟩
end
theorem Mo {K:PySem.W.Frag}{a:Addr}{xs:List V}{g:TG}{tb:TS}{D:Hb}{σ:St}{H:Hp}(Pv:Nat->St->Hp->Prop)(h0:Pv 0 σ H)(hl:∀ i σ H,i<=xs.length->Pv i σ H->SqL K H a xs)
  (hs:∀ i x σ H,xs[i]?=some x->Pv i σ H->g x σ H fun σ2 H2=>tb { D with nx:=Pv (i+1),ct:=Pv (i+1),bk:=D.nx } σ2 H2)(hd:∀ σ H,Pv xs.length σ H->D.nx σ H) :
  ∃ W:Nat->Nat->St->Hp->Prop,(∃ m,W 0 m σ H)/\∀ i m σ H,W i m σ H ->
   ((Itl K a).stop i H/\D.nx σ H)\/((Itl K a).go i H/\∃ N:St->Hp->Prop,(∀ σ' H',N σ' H'->∃ m',m'<m/\W (i+1) m' σ' H')/\∀ x H',(Itl K a).yld i H x H'->g x σ H' fun σ2 H2=>tb { D with nx:=N,ct:=N,bk:=D.nx } σ2 H2):=by
 refine ⟨fun i m σ H=>m=xs.length-i/\i<=xs.length/\Pv i σ H,⟨xs.length,by simp,Nat.zero_le _,h0⟩,?_⟩
 rintro i m σ H ⟨rfl,hi,p⟩
 have q:=hl i σ H hi p
 by_cases hlt:i<xs.length
 ·refine .inr ⟨⟨xs,xs[i],q,by simp [hlt]⟩,Pv (i+1),fun σ' H' p'=>⟨xs.length-(i+1),by omega,rfl,hlt,p'⟩,fun x H' y=>?_⟩
  obtain ⟨e,y⟩:=y
  subst e
  exact hs i x σ _ (y xs q) p
 ·have e:i=xs.length:=by omega
  subst e
  exact .inl ⟨⟨xs,q,Nat.le_refl _⟩,hd σ H p⟩
theorem nU {K:PySem.W.Frag}{a:Addr}{xs:List V}{g:TG}{tb:TS}{D:Hb}{σ:St}{H:Hp}(Pv:Nat->St->Hp->Prop)(h0:Pv 0 σ H)(hl:∀ i σ H,i<=xs.length->Pv i σ H->SqT K H a xs)
  (hs:∀ i x σ H,xs[i]?=some x->Pv i σ H->g x σ H fun σ2 H2=>tb { D with nx:=Pv (i+1),ct:=Pv (i+1),bk:=D.nx } σ2 H2)(hd:∀ σ H,Pv xs.length σ H->D.nx σ H) :
  ∃ W:Nat->Nat->St->Hp->Prop,(∃ m,W 0 m σ H)/\∀ i m σ H,W i m σ H ->
   ((Itt K a).stop i H/\D.nx σ H)\/((Itt K a).go i H/\∃ N:St->Hp->Prop,(∀ σ' H',N σ' H'->∃ m',m'<m/\W (i+1) m' σ' H')/\∀ x H',(Itt K a).yld i H x H'->g x σ H' fun σ2 H2=>tb { D with nx:=N,ct:=N,bk:=D.nx } σ2 H2):=by
 refine ⟨fun i m σ H=>m=xs.length-i/\i<=xs.length/\Pv i σ H,⟨xs.length,by simp,Nat.zero_le _,h0⟩,?_⟩
 rintro i m σ H ⟨rfl,hi,p⟩
 have q:=hl i σ H hi p
 by_cases hlt:i<xs.length
 ·refine .inr ⟨⟨xs,xs[i],q,by simp [hlt]⟩,Pv (i+1),fun σ' H' p'=>⟨xs.length-(i+1),by omega,rfl,hlt,p'⟩,fun x H' y=>?_⟩
  obtain ⟨e,y⟩:=y
  subst e
  exact hs i x σ _ (y xs q) p
 ·have e:i=xs.length:=by omega
  subst e
  exact .inl ⟨⟨xs,q,Nat.le_refl _⟩,hd σ H p⟩
theorem Hd {lo:Int}{n:Nat}{g:TG}{tb:TS}{D:Hb}{σ:St}{H:Hp}(Pv:Nat->St->Hp->Prop)(h0:Pv 0 σ H)
  (hs:∀ i σ H,i<n->Pv i σ H->g (.int (lo+i)) σ H fun σ2 H2=>tb { D with nx:=Pv (i+1),ct:=Pv (i+1),bk:=D.nx } σ2 H2)(hd:∀ σ H,Pv n σ H->D.nx σ H) :
  ∃ W:Nat->Nat->St->Hp->Prop,(∃ m,W 0 m σ H)/\∀ i m σ H,W i m σ H ->
   ((Itr lo n).stop i H/\D.nx σ H)\/((Itr lo n).go i H/\∃ N:St->Hp->Prop,(∀ σ' H',N σ' H'->∃ m',m'<m/\W (i+1) m' σ' H')/\∀ x H',(Itr lo n).yld i H x H'->g x σ H' fun σ2 H2=>tb { D with nx:=N,ct:=N,bk:=D.nx } σ2 H2):=by
 refine ⟨fun i m σ H=>m=n-i/\i<=n/\Pv i σ H,⟨n,by simp,Nat.zero_le _,h0⟩,?_⟩
 rintro i m σ H ⟨rfl,hi,p⟩
 by_cases hlt:i<n
 ·refine .inr ⟨hlt,Pv (i+1),fun σ' H' p'=>⟨n-(i+1),by omega,rfl,hlt,p'⟩,fun x H' y=>?_⟩
  obtain ⟨e,y⟩:=y
  subst e y
  exact hs i σ _ hlt p
 ·have e:i=n:=by omega
  subst e
  exact .inl ⟨Nat.le_refl _,hd σ H p⟩
abbrev R2:=V->V->Hp->VK->Prop
def OpR (X:Cx)(f:Value->Value->Sem Value)(r:R2):Prop :=
 ∀ (pins:List (Addr×Obj)) (s:Shared) (σ:St) (H:Hp) (x y:V) (v u:Value) (Q:VK),Inv X pins σ H s->Bc x v->Bc y u->r x y H Q ->
  wpAny (model X.prog X.w) X.A (f v u) (EP X pins σ Q) X.xe s
def UnR (X:Cx)(f:Value->Sem Value)(r:V->Hp->VK->Prop):Prop :=
 ∀ (pins:List (Addr×Obj)) (s:Shared) (σ:St) (H:Hp) (x:V) (v:Value) (Q:VK),Inv X pins σ H s->Bc x v->r x H Q ->
  wpAny (model X.prog X.w) X.A (f v) (EP X pins σ Q) X.xe s
def Dj (X:Cx)(f:Value)(r:List V->Hp->VK->Prop):Prop :=
 ∀ (pins:List (Addr×Obj)) (s:Shared) (σ:St) (H:Hp) (xs:List V) (us:List Value) (Q:VK),Inv X pins σ H s->A0 xs us->r xs H Q ->
  wpAny (model X.prog X.w) X.A (call f us) (EP X pins σ Q) X.xe s
def tOp (r:R2)(ta tb:TE):TE:=fun σ H Q=>ta σ H fun x H1=>tb σ H1 fun y H2=>r x y H2 Q
def tUn (r:V->Hp->VK->Prop)(ta:TE):TE:=fun σ H Q=>ta σ H fun x H1=>r x H1 Q
def rI (C:Int->Int->Prop)(g:Int->Int->V):R2:=fun x y H Q=>∃ i j,x=.int i/\y=.int j/\C i j/\Q (g i j) H
def rI0 (g:Int->Int->V):R2:=fun x y H Q=>∃ i j,x=.int i/\y=.int j/\Q (g i j) H
def rU (g:Int->V):V->Hp->VK->Prop:=fun x H Q=>∃ i,x=.int i/\Q (g i) H
section
variable {X:Cx} {a b c:Expr} {ta tb tc:TE} {pos:Pos}
theorem tJ (ha:PE X a ta)(hb:PE X b tb){pins:List (Addr×Obj)}{s:Shared}{σ:St}{H:Hp}{R:V->V->Hp->Prop}(I:Inv X pins σ H s)
  (h:ta σ H fun x H1=>tb σ H1 fun y H2=>R x y H2){Q:Value->Shared->Prop}{f:Value->Value->Sem Value}
  (hf:∀ v u s2 x y H2,Inv X pins σ H2 s2->Bc x v->Bc y u->R x y H2->wpAny (model X.prog X.w) X.A (f v u) Q X.xe s2) :
  wpAny (model X.prog X.w) X.A (eval a X.env) (fun v s₁=>wpAny (model X.prog X.w) X.A (eval b X.env) (fun u s₂=>wpAny (model X.prog X.w) X.A (f v u) Q X.xe s₂) X.xe s₁) X.xe s:=by
 refine thn (ha pins s σ H _ I h) fun v s1 ⟨x,H1,I1,r1,q1⟩=>?_
 refine thn (hb pins s1 σ H1 _ I1 q1) fun u s2 ⟨y,H2,I2,r2,q2⟩=>?_
 exact hf v u s2 x y H2 I2 r1 r2 q2
theorem Aj {op:Operator}{r:R2}(ho:OpR X (binaryOp op) r)(ha:PE X a ta)(hb:PE X b tb):PE X (.BinOp a op b pos) (tOp r ta tb):=by
 intro pins s σ H Q I h
 exact wpAny_BinOp (tJ ha hb I h fun v u s2 x y H2 I2 rx ry q=>ho pins s2 σ H2 x y v u Q I2 rx ry q)
theorem Dy {op:UnaryOp}{r:V->Hp->VK->Prop}(ho:UnR X (unaryOp op) r)(ha:PE X a ta):PE X (.UnaryOp op a pos) (tUn r ta):=by
 intro pins s σ H Q I h
 exact UnaryOp_ (thn (ha pins s σ H _ I h) fun v s1 ⟨x,H1,I1,r1,q1⟩=>ho pins s1 σ H1 x v Q I1 r1 q1)
theorem opI {f:Value->Value->Sem Value}{C:Int->Int->Prop}{g:Int->Int->Int}
  (rule:∀ (i j:Int) (t u:Tok) (s:Shared) (Q:Value->Shared->Prop) (E:Value->Shared->Prop),C i j->Q (.int (g i j) s.toks) { s with toks:=s.toks+1 }->wpAny (model X.prog X.w) X.A (f (.int i t) (.int j u)) Q E s) :
  OpR X f (rI C fun i j=>.int (g i j)):=by
 intro pins s σ H x y v u Q I rx ry h
 obtain ⟨i,j,rfl,rfl,hc,q⟩:=h
 obtain ⟨t,rfl⟩:=rx
 obtain ⟨t',rfl⟩:=ry
 exact rule i j t t' s _ _ hc ⟨.int (g i j),H,I.tok _,⟨_,rfl⟩,q⟩
theorem oR {f:Value->Value->Sem Value}{g:Int->Int->Int}
  (rule:∀ (i j:Int) (t u:Tok) (s:Shared) (Q:Value->Shared->Prop) (E:Value->Shared->Prop),Q (.int (g i j) s.toks) { s with toks:=s.toks+1 }->wpAny (model X.prog X.w) X.A (f (.int i t) (.int j u)) Q E s) :
  OpR X f (rI0 fun i j=>.int (g i j)):=by
 intro pins s σ H x y v u Q I rx ry h
 obtain ⟨i,j,rfl,rfl,q⟩:=h
 obtain ⟨t,rfl⟩:=rx
 obtain ⟨t',rfl⟩:=ry
 exact rule i j t t' s _ _ ⟨.int (g i j),H,I.tok _,⟨_,rfl⟩,q⟩
theorem pH {f:Value->Value->Sem Value}{g:Int->Int->Bool}
  (rule:∀ (i j:Int) (t u:Tok) (s:Shared) (Q:Value->Shared->Prop) (E:Value->Shared->Prop),Q (.bool (g i j)) s->wpAny (model X.prog X.w) X.A (f (.int i t) (.int j u)) Q E s) :
  OpR X f (rI0 fun i j=>.bl (g i j)):=by
 intro pins s σ H x y v u Q I rx ry h
 obtain ⟨i,j,rfl,rfl,q⟩:=h
 obtain ⟨t,rfl⟩:=rx
 obtain ⟨t',rfl⟩:=ry
 exact rule i j t t' s _ _ ⟨.bl (g i j),H,I,rfl,q⟩
def vN (i j:Int):Prop:=0<j/\j<1073741824
def uV (i j:Int):Prop:=0<=j/\j<=1000000/\i.natAbs<2 ^ 64
def iU (i j:Int):Prop:=(-(2 ^ 64)<i/\i<2 ^ 64)\/(-(2 ^ 64)<j/\j<2 ^ 64)
theorem iU.ok {i j:Int}(h:iU i j):IntMulOk i j:=by
 rcases h with ⟨h1,h2⟩ | ⟨h1,h2⟩
 ·exact .of_left (intBits_le_64 h1 h2)
 ·exact .of_right (intBits_le_64 h1 h2)
theorem Pj (k:Nat):(0:Int)<=2 ^ k:=by
 rw [two_pow_cast]
 exact Int.natCast_nonneg _
theorem Be:OpR X (binaryOp .Add) (rI0 fun i j=>.int (i+j)):=oR fun _ _ _ _ _ _ _ q=>add_int q
theorem Cl:OpR X (binaryOp .Sub) (rI0 fun i j=>.int (i-j)):=oR fun _ _ _ _ _ _ _ q=>sub_int q
theorem Ha:OpR X (binaryOp .Mult) (rI iU fun i j=>.int (i*j)):=opI fun _ _ _ _ _ _ _ hc q=>mul_int q hc.ok
theorem Cf:OpR X (binaryOp .FloorDiv) (rI vN fun i j=>.int (i/j)):=opI fun i j _ _ _ _ _ hc q=>by
 have h1:(0:Int)<j:=hc.1
 have h2:j<1073741824:=hc.2
 exact floordiv_int (by omega) (by rw [Int.fdiv_eq_ediv_of_nonneg i (by omega)];exact q) (.inl (PyProof.noPylong_small (by omega)))
theorem Ca:OpR X (binaryOp .Mod) (rI (fun _ j=>0<j) fun i j=>.int (i%j)):=opI fun i j _ _ _ _ _ hc q=>by
 have h1:(0:Int)<j:=hc
 exact mod_int' (by omega) (by rw [Int.fmod_eq_emod_of_nonneg i (by omega)];exact q)
theorem Vg:OpR X (binaryOp .Pow) (rI uV fun i j=>.int (i ^ j.toNat)):=opI fun _ _ _ _ _ _ _ hc q=>pow_int_small hc.1 hc.2.1 hc.2.2 q
theorem rY:OpR X (binaryOp .LShift) (rI uV fun i j=>.int (i*2 ^ j.toNat)):=opI fun _ _ _ _ _ _ _ hc q=>lshift_int_small hc.1 hc.2.1 hc.2.2 q
theorem jB:OpR X (binaryOp .RShift) (rI (fun _ j=>0<=j) fun i j=>.int (i/2 ^ j.toNat)):=opI fun i j _ _ _ _ _ hc q =>
 rshift_int hc (by rw [Int.fdiv_eq_ediv_of_nonneg i (Pj _)];exact q)
theorem Nl:OpR X (binaryOp .BitAnd) (rI0 fun i j=>.int (Builtin.bitAnd i j)):=oR fun _ _ _ _ _ _ _ q=>and_int q
theorem Yx:OpR X (binaryOp .BitXor) (rI0 fun i j=>.int (Builtin.bitXor i j)):=oR fun _ _ _ _ _ _ _ q=>xor_int q
theorem eZ:OpR X (inplaceOp .RShift) (rI (fun _ j=>0<=j) fun i j=>.int (i/2 ^ j.toNat)):=opI fun i j _ _ _ _ _ hc q =>
 irshift_int hc (by rw [Int.fdiv_eq_ediv_of_nonneg i (Pj _)];exact q)
theorem unI {f:Value->Sem Value}{g:Int->Int}
  (rule:∀ (i:Int) (t:Tok) (s:Shared) (Q:Value->Shared->Prop) (E:Value->Shared->Prop),Q (.int (g i) s.toks) { s with toks:=s.toks+1 }->wpAny (model X.prog X.w) X.A (f (.int i t)) Q E s) :
  UnR X f (rU fun i=>.int (g i)):=by
 intro pins s σ H x v Q I rx h
 obtain ⟨i,rfl,q⟩:=h
 obtain ⟨t,rfl⟩:=rx
 exact rule i t s _ _ ⟨.int (g i),H,I.tok _,⟨_,rfl⟩,q⟩
theorem Ch:UnR X (unaryOp .USub) (rU fun i=>.int (-i)):=unI fun _ _ _ _ _ q=>neg_int q
end
def pX:V->V->Bool
 | .non,.non=>true | .non,.int _=>true | .int _,.non=>true | .non,.bl _=>true | .bl _,.non=>true | .non,.str _=>true | .str _,.non=>true
 | .int _,.int _=>true | .bl _,.bl _=>true | .str _,.str _=>true | .byt _,.byt _=>true
 | .int _,.str _=>true | .str _,.int _=>true | .bl _,.str _=>true | .str _,.bl _=>true
 | _,_=>false
def rEq:R2:=fun x y H Q=>pX x y=true/\Q (.bl (decide (x=y))) H
def rNe:R2:=fun x y H Q=>pX x y=true/\Q (.bl (!decide (x=y))) H
theorem eD {i j:Int}:decide (V.int i=V.int j)=(i==j):=by
 rw [Bool.eq_iff_iff]
 simp
theorem jH {i j:Bool}:decide (V.bl i=V.bl j)=(i==j):=by
 rw [Bool.eq_iff_iff]
 simp
theorem eU {i j:Str}:decide (V.str i=V.str j)=(i==j):=by
 rw [Bool.eq_iff_iff]
 simp
theorem dU {i j:Array UInt8}:decide (V.byt i=V.byt j)=(i.toList==j.toList):=by
 rw [Bool.eq_iff_iff]
 cases i
 cases j
 simp
section
variable {X:Cx} {a b c:Expr} {ta tb tc:TE} {pos:Pos}
theorem Bo {pins:List (Addr×Obj)}{σ:St}{H:Hp}{s:Shared}{Q:VK}{k k':Bool}(I:Inv X pins σ H s)(q:Q (.bl k) H)(e:k=k'):EP X pins σ Q (.bool k') s:=by
 subst e
 exact ⟨.bl k,H,I,rfl,q⟩
theorem B7:OpR X (compareOp .Eq) rEq:=by
 intro pins s σ H x y v u Q I rx ry h
 obtain ⟨hs,q⟩:=h
 cases x with
 | non =>
  cases rx
  cases y with
  | non=>cases ry;exact PySem.EqNone.eq_none_none (Bo I q (by simp))
  | bl j=>cases ry;exact PySem.EqNone.eq_none_bool (Bo I q (by simp))
  | int j=>obtain ⟨t',rfl⟩:=ry;exact PySem.EqNone.eq_none_int (Bo I q (by simp))
  | str j=>obtain ⟨t',rfl⟩:=ry;exact PySem.EqNone.eq_none_str (Bo I q (by simp))
  | _=>exact absurd (show false=true from hs) Bool.false_ne_true
 | bl i =>
  cases rx
  cases y with
  | non=>cases ry;exact PySem.EqNone.eq_bool_none (Bo I q (by simp))
  | bl j=>cases ry;exact eq_bool (Bo I q jH)
  | str j=>obtain ⟨t',rfl⟩:=ry;exact PySem.EqMixed.eq_bool_str (Bo I q (by simp))
  | _=>exact absurd (show false=true from hs) Bool.false_ne_true
 | int i =>
  obtain ⟨t,rfl⟩:=rx
  cases y with
  | non=>cases ry;exact PySem.EqNone.eq_int_none (Bo I q (by simp))
  | int j=>obtain ⟨t',rfl⟩:=ry;exact eq_int (Bo I q eD)
  | str j=>obtain ⟨t',rfl⟩:=ry;exact PySem.EqMixed.eq_int_str (Bo I q (by simp))
  | _=>exact absurd (show false=true from hs) Bool.false_ne_true
 | str i =>
  obtain ⟨t,rfl⟩:=rx
  cases y with
  | non=>cases ry;exact PySem.EqNone.eq_str_none (Bo I q (by simp))
  | bl j=>cases ry;exact PySem.EqMixed.eq_str_bool (Bo I q (by simp))
  | int j=>obtain ⟨t',rfl⟩:=ry;exact PySem.EqMixed.eq_str_int (Bo I q (by simp))
  | str j=>obtain ⟨t',rfl⟩:=ry;exact eq_str (Bo I q eU)
  | _=>exact absurd (show false=true from hs) Bool.false_ne_true
 | byt i =>
  obtain ⟨t,rfl⟩:=rx
  cases y with
  | byt j=>obtain ⟨t',rfl⟩:=ry;exact PySem.W.eq_bytes (Bo I q dU)
  | _=>exact absurd (show false=true from hs) Bool.false_ne_true
 | _=>cases y<;>exact absurd (show false=true from hs) Bool.false_ne_true
theorem Tw:OpR X (compareOp .NotEq) rNe:=by
 intro pins s σ H x y v u Q I rx ry h
 obtain ⟨hs,q⟩:=h
 cases x with
 | non =>
  cases rx
  cases y with
  | non=>cases ry;exact PySem.EqNone.ne_none_none (Bo I q (by simp))
  | bl j=>cases ry;exact PySem.EqNone.ne_none_bool (Bo I q (by simp))
  | int j=>obtain ⟨t',rfl⟩:=ry;exact PySem.EqNone.ne_none_int (Bo I q (by simp))
  | str j=>obtain ⟨t',rfl⟩:=ry;exact PySem.EqNone.ne_none_str (Bo I q (by simp))
  | _=>exact absurd (show false=true from hs) Bool.false_ne_true
 | bl i =>
  cases rx
  cases y with
  | non=>cases ry;exact PySem.EqNone.ne_bool_none (Bo I q (by simp))
  | bl j=>cases ry;exact ne_bool (Bo I q (congrArg not jH))
  | str j=>obtain ⟨t',rfl⟩:=ry;exact PySem.EqMixed.ne_bool_str (Bo I q (by simp))
  | _=>exact absurd (show false=true from hs) Bool.false_ne_true
 | int i =>
  obtain ⟨t,rfl⟩:=rx
  cases y with
  | non=>cases ry;exact PySem.EqNone.ne_int_none (Bo I q (by simp))
  | int j=>obtain ⟨t',rfl⟩:=ry;exact ne_int (Bo I q (congrArg not eD))
  | str j=>obtain ⟨t',rfl⟩:=ry;exact PySem.EqMixed.ne_int_str (Bo I q (by simp))
  | _=>exact absurd (show false=true from hs) Bool.false_ne_true
 | str i =>
  obtain ⟨t,rfl⟩:=rx
  cases y with
  | non=>cases ry;exact PySem.EqNone.ne_str_none (Bo I q (by simp))
  | bl j=>cases ry;exact PySem.EqMixed.ne_str_bool (Bo I q (by simp))
  | int j=>obtain ⟨t',rfl⟩:=ry;exact PySem.EqMixed.ne_str_int (Bo I q (by simp))
  | str j=>obtain ⟨t',rfl⟩:=ry;exact ne_str (Bo I q (congrArg not eU))
  | _=>exact absurd (show false=true from hs) Bool.false_ne_true
 | byt i =>
  obtain ⟨t,rfl⟩:=rx
  cases y with
  | byt j=>obtain ⟨t',rfl⟩:=ry;exact PySem.W.ne_bytes (Bo I q (congrArg not dU))
  | _=>exact absurd (show false=true from hs) Bool.false_ne_true
 | _=>cases y<;>exact absurd (show false=true from hs) Bool.false_ne_true
theorem Oc:OpR X (compareOp .Lt) (rI0 fun i j=>.bl (decide (i<j))):=pH fun _ _ _ _ _ _ _ q=>lt_int q
theorem rD:OpR X (compareOp .LtE) (rI0 fun i j=>.bl (decide (i<=j))):=pH fun _ _ _ _ _ _ _ q=>le_int q
theorem K2:OpR X (compareOp .Gt) (rI0 fun i j=>.bl (decide (j<i))):=pH fun _ _ _ _ _ _ _ q=>gt_int q
theorem uT:OpR X (compareOp .GtE) (rI0 fun i j=>.bl (decide (j<=i))):=pH fun _ _ _ _ _ _ _ q=>ge_int q
theorem Au (b:Expr){op:CmpOp}(h:op≠.In:=by decide)(h2:op≠.NotIn:=by decide):behindInMarks op b=false:=by
 have e1:(op==CmpOp.In)=false:=by cases op<;>first | rfl | exact absurd rfl h
 have e2:(op==CmpOp.NotIn)=false:=by cases op<;>first | rfl | exact absurd rfl h2
 cases b<;>simp [behindInMarks,e1,e2]
theorem Pe {op:CmpOp}{r:R2}(ho:OpR X (compareOp op) r)(ha:PE X a ta)(hb:PE X b tb)(hm:behindInMarks op b=false):PE X (.Compare a [op] [b] pos) (tOp r ta tb):=by
 intro pins s σ H Q I h
 exact wpAny_Compare1 (tJ ha hb I h fun v u s2 x y H2 I2 rx ry q=>ho pins s2 σ H2 x y v u Q I2 rx ry q) hm
def qG (t:TE):TT:=fun σ H Q=>t σ H fun x H'=>∃ k,x=.bl k/\Q k H'
theorem An {op:CmpOp}{r:R2}(ho:OpR X (compareOp op) r)(ha:PE X a ta)(hb:PE X b tb)(hm:behindInMarks op b=false):PT X (.Compare a [op] [b] pos) (qG (tOp r ta tb)):=by
 intro pins s σ H Q I h
 refine wpAny_isTrue_Compare1 (thn (ha pins s σ H _ I h) fun v s1 ⟨x,H1,I1,r1,q1⟩=>thn (hb pins s1 σ H1 _ I1 q1) fun u s2 ⟨y,H2,I2,r2,q2⟩ =>
  thn (ho pins s2 σ H2 x y v u _ I2 r1 r2 q2) fun c s3 ⟨z,H3,I3,r3,k,e,q3⟩=>?_) hm
 subst e
 cases r3
 exact wpAny_truthy_bool ⟨H3,I3,q3⟩
def mJ (r r':R2)(ta tb tc:TE):TE:=fun σ H Q=>ta σ H fun x H1=>tb σ H1 fun y H2=>r x y H2 fun z H3=>∃ k,z=.bl k /\
 (if k=true then tc σ H3 fun w' H4=>r' y w' H4 Q else Q (.bl false) H3)
theorem kZ {op op':CmpOp}{r r':R2}(ho:OpR X (compareOp op) r)(ho':OpR X (compareOp op') r')(ha:PE X a ta)(hb:PE X b tb)(hc:PE X c tc)
  (hm:lastMarks [op,op'] [b,c]=false:=by with_unfolding_all rfl):PE X (.Compare a [op,op'] [b,c] pos) (mJ r r' ta tb tc):=by
 intro pins s σ H Q I h
 refine Compare_chain (thn (ha pins s σ H _ I h) fun v s1 ⟨x,H1,I1,r1,q1⟩=>chain_link (thn (hb pins s1 σ H1 _ I1 q1) fun u s2 ⟨y,H2,I2,r2,q2⟩ =>
  thn (ho pins s2 σ H2 x y v u _ I2 r1 r2 q2) fun d s3 ⟨z,H3,I3,r3,k,e,q3⟩=>?_)) hm
 subst e
 cases r3
 refine wpAny_truthy_bool ?_
 cases k with
 | false=>exact ite_ff ⟨.bl false,H3,I3,rfl,q3⟩
 | true=>exact ite_tt (chain_last (thn (hc pins s3 σ H3 _ I3 q3) fun w' s4 ⟨z',H4,I4,r4,q4⟩=>ho' pins s4 σ H4 y z' u w' Q I4 r2 r4 q4))
theorem Id:(sizeLine:Nat)<2 ^ 63:=by rw [sizeLine_eq];decide
theorem Pr:OpR X (binaryOp .Add) (fun x y H Q=>∃ i j,x=.str i/\y=.str j/\i.length+j.length<=sizeLine/\Q (.str (i++j)) H):=by
 intro pins s σ H x y v u Q I rx ry h
 obtain ⟨i,j,rfl,rfl,hz,q⟩:=h
 obtain ⟨t,rfl⟩:=rx
 obtain ⟨t',rfl⟩:=ry
 exact add_str (fun t' tk=>⟨.str (i++j),H,I.tok _,⟨_,rfl⟩,q⟩) hz
theorem Gg {x:V}{us:List Value}(r:A0 [x] us):∃ u,us=[u]/\Bc x u:=by
 cases r with
 | cons r1 r2=>cases r2;exact ⟨_,rfl,r1⟩
theorem Mc {x y:V}{us:List Value}(r:A0 [x,y] us):∃ u w',us=[u,w']/\Bc x u/\Bc y w':=by
 cases r with
 | cons r1 r2 =>
  cases r2 with
  | cons r3 r4=>cases r4;exact ⟨_,_,rfl,r1,r3⟩
theorem lA:Dj X (.builtin "abs") (fun xs H Q=>∃ i,xs=[.int i]/\Q (.int (if i<0 then -i else i)) H):=by
 intro pins s σ H xs us Q I r h
 obtain ⟨i,rfl,q⟩:=h
 obtain ⟨u,rfl,t,rfl⟩:=Gg r
 exact call_abs_int fun u tk=>⟨.int (if i<0 then -i else i),H,I.tok _,⟨_,rfl⟩,q⟩
theorem fO (hc:X.calm=true):Dj X (.builtin "max") (fun xs H Q=>∃ i j,xs=[.int i,.int j]/\Q (.int (if j>i then j else i)) H):=by
 intro pins s σ H xs us Q I r h
 obtain ⟨i,j,rfl,q⟩:=h
 obtain ⟨u,w',rfl,⟨t,rfl⟩,⟨t',rfl⟩⟩:=Mc r
 refine max_two_ints (I.ok.hd hc) fun h' tk k=>⟨_,H,I.kept k,?_,q⟩
 by_cases hj:j>i
 ·rw [if_pos hj,if_pos hj];exact ⟨_,rfl⟩
 ·rw [if_neg hj,if_neg hj];exact ⟨_,rfl⟩
theorem T4 (hc:X.calm=true):Dj X (.builtin "min") (fun xs H Q=>∃ i j,xs=[.int i,.int j]/\Q (.int (if j<i then j else i)) H):=by
 intro pins s σ H xs us Q I r h
 obtain ⟨i,j,rfl,q⟩:=h
 obtain ⟨u,w',rfl,⟨t,rfl⟩,⟨t',rfl⟩⟩:=Mc r
 refine min_two_ints (I.ok.hd hc) fun h' tk k=>⟨_,H,I.kept k,?_,q⟩
 by_cases hj:j<i
 ·rw [if_pos hj,if_pos hj];exact ⟨_,rfl⟩
 ·rw [if_neg hj,if_neg hj];exact ⟨_,rfl⟩
end
structure cV (h:Heap) (x dx C:Addr) (mA:Str->Option Value):Prop where
 obj:h.get? x=some (instObj C dx)
 ns:h.Ns1 dx mA
 ne:dx≠x
theorem fZ {h:Heap}{dx:Addr}{mA:Str->Option Value}(n:h.Ns1 dx mA):∃ od,h.get? dx=some od/\∀ name,lookIn name od=some (mA name):=by
 obtain ⟨o,es,ep,ho,hd,hk,_,hm⟩:=n
 refine ⟨o,ho,fun name=>?_⟩
 have e:=hm name
 unfold nsFind findBy at e
 rw [<- Array.find?_toList] at e
 unfold lookIn
 rw [hd]
 dsimp only
 split
 ·rename_i y q
  rw [q] at e
  exact congrArg some e
 ·rename_i q
  rw [q] at e
  have a:es.toList.any (·.refKey)=false:=by
   rw [List.any_eq_false]
   intro y hy
   obtain ⟨z,t,hkey⟩:=hk y (Array.mem_toList_iff.mp hy)
   simp [DictEntry.refKey,hkey]
  have a':¬ es.toList.any (·.refKey)=true:=by rw [a];exact Bool.false_ne_true
  rw [if_neg a']
  exact congrArg some e
theorem cV.look {h:Heap}{x dx C:Addr}{mA:Str->Option Value}(I:cV h x dx C mA):∃ od,PySem.W.InstAt h x (instObj C dx) C (some od)/\∀ name,lookIn name od=some (mA name) :=
 let ⟨od,ho,hl⟩:=fZ I.ns
 ⟨od,⟨I.obj,rfl,rfl,ho⟩,hl⟩
section
variable {prog:Program} {w:World} {A:Around} {E:Value->Shared->Prop} {s:Shared} {K:PySem.W.Frag} {x dx C f:Addr} {mA:Str->Option Value} {name:Str} {v:Value}
theorem nS {expr:Bool}{Q:Value->Shared->Prop}(X:K.In s.heap)(I:cV s.heap x dx C mA)(hg:PySem.W.plainGet K C name=true)(hh:PySem.W.hasDictIn K C=true)
  (ha:PySem.W.findIn K (.ref C) name=some none)(hv:mA name=some v)(hv':PySem.W.handedIn v=true)(h:Q v { s with toks:=s.toks+1 }) :
  wpAny (model prog w) A (getAttr (.ref x) name expr) Q E s:=by
 obtain ⟨od,J,hl⟩:=I.look
 exact PySem.W.get_value X J (PySem.W.plainGet_of hg).1 (PySem.W.findObj_own hh ha rfl (by rw [hl,hv])) hv' h
theorem lI {pl:Sem Bool}{Q:Value×List Value->Shared->Prop}(X:K.In s.heap)(I:cV s.heap x dx C mA)(hg:PySem.W.plainGet K C name=true)
  (hf:PySem.W.findIn K (.ref C) name=some (some (.ref f)))(ht:PySem.W.isFn K (.ref f)=true)(hv:mA name=none)(h:Q (.ref f,[.ref x]) s) :
  wpAny (model prog w) A (getMethod (.ref x) name pl) Q E s:=by
 obtain ⟨od,J,hl⟩:=I.look
 exact PySem.W.method_fn X J (PySem.W.plainGet_of hg).1 (PySem.W.plainGet_of hg).2 hf (beq_iff_eq.mp ht) (by show (lookIn name od).map (·.isSome)=some false;rw [hl,hv];rfl) h
theorem qE {ns:List Str}{Q:Unit->Shared->Prop}(X:K.In s.heap)(I:cV s.heap x dx C mA)
  (hs:PySem.W.findIn K (.ref C) "__setattr__"=some (some (.builtin "object.__setattr__")))(hp:PySem.W.plainOver K C=true)(ht:PySem.W.takerIn K C name=some none)(hh:PySem.W.hasDictIn K C=true)
  (hw:PySem.Within mA ns)(hsz:ns.length<=sizeLine)
  (h:∀ h',cV h' x dx C (fun y=>if y=name then some v else mA y)->Heap.SameBut dx s.heap h'->Q () { s with heap:=h',toks:=s.toks+2 }) :
  wpAny (model prog w) A (setAttr (.ref x) name v) Q E s:=by
 obtain ⟨od,J,hl⟩:=I.look
 refine PySem.W.set_plain X J hs (PySem.W.osa_open (s:={ s with toks:=s.toks+1 }) (r:=none) X J hp ht fun b=>?_)
 obtain ⟨cd,hc,hd'⟩:=PySem.W.any_some hh
 have hx:s.heap.get? x=some ⟨.ref C,some dx,.plain,#[]⟩:=I.obj
 refine wpAny_bind (wpAny_pure (wpAny_bind (wpAny_bind (wpAny_loadPart hx (wpAny_bind (PySem.W.Looks.here (s:={ s with toks:=s.toks+1 }) (PySem.W.looks_clsIn X hc) ?_))))))
 rw [hd']
 refine wpAny_pure (a:=some dx) (wpAny_bind (wpAny_pure (wpAny_bind ?_)))
 refine wpAny_nsSet1 (s:={ s with toks:=s.toks+1 }) I.ns fun h' hn2 hs2=>?_
 obtain ⟨oD,esD,epD,hoD,hdD,hcD⟩:=hn2.count (PySem.Within.cons name v hw)
 refine wpAny_bind (wpAny_lookBehind hoD (by rw [hdD];exact pastItsLine_dict (Nat.le_trans hcD (by rw [List.length_cons];omega))) ?_)
 exact wpAny_pure (h _ ⟨(hs2.2 _ (Ne.symm I.ne)).trans I.obj,hn2,I.ne⟩ hs2)
theorem Wq {R:Result->Shared->Prop}{vs:List Value}{kw:List (Str×Value)}(X:K.In s.heap)(hm:PySem.W.makesIn K C=true)
  (hi:PySem.W.findIn K (.ref C) "__init__"=some (some (.ref f)))(hf:PySem.W.typeIn K (.ref f)=some (.type "function"))
  (h:codeAny (model prog w) (A.under (.builtin "type.__call__" ⟨.ref C::vs,kw⟩)) (.call (.ref f) ⟨.ref (s.heap.objs.size+1)::vs,kw⟩) (PySem.W.InitBack (s.heap.objs.size+1) R)
   { s with heap:=(s.heap.push PySem.W.emptyDict).push (instObj C s.heap.objs.size) }) :
  codeAny (model prog w) A (.call (.ref C) ⟨vs,kw⟩) R s:=by
 obtain ⟨hh,g,d,t,os⟩:=s
 exact PySem.W.make_core (PySem.W.makes_of X hm) (PySem.W.looks_findIn X hi) (fun self=>PySem.W.bind_fn X self hf) (.inl rfl) h
end
def Fj (f : Str)(v : V) : List (Str × V)->List (Str × V)
  | [] => [(f, v)]
  | (g, x) :: r => if g = f then (g, v) :: r else (g, x) :: Fj f v r
theorem N1 (f g : Str)(v : V) : ∀ fs : List (Str × V), (Fj f v fs).lookup g = if g = f then some v else fs.lookup g
  | [] => by
    show List.lookup g [(f, v)] = _
    by_cases h : g = f
    · have hb : (g == f) = true := beq_iff_eq.mpr h
      simp only [List.lookup, hb, if_pos h]
    · have hb : (g == f) = false := beq_eq_false_iff_ne.mpr h
      simp only [List.lookup, hb, if_neg h]
  | (k, x) :: r => by
    have ih := N1 f g v r
    rw [show Fj f v ((k, x) :: r) = (if k = f then (k, v) :: r else (k, x) :: Fj f v r) from rfl]
    by_cases hk : k = f
    · rw [if_pos hk]
      by_cases h : g = k
      · have hb : (g == k) = true := beq_iff_eq.mpr h
        simp only [List.lookup, hb, if_pos (h.trans hk)]
      · have hb : (g == k) = false := beq_eq_false_iff_ne.mpr h
        simp only [List.lookup, hb, if_neg (fun e : g = f => h (e.trans hk.symm))]
    · rw [if_neg hk]
      by_cases h : g = k
      · have hb : (g == k) = true := beq_iff_eq.mpr h
        simp only [List.lookup, hb, if_neg (fun e : g = f => hk (h.symm.trans e))]
      · have hb : (g == k) = false := beq_eq_false_iff_ne.mpr h
        simp only [List.lookup, hb]
        exact ih
theorem M5 (f : Str)(v : V) : ∀ fs : List (Str × V), f ∈ (Fj f v fs).map (·.1)/\∀ g, g ∈ fs.map (·.1)->g ∈ (Fj f v fs).map (·.1)
  | [] => ⟨by simp [Fj], fun g h => by simp at h⟩
  | (k, x) :: r => by
    obtain ⟨i1, i2⟩ := M5 f v r
    rw [show Fj f v ((k, x) :: r) = (if k = f then (k, v) :: r else (k, x) :: Fj f v r) from rfl]
    by_cases hk : k = f
    · rw [if_pos hk]
      subst hk
      exact ⟨by simp, fun g h => by simpa using h⟩
    · rw [if_neg hk]
      refine ⟨?_, fun g h => ?_⟩
      · rw [List.map_cons]
        exact List.mem_cons_of_mem _ i1
      · rw [List.map_cons] at h ⊢
        rcases List.mem_cons.mp h with e | e
        · exact List.mem_cons.mpr (.inl e)
        · exact List.mem_cons_of_mem _ (i2 g e)
theorem N8 (f : Str)(v : V) : ∀ fs : List (Str × V), (Fj f v fs).length <= fs.length + 1
  | [] => by simp [Fj]
  | (k, x) :: r => by
    have ih := N8 f v r
    rw [show Fj f v ((k, x) :: r) = (if k = f then (k, v) :: r else (k, x) :: Fj f v r) from rfl]
    by_cases hk : k = f
    · rw [if_pos hk, List.length_cons, List.length_cons]; omega
    · rw [if_neg hk, List.length_cons, List.length_cons]; omega
theorem Ot.some_of {v:V}{o:Option Value}(r:Ot (some v) o):∃ u,o=some u/\Bc v u:=by
 cases o with
 | none=>exact (show False from r).elim
 | some u=>exact ⟨u,rfl,r⟩
theorem Ot.none_of {o:Option Value}(r:Ot none o):o=none:=by
 cases o with
 | none=>rfl
 | some u=>exact (show False from r).elim
theorem gL {v:V}{u:Value}(r:Bc v u):PySem.W.handedIn u=true:=by
 cases v with
 | non=>cases (show u=Value.none from r);rfl
 | bl b=>cases (show u=Value.bool b from r);rfl
 | int i=>obtain ⟨t,e⟩:=(show ∃ t,u=Value.int i t from r);cases e;rfl
 | str x=>obtain ⟨t,e⟩:=(show ∃ t,u=Value.str x t from r);cases e;rfl
 | byt b=>obtain ⟨t,e⟩:=(show ∃ t,u=Value.bytes b t from r);cases e;rfl
 | flt b=>obtain ⟨t,e⟩:=(show ∃ t,u=Value.float b t from r);cases e;rfl
 | ref a=>cases (show u=Value.ref a from r);rfl
 | ty n=>cases (show u=Value.type n from r);rfl
section
variable {P:Program} {w:World} {H H':Hp} {h h':Heap} {a C dx:Addr} {fs fs':List (Str×V)}
theorem Pa (hok:HOk P w H h)(e:H a=some (.ins C dx fs)):∃ mA,cV h a dx C mA/\(∀ f,Ot (fs.lookup f) (mA f))/\PySem.Within mA (fs.map (·.1))/\fs.length<=1000/\H dx=some (.own a):=by
 obtain ⟨d,z,ne,ob,mA,n,r,q⟩:=(show B3 P w H h a (.ins C dx fs) from hok a _ e)
 exact ⟨mA,⟨ob,n,ne⟩,r,q,z,d⟩
end
structure Cls (K:PySem.W.Frag) (C:Addr):Prop where
 pg:PySem.W.plainGet K C Str.empty=true
 hd:PySem.W.hasDictIn K C=true
 po:PySem.W.plainOver K C=true
 sa:PySem.W.findIn K (.ref C) "__setattr__"=some (some (.builtin "object.__setattr__"))
theorem Cls.get {K:PySem.W.Frag}{C:Addr}(c:Cls K C)(f:Str):PySem.W.plainGet K C f=true:=c.pg
def Br (K:PySem.W.Frag)(C:Addr)(f:Str):Prop:=PySem.W.findIn K (.ref C) f=some none
theorem Br.taker {K:PySem.W.Frag}{C:Addr}{f:Str}(n:Br K C f):PySem.W.takerIn K C f=some none:=by
 unfold PySem.W.takerIn
 rw [show PySem.W.findIn K (.ref C) f=some none from n]
 rfl
structure fC (K:PySem.W.Frag) (C:Addr) (m:Str) (f:Addr):Prop where
 at_:PySem.W.findIn K (.ref C) m=some (some (.ref f))
 fn:PySem.W.isFn K (.ref f)=true
 kp:PySem.W.keepIn K (.ref f)=true
section
variable {X:Cx} {pins:List (Addr×Obj)} {σ:St} {H:Hp} {s:Shared} {a C dx:Addr} {fs:List (Str×V)} {f:Str} {v:V} {A:Around} {E:Value->Shared->Prop}
theorem Y7 {b:Bool}{Q:Value->Shared->Prop}(I:Inv X pins σ H s)(e:H a=some (.ins C dx fs))(c:Cls X.K C)(n:Br X.K C f)(l:fs.lookup f=some v)
  (h:∀ u s',Inv X pins σ H s'->Bc v u->Q u s'):wpAny (model X.prog X.w) A (getAttr (.ref a) f b) Q E s:=by
 obtain ⟨mA,O,r,_,_,_⟩:=Pa I.hok e
 obtain ⟨u,hu,ru⟩:=Ot.some_of (v:=v) (o:=mA f) (by rw [<- l];exact r f)
 exact nS I.kIn O (c.get f) c.hd n hu (gL ru) (h u _ (I.tok _) ru)
theorem Jb {m:Str}{g:Addr}{pl:Sem Bool}{Q:Value×List Value->Shared->Prop}(I:Inv X pins σ H s)(e:H a=some (.ins C dx fs))(c:Cls X.K C)(k:fC X.K C m g)(l:fs.lookup m=none)
  (h:Q (.ref g,[.ref a]) s):wpAny (model X.prog X.w) A (getMethod (.ref a) m pl) Q E s:=by
 obtain ⟨mA,O,r,_,_,_⟩:=Pa I.hok e
 have hn:mA m=none:=Ot.none_of (by rw [<- l];exact r m)
 exact lI I.kIn O (c.get m) k.at_ k.fn hn h
theorem Ze {y:V}{u:Value}{Q:Unit->Shared->Prop}(I:Inv X pins σ H s)(e:H a=some (.ins C dx fs))(c:Cls X.K C)(n:Br X.K C f)(hl:fs.length<1000)(ry:Bc y u)
  (h:∀ s',Inv X pins σ (upd H a (.ins C dx (Fj f y fs))) s'->Q () s'):wpAny (model X.prog X.w) A (setAttr (.ref a) f u) Q E s:=by
 obtain ⟨mA,O,r,wi,_,ho⟩:=Pa I.hok e
 have hz:(fs.map (·.1)).length<=sizeLine:=by rw [List.length_map,sizeLine_eq];omega
 refine qE I.kIn O c.sa c.po n.taker c.hd wi hz fun h' O' sb=>h _ ?_
 have hd:∃ o,h'.get? dx=some o:=let ⟨o,_,_,e',_⟩:=O'.ns;⟨o,e'⟩
 refine I.write (x:=a) (e:=dx) (by rw [e];exact True.intro) (.inr ho) (fun b q hb z=>(sb.2 b hb).trans z) hd ?_
 refine ⟨by rw [Al O.ne];exact ho,?_,O.ne,O'.obj,_,O'.ns,fun g=>?_,fun g hg=>?_⟩
 ·have:=N8 f y fs;omega
 ·show Ot ((Fj f y fs).lookup g) (if g=f then some u else mA g)
  rw [N1]
  by_cases q:g=f
  ·rw [if_pos q,if_pos q];exact ry
  ·rw [if_neg q,if_neg q];exact r g
 ·by_cases q:g=f
  ·rw [q];exact (M5 f y fs).1
  ·refine (M5 f y fs).2 g (wi g fun z=>hg ?_)
   show (if g=f then some u else mA g)=none
   rw [if_neg q];exact z
theorem Inv.made (I:Inv X pins σ H s):Inv X pins σ (upd (upd H s.heap.objs.size (.own (s.heap.objs.size+1))) (s.heap.objs.size+1) (.ins C s.heap.objs.size []))
  { s with heap:=(s.heap.push PySem.W.emptyDict).push (instObj C s.heap.objs.size) }:=by
 have e1:(s.heap.push PySem.W.emptyDict).get? s.heap.objs.size=some PySem.W.emptyDict:=Heap.get?_push_size s.heap rfl
 have e2:((s.heap.push PySem.W.emptyDict).push (instObj C s.heap.objs.size)).get? (s.heap.objs.size+1)=some (instObj C s.heap.objs.size):=by
  have:=Heap.get?_push_size (s.heap.push PySem.W.emptyDict) (o:=instObj C s.heap.objs.size) rfl
  rwa [Heap.size_push] at this
 have e3:(s.heap.push PySem.W.emptyDict).Ns s.heap.objs.size (fun _=>none):=⟨PySem.W.emptyDict,#[],_,e1,rfl,(fun e he=>absurd he (by simp)),fun _=>rfl⟩
 have I1:=I.laid (a:=s.heap.objs.size) (o:=.own (s.heap.objs.size+1)) (h':=s.heap.push PySem.W.emptyDict) (t':=s.toks) (fun b u q=>Heap.get?_push_of_some _ q) (Nat.le_refl _) ⟨_,e1⟩
 refine I1.laid (a:=s.heap.objs.size+1) (o:=.ins C s.heap.objs.size []) (t':=s.toks) (fun b u q=>Heap.get?_push_of_some _ q) (Nat.le_of_eq (Heap.size_push _ _)) ?_
 have ne:s.heap.objs.size≠s.heap.objs.size+1:=Nat.ne_of_lt (Nat.lt_succ_self _)
 refine ⟨by rw [Al ne,Ac],Nat.zero_le _,ne,e2,fun _=>none,(Heap.Ns1.of_empty e3).at fun o q=>Heap.get?_push_of_some _ q,fun _=>True.intro,fun y hy=>absurd rfl hy⟩
theorem dX {prog:Program}{w:World}{env:Env}{e:Expr}{f:Str}{pos:Pos}{s:Shared}{Q:Value->Shared->Prop}(hb:attributeBase e f env (eval e env)=eval e env)
  (h:wpAny (model prog w) A (eval e env) (fun o s₁=>wpAny (model prog w) A (getAttr o f true) Q E s₁) E s):wpAny (model prog w) A (eval (.Attribute e f pos) env) Q E s :=
 Attribute_any_ h (by rw [arm_eval_Attribute,hb])
end
def vX (K:PySem.W.Frag)(ta:TE)(f:Str):TE:=fun σ H Q=>ta σ H fun x H1=>∃ a C dx fs v,x=.ref a/\H1 a=some (.ins C dx fs)/\Cls K C/\Br K C f/\fs.lookup f=some v/\Q v H1
def wK (K:PySem.W.Frag)(ta tv:TE)(f:Str):TS:=fun D σ H=>tv σ H fun y H1=>ta σ H1 fun x H2=>∃ a C dx fs,x=.ref a/\H2 a=some (.ins C dx fs)/\Cls K C/\Br K C f/\fs.length<1000 /\
 D.nx σ (upd H2 a (.ins C dx (Fj f y fs)))
section
variable {X:Cx} {o e value:Expr} {f:Str} {pos pos' tpos:Pos} {ta tv:TE}
theorem Bh (he:PE X e ta)(hb:attributeBase e f X.env (eval e X.env)=eval e X.env):PE X (.Attribute e f pos) (vX X.K ta f):=by
 intro pins s σ H Q I h
 refine dX hb (thn (he pins s σ H _ I h) fun u s1 ⟨x,H1,I1,rx,a,C,dx,fs,v,ex,ea,c,n,l,q⟩=>?_)
 subst ex
 obtain rfl:u=Value.ref a:=rx
 exact Y7 I1 ea c n l fun u' s2 I2 ru=>⟨v,H1,I2,ru,q⟩
theorem Er (ha:PE X o ta)(hv:PE X value tv)(hs:swapsWith value (some (.Attribute o f pos')) pos.line X.env=pure false):PS X (.Assign [.Attribute o f pos'] value pos) (wK X.K ta tv f):=by
 intro pins s σ H D I h
 refine plainObj_wpAny_Assign_Attribute (thn (hv pins s σ H _ I h) fun u s1 ⟨y,H1,I1,ry,q⟩=>thn (ha pins s1 σ H1 _ I1 q) fun ov s2 ⟨x,H2,I2,rx,a,C,dx,fs,ex,ea,c,n,l,q2⟩=>?_) hs
 subst ex
 obtain rfl:ov=Value.ref a:=rx
 exact Ze I2 ea c n l ry fun s3 I3=>⟨σ,_,I3,q2⟩
theorem qU {pl:Sem Bool}{m:Str}{apos:Pos}{args:List Expr}{pins:List (Addr×Obj)}{s:Shared}{σ:St}{H:Hp}{Q:Value->Shared->Prop}{te:TE}(he:PE X e te)(I:Inv X pins σ H s)
  (h:te σ H fun x H1=>∃ a C dx fs g,x=.ref a/\H1 a=some (.ins C dx fs)/\Cls X.K C/\fC X.K C m g/\fs.lookup m=none /\
   ∀ s1,Inv X pins σ H1 s1->wpAny (model X.prog X.w) X.A (callWith pos (.ref g) [.ref a] (backTo pos (starEach args X.env)) (backToKw pos (keywordEach [] X.env))) Q X.xe s1)
  (ht:eval (.Call (.Attribute e m apos) args [] pos) X.env=(do
   let ov <- eval e X.env
   standAt apos.atName
   let (f,first) <- holding [ov] (getMethod ov m pl)
   callWith pos f first (backTo pos (starEach args X.env)) (backToKw pos (keywordEach [] X.env)))) :
  wpAny (model X.prog X.w) X.A (eval (.Call (.Attribute e m apos) args [] pos) X.env) Q X.xe s:=by
 refine PySem.W.methodCall_KW (pl:=pl) (thn (he pins s σ H _ I h) fun u s1 ⟨x,H1,I1,rx,a,C,dx,fs,g,ex,ea,c,k,l,q⟩=>?_) ht
 subst ex
 obtain rfl:u=Value.ref a:=rx
 exact Jb I1 ea c k l (q s1 I1)
end
section
variable {X:Cx} {pins:List (Addr×Obj)} {σ:St} {H:Hp} {s:Shared} {A:Around} {E:Value->Shared->Prop} {Q:Value->Shared->Prop} {c:Value} {b:Bool}
inductive F1 (K:PySem.W.Frag) (H:Hp):V->Value->Prop where
 | non:F1 K H .non (.type "NoneType")
 | bl (x:Bool):F1 K H (.bl x) (.type "bool")
 | int (i:Int):F1 K H (.int i) (.type "int")
 | str (x:Str):F1 K H (.str x) (.type "str")
 | flt (x:UInt64):F1 K H (.flt x) (.type "float")
 | lst {a:Addr} {xs:List V} (e:H a=some (.lst xs)):F1 K H (.ref a) (.type "list")
 | frz {a:Addr} {o:Obj} {xs:List V} (e:H a=some (.frz o (.lst xs))):F1 K H (.ref a) (.type "list")
 | tup {a:Addr} {xs:List V} (e:H a=some (.tup xs)):F1 K H (.ref a) (.type "tuple")
 | dK {a:Addr} {kvs:List (Key×V)} (e:H a=some (.dK kvs)):F1 K H (.ref a) (.type "dict")
 | dT {a:Addr} {kvs:List (List Key×V)} (e:H a=some (.dT kvs)):F1 K H (.ref a) (.type "dict")
 | ins {a C dx:Addr} {fs:List (Str×V)} (e:H a=some (.ins C dx fs)) (cl:Cls K C) (ha:PySem.W.findIn K (.ref C) "__class__"=some (some (.builtin "object.__class__")))
   (hn:PySem.W.specialIn K (.builtin "object.__class__") "__get__"=some (some (.builtin "getset_descriptor.__get__"))) (htk:PySem.W.takesIn K (.builtin "object.__class__")=some true)
   (hm:PySem.W.mroIn K C (.type "object")=some true):F1 K H (.ref a) (.ref C)
theorem gB {x:V}{u t:Value}(I:Inv X pins σ H s)(rx:Bc x u)(ty:F1 X.K H x t)(e:kitOne X.K t c=some b)(h:∀ tk,Q (.bool b) { s with toks:=tk }) :
  wpAny (model X.prog X.w) A (call (.builtin "isinstance") [u,c]) Q E s:=by
 cases ty with
 | non=>cases (show u=Value.none from rx);exact kia_one PySem.W.kitx_none I.kIn True.intro e (fun z=>nomatch z) h
 | bl y=>cases (show u=Value.bool y from rx);exact kia_one PySem.W.kitx_bool I.kIn True.intro e (fun z=>nomatch z) h
 | int i=>obtain ⟨t,q⟩:=(show ∃ t,u=Value.int i t from rx);cases q;exact kia_one PySem.W.kitx_int I.kIn True.intro e (fun z=>nomatch z) h
 | str y=>obtain ⟨t,q⟩:=(show ∃ t,u=Value.str y t from rx);cases q;exact kia_one PySem.W.kitx_str I.kIn True.intro e (fun z=>nomatch z) h
 | flt y=>obtain ⟨t,q⟩:=(show ∃ t,u=Value.float y t from rx);cases q;exact kia_one PySem.W.kitx_float I.kIn True.intro e (fun z=>nomatch z) h
 | @lst a xs ea =>
  cases (show u=Value.ref a from rx)
  obtain ⟨_,_,n,_,h1⟩:=(show B3 X.prog X.w H s.heap a (.lst xs) from I.hok a _ ea)
  exact kia_one PySem.W.kitx_list I.kIn ⟨_,h1,rfl⟩ e (fun z=>nomatch z) h
 | @frz a ob xs ea =>
  cases (show u=Value.ref a from rx)
  obtain ⟨_,_,_,n,_,h1⟩:=(show B3 X.prog X.w H s.heap a (.frz ob (.lst xs)) from I.hok a _ ea)
  exact kia_one PySem.W.kitx_list I.kIn ⟨_,h1,rfl⟩ e (fun z=>nomatch z) h
 | @tup a xs ea =>
  cases (show u=Value.ref a from rx)
  obtain ⟨_,_,_,p⟩:=(show B3 X.prog X.w H s.heap a (.tup xs) from I.hok a _ ea)
  obtain ⟨o,h1,h2,_⟩:=p
  exact kia_one PySem.W.kitx_tuple I.kIn ⟨o,h1,h2⟩ e (fun z=>nomatch z) h
 | @dK a kvs ea =>
  cases (show u=Value.ref a from rx)
  obtain ⟨_,_,vs,_,p⟩:=(show B3 X.prog X.w H s.heap a (.dK kvs) from I.hok a _ ea)
  obtain ⟨o,es,ep,h1,h2,_⟩:=p
  exact kia_one PySem.W.kitx_dict I.kIn ⟨o,h1,h2.1⟩ e (fun z=>nomatch z) h
 | @dT a kvs ea =>
  cases (show u=Value.ref a from rx)
  obtain ⟨_,_,xs,_,o,es,ep,h1,h2,_⟩:=(show B3 X.prog X.w H s.heap a (.dT kvs) from I.hok a _ ea)
  exact kia_one PySem.W.kitx_dict I.kIn ⟨o,h1,h2.1⟩ e (fun z=>nomatch z) h
 | @ins a C dx fs ea cl ha hn htk hm =>
  cases (show u=Value.ref a from rx)
  obtain ⟨mA,O,_⟩:=Pa I.hok ea
  obtain ⟨od,J,_⟩:=O.look
  exact kia_one (PySem.W.kitx_own (cl.get _) cl.hd ha hn htk hm) I.kIn J e (fun z=>nomatch z) h
end
structure B2 (k:Nat) (A:Around):Prop where
 hd:A.handled=none
 dp:A.depth+3*k+5<recursionLimit
 un:A.units+16*k+200<cLine
theorem B2.mono {j k:Nat}{A:Around}(r:B2 k A)(h:j<=k):B2 j A:=⟨r.hd,by have:=r.dp;omega,by have:=r.un;omega⟩
theorem B2.deeper {k:Nat}{A:Around}(r:B2 (k+1) A)(env:Env):B2 k (A.deeper env) :=
 ⟨r.hd,by have:=r.dp;show A.depth+1+3*k+5<_;omega,by have:=r.un;show A.units+3+16*k+200<_;omega⟩
theorem Zu {A:Around}{C:Addr}{us:List Value}{kw:List (Str×Value)}:(A.under (.builtin "type.__call__" ⟨.ref C::us,kw⟩)).depth=A.depth+1:=by
 first | rfl | simp [Around.under,Code.weight,Code.isCreation,Code.isGuard,Code.isCaller,Code.frames,Code.isFrame,guardIds]
theorem cA {A:Around}{C:Addr}{us:List Value}{kw:List (Str×Value)}:(A.under (.builtin "type.__call__" ⟨.ref C::us,kw⟩)).units=A.units+1:=by
 first | rfl | simp [Around.under,Code.cUnits,Code.frames,Code.isFrame]
theorem B2.make {k:Nat}{A:Around}(r:B2 (k+1) A)(C:Addr)(us:List Value)(kw:List (Str×Value)):B2 k (A.under (.builtin "type.__call__" ⟨.ref C::us,kw⟩)) :=
 ⟨r.hd,by have:=r.dp;rw [Zu];omega,by have:=r.un;rw [cA];omega⟩
theorem B2.depth {k:Nat}{A:Around}(r:B2 k A):A.depth<recursionLimit:=by have:=r.dp;omega
theorem B2.units {k:Nat}{A:Around}(r:B2 k A):A.units+64<cLine:=by have:=r.un;omega
def Xe:TA:=fun _ H Q=>Q [] H
def Wu (ta:TE)(tr:TA):TA:=fun σ H Q=>ta σ H fun x H1=>tr σ H1 fun xs H2=>Q (x::xs) H2
section
variable {X:Cx} {e:Expr} {es:List Expr} {te:TE} {t:TA} {pos:Pos}
theorem Aa:PA X [] Xe:=fun _ _ _ _ H Q I h=>Calls.spliced_nil ⟨[],H,I,.nil,h⟩
theorem dN (ha:PE X e te)(hr:PA X es t)(hs:starEach (e::es) X.env=(false,eval e X.env)::starEach es X.env:=by rfl):PA X (e::es) (Wu te t):=by
 intro pos pins s σ H Q I h
 rw [hs]
 show wpAny _ _ (spliced ((false,eval e X.env)::backTo pos (starEach es X.env))) _ _ s
 refine Calls.spliced_cons (thn (ha pins s σ H _ I h) fun u s1 ⟨x,H1,I1,r1,q1⟩=>?_)
 exact thn (hr pos pins s1 σ H1 _ I1 q1) fun us s2 ⟨xs,H2,I2,r2,q2⟩=>⟨x::xs,H2,I2,.cons r1 r2,q2⟩
def uP (t:TA):TE:=fun σ H Q=>t σ H fun xs H1=>xs.length<=sizeLine/\∀ p,H1 p=none->Q (.ref p) (upd H1 p (.tup xs))
def sU (t:TA):TE:=fun σ H Q=>t σ H fun xs H1=>xs.length<=sizeLine/\∀ p,H1 p=none->Q (.ref p) (upd H1 p (.lst xs))
theorem Gh {x1}(h:PA X es t):PE X (.Tuple es x1 pos) (uP t):=by
 intro pins s σ H Q I hq
 refine wpAny_Tuple_spliced (thn (h pos pins s σ H _ I hq) fun us s1 ⟨xs,H1,I1,r,z,q⟩=>⟨by rw [<- r.length];exact z,?_⟩)
 have hf:H1 s1.heap.objs.size=none:=I1.hok.fresh (Nat.le_refl _)
 refine ⟨.ref s1.heap.objs.size,upd H1 s1.heap.objs.size (.tup xs),I1.laid (t':=s1.toks) (fun b u e=>Heap.get?_push_of_some _ e) (Nat.le_refl _) ?_,rfl,q _ hf⟩
 exact ⟨z,us,r,⟨_,Heap.get?_push_size _ rfl,rfl,_,rfl⟩⟩
theorem Bd (h:PA X es t):PE X (.List es pos) (sU t):=by
 intro pins s σ H Q I hq
 refine wpAny_List_spliced (thn (h pos pins s σ H _ I hq) fun us s1 ⟨xs,H1,I1,r,z,q⟩=>⟨by rw [<- r.length];exact z,?_⟩)
 have hf:H1 s1.heap.objs.size=none:=I1.hok.fresh (Nat.le_refl _)
 refine ⟨.ref s1.heap.objs.size,upd H1 s1.heap.objs.size (.lst xs),I1.laid (t':=s1.toks) (fun b u e=>Heap.get?_push_of_some _ e) (Nat.le_refl _) ?_,rfl,q _ hf⟩
 exact ⟨z,us,0,r,Heap.get?_push_size _ rfl⟩
end
abbrev Sp:=List V->Hp->VK->XK->Prop
abbrev CXT:=List Env->Hp->Shared->XK->Value->Shared->Prop
structure Ox (P:Program) (w:World) (K:PySem.W.Frag) (mg:Str->Option Value) (base:Heap) (A:Around) (outer:List Env) (s:Shared) (H:Hp):Prop where
 frames:A.frames=some outer
 mod:Mod K mg base
 bs:∀ b o,base.get? b=some o->s.heap.get? b=some o/\H b=none
 bsz:base.objs.size<=s.heap.objs.size
 funs:s.heap.FunFrames base outer
 frf:∀ b∈frs outer,H b=none
 hok:HOk P w H s.heap
 bare:AllBare s.gens
def CE (outer:List Env)(P:Program)(w:World)(H:Hp)(s:Shared)(Q:VK)(u:Value)(s':Shared):Prop :=
 ∃ v H',s'.os=s.os/\AllBare s'.gens/\Un (frs outer) [] H H' s.heap s'.heap/\HOk P w H' s'.heap/\Bc v u/\Q v H'
def CR (CX:CXT)(outer:List Env)(P:Program)(w:World)(H:Hp)(s:Shared)(Q:VK)(E:XK)(r:Result)(s':Shared):Prop :=
 match r with
 | .ok (.ret u)=>CE outer P w H s Q u s'
 | .ok _=>False
 | .error e=>CX outer H s E e s'
structure Ax (P:Program) (w:World) (K:PySem.W.Frag) (mg:Str->Option Value) (base:Heap) (CX:CXT) (k:Nat) (f:Addr) (fd:FuncData) (ps:List Str) (sp:Sp):Prop where
 len:∀ vs H Q E,sp vs H Q E->vs.length=ps.length
 run:∀ (A:Around) (outer:List Env) (s:Shared) (H:Hp) (args:Args) (us:List Value) (vs:List V) (Q:VK) (E:XK),B2 k A->Ox P w K mg base A outer s H->BindsTo s fd args (ps.zip us)->A0 vs us->sp vs H Q E ->
  codeAny (model P w) A (.call (.ref f) args) (CR CX outer P w H s Q E) s
theorem Ox.make {P:Program}{w:World}{K:PySem.W.Frag}{mg:Str->Option Value}{base:Heap}{A:Around}{outer:List Env}{s:Shared}{H:Hp}(e:Ox P w K mg base A outer s H)(C:Addr)(us:List Value)(kw:List (Str×Value)) :
  Ox P w K mg base (A.under (.builtin "type.__call__" ⟨.ref C::us,kw⟩)) outer s H:=⟨by first | exact e.frames | (simpa [Around.under,Code.envs,Code.isFrame,pushEnvs] using e.frames),e.mod,e.bs,e.bsz,e.funs,e.frf,e.hok,e.bare⟩
section
variable {X:Cx} {pins:List (Addr×Obj)} {σ:St} {H:Hp} {s s':Shared}
theorem Inv.env0 (I:Inv X pins σ H s):Ox X.prog X.w X.K X.mg X.base X.A X.stack s H :=
 ⟨I.ok.frames,I.ok.mod,I.bs,Nat.le_trans I.ok.bsz I.sz,I.stack,I.stkFree,I.hok,I.bare⟩
theorem Inv.after {Q:VK}{u:Value}(I:Inv X pins σ H s)(h:CE X.stack X.prog X.w H s Q u s'):EP X pins σ Q u s':=by
 obtain ⟨v,H',os,bare,un,hok,r,q⟩:=h
 obtain ⟨hh,g,d,t,os'⟩:=s'
 obtain rfl:os'=s.os:=os
 exact ⟨v,H',I.call (h':=hh) (g':=g) (d':=d) (t':=t) (ch:=[]) un hok bare (fun b z=>absurd z (by simp)),r,q⟩
end
def T5 (sp:Sp)(dvs:List V)(E:XK)(t:TA):TE:=fun σ H Q=>t σ H fun vs H1=>sp (vs++dvs) H1 Q E
def R8 (C:Addr)(m:Str)(sp:Sp)(dvs:List V)(E:XK)(ta:TE)(t:TA):TE:=fun σ H Q=>ta σ H fun x H1=>∃ a dx fs,x=.ref a/\H1 a=some (.ins C dx fs)/\fs.lookup m=none /\
 t σ H1 fun vs H2=>sp (x::(vs++dvs)) H2 Q E
def Yk (C:Addr)(sp:Sp)(dvs:List V)(E:XK)(t:TA):TE:=fun σ H Q=>t σ H fun vs H1=>∀ x dx,H1 x=none->H1 dx=none->dx≠x ->
 sp (.ref x::(vs++dvs)) (upd (upd H1 dx (.own x)) x (.ins C dx [])) (fun v H2=>v=.non/\Q (.ref x) H2) E
def Dk (K:PySem.W.Frag)(fd:FuncData)(ps:List Str)(ds:List Value):Prop :=
 ∀ (s:Shared) (us:List Value),K.In s.heap->(us++ds).length=ps.length->BindsTo s fd ⟨us,[]⟩ (ps.zip (us++ds))
theorem Dk.all {K:PySem.W.Frag}{fd:FuncData}{ps:List Str}(h:∀ us:List Value,us.length=ps.length->bindArgs fd ⟨us,[]⟩=pure (ps.zip us)):Dk K fd ps []:=fun s us _ hl=>by
 rw [List.append_nil] at hl ⊢
 exact .of_eq (h us hl)
def Fo (CX:CXT)(X:Cx)(E:XK):Prop:=∀ (pins:List (Addr×Obj)) (σ:St) (H:Hp) (s:Shared) (e:Value) (s':Shared),Inv X pins σ H s->CX X.stack H s E e s'->X.xe e s'
section
variable {X:Cx} {CX:CXT} {k:Nat} {f C:Addr} {fd:FuncData} {ps:List Str} {sp:Sp} {dvs:List V} {ds:List Value} {E:XK} {x m:Str} {p pos apos:Pos} {e o:Expr} {es:List Expr} {ta:TE} {t:TA}
theorem Vn {pins:List (Addr×Obj)}{σ:St}{H:Hp}{s:Shared}{Q:VK}{us:List Value}{vs:List V}(F:Ax X.prog X.w X.K X.mg X.base CX k f fd ps sp)(hr:B2 k X.A)(hb:Dk X.K fd ps ds)(hd:A0 dvs ds)(hx:Fo CX X E)
  (I:Inv X pins σ H s)(r:A0 vs us)(h:sp (vs++dvs) H Q E):wpAny (model X.prog X.w) X.A (call (.ref f) us) (EP X pins σ Q) X.xe s:=by
 have r2:A0 (vs++dvs) (us++ds):=r.append hd
 have hl:(us++ds).length=ps.length:=by rw [<- r2.length];exact F.len _ _ _ _ h
 refine wpAny_call (codeAny_mono (F.run X.A X.stack s H ⟨us,[]⟩ (us++ds) (vs++dvs) Q E hr I.env0 (hb s us I.kIn hl) r2 h) fun r s' hq=>?_)
 cases r with
 | error e=>exact hx pins σ H s e s' I hq
 | ok fl =>
  cases fl with
  | ret u=>exact I.after hq
  | next=>exact False.elim hq
  | brk=>exact False.elim hq
  | cont=>exact False.elim hq
theorem eY (F:Ax X.prog X.w X.K X.mg X.base CX k f fd ps sp)(hr:B2 k X.A)(hg:Gl X x)(hm:X.mg x=some (.ref f))(hk:PySem.W.keepIn X.K (.ref f)=true)(hb:Dk X.K fd ps ds)(hd:A0 dvs ds)(hx:Fo CX X E)
  (ha:PA X (e::es) t)(hdb:(x==("__debug__":Str))=false:=by decide)(he:starEach (e::es) X.env=(false,eval e X.env)::starEach es X.env:=by rfl)(hpl:(backTo pos (starEach es X.env)).any (·.1)=false:=by rfl) :
  PE X (.Call (.Name x p) (e::es) [] pos) (T5 sp dvs E t):=by
 intro pins s σ H Q I h
 refine wpAny_Call_Name_kw (Ei I hg hm ?_ hdb)
 refine callWith_K (h₀:=X.base) I.ok.mod.kin hk (thn (ha pos pins s σ H _ I h) fun us s1 ⟨vs,H1,I1,r,q⟩=>⟨I1.kIn,?_⟩) he hpl
 exact Vn F hr hb hd hx I1 r q
theorem eJ {pl:Sem Bool}(he:PE X o ta)(c:Cls X.K C)(hm:fC X.K C m f)(F:Ax X.prog X.w X.K X.mg X.base CX k f fd ps sp)(hr:B2 k X.A)(hb:Dk X.K fd ps ds)(hd:A0 dvs ds)(hx:Fo CX X E)(ha:PA X (e::es) t)
  (hst:starEach (e::es) X.env=(false,eval e X.env)::starEach es X.env:=by rfl)(hpl:(backTo pos (starEach es X.env)).any (·.1)=false:=by rfl)
  (ht:eval (.Call (.Attribute o m apos) (e::es) [] pos) X.env=(do
   let ov <- eval o X.env
   standAt apos.atName
   let (f,first) <- holding [ov] (getMethod ov m pl)
   callWith pos f first (backTo pos (starEach (e::es) X.env)) (backToKw pos (keywordEach [] X.env))):=by rfl) :
  PE X (.Call (.Attribute o m apos) (e::es) [] pos) (R8 C m sp dvs E ta t):=by
 intro pins s σ H Q I h
 refine PySem.W.methodCall_KW (pl:=pl) (thn (he pins s σ H _ I h) fun u s1 ⟨x,H1,I1,rx,a,dx,fs,ex,ea,l,q⟩=>?_) ht
 subst ex
 obtain rfl:u=Value.ref a:=rx
 refine Jb I1 ea c hm l ?_
 refine callWith_K (first:=[.ref a]) (h₀:=X.base) I.ok.mod.kin hm.kp (thn (ha pos pins s1 σ H1 _ I1 q) fun us s2 ⟨vs,H2,I2,r,q2⟩=>⟨I2.kIn,?_⟩) hst hpl
 exact Vn (us:=.ref a::us) (vs:=.ref a::vs) F hr hb hd hx I2 (.cons rfl r) q2
theorem kQ {pl:Sem Bool}(he:PE X o ta)(c:Cls X.K C)(hm:fC X.K C m f)(F:Ax X.prog X.w X.K X.mg X.base CX k f fd ps sp)(hr:B2 k X.A)(hb:Dk X.K fd ps ds)(hd:A0 dvs ds)(hx:Fo CX X E)
  (ht:eval (.Call (.Attribute o m apos) [] [] pos) X.env=(do
   let ov <- eval o X.env
   standAt apos.atName
   let (f,first) <- holding [ov] (getMethod ov m pl)
   callWith pos f first (backTo pos (starEach [] X.env)) (backToKw pos (keywordEach [] X.env))):=by rfl) :
  PE X (.Call (.Attribute o m apos) [] [] pos) (R8 C m sp dvs E ta Xe):=by
 intro pins s σ H Q I h
 refine PySem.W.methodCall_KW (pl:=pl) (thn (he pins s σ H _ I h) fun u s1 ⟨x,H1,I1,rx,a,dx,fs,ex,ea,l,q⟩=>?_) ht
 subst ex
 obtain rfl:u=Value.ref a:=rx
 refine Jb I1 ea c hm l ?_
 exact PySem.W.callWith_K0 (first:=[.ref a]) I1.kIn hm.kp (Vn (us:=[.ref a]) (vs:=[.ref a]) F hr hb hd hx I1 (.cons rfl .nil) q)
structure Mk (K:PySem.W.Frag) (C f:Addr):Prop where
 makes:PySem.W.makesIn K C=true
 init:PySem.W.findIn K (.ref C) "__init__"=some (some (.ref f))
 fn:PySem.W.isFn K (.ref f)=true
 kp:PySem.W.keepIn K (.ref C)=true
theorem nK {pins:List (Addr×Obj)}{σ:St}{H:Hp}{s:Shared}{Q:VK}{us:List Value}{vs:List V}(M:Mk X.K C f)(F:Ax X.prog X.w X.K X.mg X.base CX k f fd ps sp)(hr:B2 (k+1) X.A)(hb:Dk X.K fd ps ds)(hd:A0 dvs ds)
  (hx:Fo CX X E)(I:Inv X pins σ H s)(r:A0 vs us)
  (h:∀ x dx,H x=none->H dx=none->dx≠x->sp (.ref x::(vs++dvs)) (upd (upd H dx (.own x)) x (.ins C dx [])) (fun v H2=>v=.non/\Q (.ref x) H2) E) :
  wpAny (model X.prog X.w) X.A (call (.ref C) us) (EP X pins σ Q) X.xe s:=by
 have hq:=h (s.heap.objs.size+1) s.heap.objs.size (I.hok.fresh (Nat.le_succ _)) (I.hok.fresh (Nat.le_refl _)) (Nat.ne_of_lt (Nat.lt_succ_self _))
 have I2:=Inv.made (C:=C) I
 have r2:A0 (V.ref (s.heap.objs.size+1)::(vs++dvs)) (Value.ref (s.heap.objs.size+1)::(us++ds)):=.cons rfl (r.append hd)
 have hl:(Value.ref (s.heap.objs.size+1)::us++ds).length=ps.length:=by
  have e:=r2.length
  rw [F.len _ _ _ _ hq] at e
  exact e.symm
 refine wpAny_call (Wq (f:=f) I.kIn M.makes M.init (beq_iff_eq.mp M.fn) (codeAny_mono (F.run _ X.stack _ _ ⟨Value.ref (s.heap.objs.size+1)::us,[]⟩ (Value.ref (s.heap.objs.size+1)::(us++ds)) _ _ E (hr.make C us [])
  (I2.env0.make C us []) (hb _ (Value.ref (s.heap.objs.size+1)::us) I2.kIn hl) r2 hq) fun r s' hq'=>?_))
 cases r with
 | error e=>exact hx pins σ _ _ e s' I2 hq'
 | ok fl =>
  cases fl with
  | ret u =>
   obtain ⟨v,H',I3,rv,ev,q3⟩:=I2.after hq'
   subst ev
   exact ⟨rv,⟨V.ref (s.heap.objs.size+1),H',I3,rfl,q3⟩⟩
  | next=>exact False.elim hq'
  | brk=>exact False.elim hq'
  | cont=>exact False.elim hq'
theorem dO (M:Mk X.K C f)(F:Ax X.prog X.w X.K X.mg X.base CX k f fd ps sp)(hr:B2 (k+1) X.A)(hg:Gl X x)(hm:X.mg x=some (.ref C))(hb:Dk X.K fd ps ds)(hd:A0 dvs ds)(hx:Fo CX X E)
  (ha:PA X (e::es) t)(hdb:(x==("__debug__":Str))=false:=by decide)(he:starEach (e::es) X.env=(false,eval e X.env)::starEach es X.env:=by rfl)(hpl:(backTo pos (starEach es X.env)).any (·.1)=false:=by rfl) :
  PE X (.Call (.Name x p) (e::es) [] pos) (Yk C sp dvs E t):=by
 intro pins s σ H Q I h
 refine wpAny_Call_Name_kw (Ei I hg hm ?_ hdb)
 refine callWith_K (h₀:=X.base) I.ok.mod.kin M.kp (thn (ha pos pins s σ H _ I h) fun us s1 ⟨vs,H1,I1,r,q⟩=>⟨I1.kIn,?_⟩) he hpl
 exact nK M F hr hb hd hx I1 r q
end
structure Ai (N P:List Str) (sc:Scope):Prop where
 kind:sc.kind=.function
 co:sc.isCoroutine=false
 gen:sc.isGenerator=false
 nd:N.Nodup
 pre:N.take P.length=P
 par:∀ x∈P,sc.names.lookup x=some .local\/sc.names.lookup x=some .cell
 nofree:∀ y∈sc.names,y.2≠.free
theorem S2 {kindOf : Str->Option NameKind}{x : Str} : ∀ {binds : List (Str × Value)} {m : Str->Option Value}, (∀ v, (x, v) ∉ binds)->bindL kindOf binds m x = m x
  | [], _, _ => rfl
  | (n, v) :: r, m, h => by
    unfold bindL
    rw [S2 fun w hw => h w (List.mem_cons_of_mem _ hw)]
    split
    · have : x ≠ n := by rintro rfl; exact h v List.mem_cons_self
      simp [this]
    · rfl
theorem Tg {kindOf : Str->Option NameKind}{x : Str} : ∀ {binds : List (Str × Value)} {m : Str->Option Value}, (∀ v, (x, v) ∉ binds)->bindC kindOf binds m x = m x
  | [], _, _ => rfl
  | (n, v) :: r, m, h => by
    unfold bindC
    rw [Tg fun w hw => h w (List.mem_cons_of_mem _ hw)]
    split
    · rfl
    · have : x ≠ n := by rintro rfl; exact h v List.mem_cons_self
      simp [this]
theorem Tq {kindOf:Str->Option NameKind}{x:Str}{v:Value}:∀ {P:List Str} {vs:List Value} {i:Nat} {m:Str->Option Value},P.Nodup->P[i]?=some x->vs[i]?=some v->kindOf x=some .local ->
  bindL kindOf (P.zip vs) m x=some v
 | [],_,_,_,_,h,_,_=>by simp at h
 | _::_,[],_,_,_,_,h,_=>by simp at h
 | p::P,w::vs,0,m,nd,h1,h2,hk=>by
  simp at h1 h2;subst h1;subst h2
  show bindL kindOf ((p,w)::P.zip vs) m p=_
  unfold bindL
  rw [S2 fun v hv=>(List.nodup_cons.mp nd).1 (List.of_mem_zip hv).1,if_pos hk]
  simp
 | p::P,w::vs,i+1,m,nd,h1,h2,hk=>by
  show bindL kindOf ((p,w)::P.zip vs) m x=_
  unfold bindL
  exact Tq (i:=i) (List.nodup_cons.mp nd).2 (by simpa using h1) (by simpa using h2) hk
theorem T0 {kindOf:Str->Option NameKind}{x:Str}{v:Value}:∀ {P:List Str} {vs:List Value} {i:Nat} {m:Str->Option Value},P.Nodup->P[i]?=some x->vs[i]?=some v->kindOf x≠some .local ->
  bindC kindOf (P.zip vs) m x=some v
 | [],_,_,_,_,h,_,_=>by simp at h
 | _::_,[],_,_,_,_,h,_=>by simp at h
 | p::P,w::vs,0,m,nd,h1,h2,hk=>by
  simp at h1 h2;subst h1;subst h2
  show bindC kindOf ((p,w)::P.zip vs) m p=_
  unfold bindC
  rw [Tg fun v hv=>(List.nodup_cons.mp nd).1 (List.of_mem_zip hv).1,if_neg hk]
  simp
 | p::P,w::vs,i+1,m,nd,h1,h2,hk=>by
  show bindC kindOf ((p,w)::P.zip vs) m x=_
  unfold bindC
  exact T0 (i:=i) (List.nodup_cons.mp nd).2 (by simpa using h1) (by simpa using h2) hk
def Hn (N:List Str)(vs:List V):St:=vs.map some++List.replicate (N.length-vs.length) none
def Bu (CX:CXT)(P:Program)(w:World)(K:PySem.W.Frag)(mg:Str->Option Value)(base:Heap)(N:List Str)(qual:Str)(scope:Scope)(f:Addr)(cd:Value)(A:Around)(outer:List Env)(s:Shared)(H:Hp)(E:XK):Cx where
 prog:=P
 w:=w
 K:=K
 mg:=mg
 base:=base
 A:=A.deeper (envOfC qual scope s.heap.objs.size f cd)
 N:=N
 s₀:=s
 H₀:=H
 env:=envOfC qual scope s.heap.objs.size f cd
 outer:=outer
 stack:=envOfC qual scope s.heap.objs.size f cd::outer
 ex:=[]
 calm:=true
 fn:=fun _=>true
 pn:=[]
 xe:=fun e s'=>wpAny (model P w) (A.deeper (envOfC qual scope s.heap.objs.size f cd)) (leaving (envOfC qual scope s.heap.objs.size f cd) e) (fun _ s''=>CX outer H s E e s'') (fun e' s''=>CX outer H s E e' s'') s'
theorem Yg {sc:Scope}{n:Nat}{x:Str}(h:sc.names.lookup x=some .cell):∃ c,(cellsFrom n sc.names []).lookup x=some c:=by
 have q:=PySem.W.cellsFrom_some sc.names n [] (.inl h)
 exact Option.isSome_iff_exists.mp q
theorem Tu {CX:CXT}{P:Program}{w:World}{K:PySem.W.Frag}{mg:Str->Option Value}{base:Heap}{N ps:List Str}{qual:Str}{scope:Scope}{f:Addr}{cd:Value}{A:Around}{outer:List Env}{s s1:Shared}{H:Hp}{E:XK}{us:List Value}{vs:List V}
  (S:Ai N ps scope)(hd:A.handled=none)(e0:Ox P w K mg base A outer s H)(hl:vs.length=ps.length)(r:A0 vs us)
  (x:InCallC s s.heap.objs.size (bindL (envOfC qual scope s.heap.objs.size f cd).kindOf (ps.zip us) fun _=>none) (cellsFrom (s.heap.objs.size+1) scope.names []) (bindC (envOfC qual scope s.heap.objs.size f cd).kindOf (ps.zip us) fun _=>none) s1) :
  Inv (Bu CX P w K mg base N qual scope f cd A outer s H E) [] (Hn N vs) H s1:=by
 have hpl:ps.length<=N.length:=by have:=congrArg List.length S.pre;rw [List.length_take] at this;omega
 obtain ⟨h1,tk,rfl,hk⟩:=x.done
 have noA:∀ b:Addr,b∉(Bu CX P w K mg base N qual scope f cd A outer s H E).ex:=fun b z=>absurd (show b∈([]:List Addr) from z) (by simp)
 refine ⟨⟨e0.mod,S.kind,rfl,rfl,Nat.le_refl _,fun y z c h1 h2=>?_,fun y hy=>?_,fun y c _ h=>?_,fun _=>hd,Around.frames_deeper e0.frames,.inr ⟨rfl,rfl⟩,fun b z=>absurd z (noA b),e0.bs,e0.bsz,fun b _ _=>noA b,fun b z=>absurd z (noA b),e0.funs,e0.frf⟩,
  rfl,e0.bare,Un.kept hk,⟨_,x.toInCall.ns,fun i y v h1 h2 h3=>?_⟩,fun y c h=>⟨_,x.cell y c h⟩,e0.hok.fresh (Nat.le_refl _),fun y c h=>?_,fun p hp=>absurd (show p∈([]:List (Addr×Obj)) from hp) (by simp),e0.hok.kept hk,?_⟩
 ·exact name_of_addr x.apart (PySem.mem_of_lookup h1) (PySem.mem_of_lookup h2)
 ·have hy:scope.names.lookup y=some .cell\/scope.names.lookup y=some .free:=hy
  rcases hy with hy | hy
  ·exact Yg hy
  ·exact absurd rfl (S.nofree _ (PySem.mem_of_lookup hy))
 ·exact Nat.le_of_lt (x.above y c (PySem.mem_of_lookup h))
 ·have hi:i<vs.length:=by
   unfold Hn at h2
   by_cases hi:i<vs.length
   ·exact hi
   ·rw [List.getElem?_append_right (by simpa using hi)] at h2
    rw [List.getElem?_replicate] at h2
    split at h2<;>cases h2
  have ha:vs[i]?=some v:=by
   unfold Hn at h2
   rw [List.getElem?_append_left (by simpa using hi),List.getElem?_map] at h2
   cases e:vs[i]? with
   | none=>rw [e] at h2;cases h2
   | some a=>rw [e] at h2;cases h2;rfl
  obtain ⟨u,hu,rv⟩:=r.get ha
  have hp:ps[i]?=some y:=by
   rw [<- S.pre,List.getElem?_take_of_lt (by omega)];exact h1
  have ndP:ps.Nodup:=by rw [<- S.pre];exact S.nd.sublist (List.take_sublist _ _)
  refine ⟨u,rv,?_⟩
  rcases S.par y (List.mem_of_getElem? hp) with k | k
  ·exact .inl ⟨k,Tq ndP hp hu k⟩
  ·obtain ⟨c,e⟩:=Yg (n:=s.heap.objs.size+1) k
   refine .inr ⟨.inl k,c,e,?_⟩
   have q:=x.cell y c e
   rw [T0 ndP hp hu (by show scope.names.lookup y≠_;rw [k];decide)] at q
   exact q
 ·exact e0.hok.fresh (Nat.le_of_lt (x.above y c (PySem.mem_of_lookup h)))
 ·unfold Hn
  show _=N.length
  rw [List.length_append,List.length_map,List.length_replicate]
  omega
theorem iT {CX:CXT}{P:Program}{w:World}{K:PySem.W.Frag}{mg:Str->Option Value}{base:Heap}{k:Nat}{f:Addr}{name qual:Str}{params:Arguments}{body:List Stmt}{scope:Scope}{dV kV doc pm cdv ct oc:Value}{an od:Option Addr}
  {osl:Array (Option Value)}{N ps:List Str}{sp:Sp}(lk:K.lookup f=some ⟨oc,od,.func (PySem.W.fnOf name qual params body scope dV kV doc pm an cdv ct),osl⟩)(hcd:PySem.W.codeIn K cdv qual=true)(S:Ai N ps scope)
  (len:∀ vs H Q E,sp vs H Q E->vs.length=ps.length)
  (hbody:∀ (A:Around) (outer:List Env) (s:Shared) (H:Hp) (vs:List V) (Q:VK) (E:XK),B2 k (A.deeper (envOfC qual scope s.heap.objs.size f cdv))->sp vs H Q E ->
   ∃ t,PSs (Bu CX P w K mg base N qual scope f cdv A outer s H E) body t/\t { nx:=fun _ H'=>Q .non H',rt:=Q } (Hn N vs) H) :
  Ax P w K mg base CX (k+1) f (PySem.W.fnOf name qual params body scope dV kV doc pm an cdv ct) ps sp:=by
 refine ⟨len,fun A outer s H args us vs Q E hr e0 hb r hsp=>?_⟩
 have hl:=len _ _ _ _ hsp
 have KX:K.In s.heap:=e0.mod.kin.keeps fun b o e=>(e0.bs b o e).1
 have lim:s.heap.NoLimit:=e0.mod.nolimit.keeps fun b o e=>(e0.bs b o e).1
 have hkind:∀ y∈ps.zip us,scope.names.lookup y.1=some .local\/(scope.names.lookup y.1=some .cell/\((cellsFrom (s.heap.objs.size+1) scope.names []).lookup y.1).isSome=true):=fun ⟨n,v⟩ hy=>by
  rcases S.par n (List.of_mem_zip hy).1 with q | q
  ·exact .inl q
  ·exact .inr ⟨q,PySem.W.cellsFrom_some _ _ _ (.inl q)⟩
 refine codeAny_call_function hr.depth (KX _ _ lk) rfl S.co S.gen rfl (PySem.W.codeRec_of KX hcd) (hb _ _ _ _ ?_)
 refine wpAny_newFunctionEnv_cells S.kind hkind fun env he s1 x=>?_
 subst he
 refine ⟨lim.keeps x.toInCall.keep,codeAny_func ?_⟩
 obtain ⟨t,ht,hq⟩:=hbody A outer s H vs Q E (hr.deeper _) hsp
 have I:Inv (Bu CX P w K mg base N qual scope f cdv A outer s H E) [] (Hn N vs) H s1:=Tu S hr.hd e0 hl r x
 refine wpAny_mono (ht [] s1 (Hn N vs) H _ I hq) (fun fl s' hs=>?_) fun e s' hs=>hs
 have fin:∀ {σ':St} {H':Hp} {v:V} {u:Value},Inv (Bu CX P w K mg base N qual scope f cdv A outer s H E) [] σ' H' s'->Bc v u->Q v H'->CE outer P w H s Q u s' :=
  fun {σ' H' v u} J rv q=>⟨v,H',J.os,J.bare,J.base,J.hok,rv,q⟩
 cases fl with
 | ret u =>
  obtain ⟨v,σ',H',J,rv,q⟩:=hs
  exact fin J rv q
 | next =>
  obtain ⟨σ',H',J,q⟩:=hs
  exact fin (v:=V.non) (u:=Value.none) J rfl q
 | brk =>
  obtain ⟨_,_,_,q⟩:=hs
  exact False.elim q
 | cont =>
  obtain ⟨_,_,_,q⟩:=hs
  exact False.elim q
section
variable {X:Cx} {x:Str} {p pos:Pos} {e:Expr} {es:List Expr} {t:TA} {id T:String} {r:List V->Hp->VK->Prop}
def tCB (r:List V->Hp->VK->Prop)(t:TA):TE:=fun σ H Q=>t σ H fun vs H1=>r vs H1 Q
theorem Ar (hc:Dj X (.builtin id) r)(hg:Gl X x)(hm:X.mg x=none)(hv:bootBuiltins x=some (.builtin id))(ha:PA X (e::es) t)(hn:x≠"__name__":=by decide)(hdb:(x==("__debug__":Str))=false:=by decide)
  (he:starEach (e::es) X.env=(false,eval e X.env)::starEach es X.env:=by rfl)(hpl:(backTo pos (starEach es X.env)).any (·.1)=false:=by rfl):PE X (.Call (.Name x p) (e::es) [] pos) (tCB r t):=by
 intro pins s σ H Q I h
 refine wpAny_Call_Name_kw (G7 I hg hm hv ?_ hn hdb)
 exact PyProof.Rows.callWith_builtin1 (thn (ha pos pins s σ H _ I h) fun us s1 ⟨vs,H1,I1,r1,q1⟩=>hc pins s1 σ H1 vs us Q I1 r1 q1) he hpl
theorem Di (hc:Dj X (.type T) r)(hg:Gl X x)(hm:X.mg x=none)(hv:bootBuiltins x=some (.type T))(ha:PA X (e::es) t)(hn:x≠"__name__":=by decide)(hdb:(x==("__debug__":Str))=false:=by decide)
  (he:starEach (e::es) X.env=(false,eval e X.env)::starEach es X.env:=by rfl)(hpl:(backTo pos (starEach es X.env)).any (·.1)=false:=by rfl):PE X (.Call (.Name x p) (e::es) [] pos) (tCB r t):=by
 intro pins s σ H Q I h
 refine wpAny_Call_Name_kw (G7 I hg hm hv ?_ hn hdb)
 exact PyProof.Rows.callWith_type1 (thn (ha pos pins s σ H _ I h) fun us s1 ⟨vs,H1,I1,r1,q1⟩=>hc pins s1 σ H1 vs us Q I1 r1 q1) he hpl
end
end L2
namespace HT
open PySem PyProof.Rows
section
open PySem.SeqAt
open PySem.AutoSeq1 (wpAny_loadPart')
open PySem.MeetsSeq PySem.MeetsSeq2 PySem.MeetsSeq3
end
section
variable {prog:Program} {w:World} {A:Around} {E:Value->Shared->Prop} {s:Shared}
def sIx (n d:Nat):Option Int->Nat
 | none=>d
 | some v=>if v<0 then (v+(n:Int)).toNat else min v.toNat n
theorem sIx_nat (n d k:Nat):sIx n d (some (k:Int))=min k n:=by
 show (if (k:Int)<0 then ((k:Int)+(n:Int)).toNat else min (k:Int).toNat n)=min k n
 rw [if_neg (by omega),Int.toNat_natCast]
theorem sIx_le (n d:Nat)(hd:d<=n)(o:Option Int):sIx n d o<=n:=by
 cases o with
 | none=>exact hd
 | some v =>
  show (if v<0 then (v+(n:Int)).toNat else min v.toNat n)<=n
  by_cases hv:v<0
  ·rw [if_pos hv];omega
  ·rw [if_neg hv];exact Nat.min_le_right _ _
theorem cY (v:Int)(n d:Nat):(if v<0 then max (v+(n:Int)) 0 else min v (n:Int))=((sIx n d (some v):Nat):Int):=by
 show (if v<0 then max (v+(n:Int)) 0 else min v (n:Int))=(((if v<0 then (v+(n:Int)).toNat else min v.toNat n):Nat):Int)
 by_cases hv:v<0
 ·simp only [if_pos hv];omega
 ·simp only [if_neg hv];omega
theorem Z0 (lo hi:Option Int)(n:Nat):Builtin.Slice.sliceAdjust lo hi 1 (n:Int)=(((sIx n 0 lo:Nat):Int),((sIx n n hi:Nat):Int)):=by
 have h1:¬ ((1:Int)<0):=by omega
 unfold Builtin.Slice.sliceAdjust
 simp only [h1,if_false]
 refine Prod.ext ?_ ?_
 ·cases lo with
  | none=>rfl
  | some v=>exact cY v n 0
 ·cases hi with
  | none=>rfl
  | some v=>exact cY v n n
theorem Zv (i j:Nat):Builtin.Slice.slicePlaces (i:Int) (j:Int) 1=j-i:=by
 unfold Builtin.Slice.slicePlaces
 have h1:(1:Int)>0:=by omega
 simp only [h1,if_true,Int.ediv_one]
 split<;>omega
theorem Ps {v:Value}{o:Option Int}{Q:Option Int->Shared->Prop}(p:IsPart v o)(h:Q o s):wpAny (model prog w) A (Builtin.Slice.slicePartIndex v) Q E s:=by
 cases p with
 | none=>exact slicePart_none h
 | int i t=>exact slicePart_int h
theorem sliceApplied_gen {sl:Addr}{vl vu:Value}{lo hi:Option Int}{n:Nat}{Q:Int×Int×Nat->Shared->Prop}(hs:s.heap.IsSliceOf sl vl vu .none)(pl:IsPart vl lo)(pu:IsPart vu hi)
  (h:Q (((sIx n 0 lo:Nat):Int),1,sIx n n hi-sIx n 0 lo) s):wpAny (model prog w) A (Builtin.Slice.sliceApplied (.ref sl) (pure (n:Int))) Q E s:=by
 obtain ⟨os,hos,hcs,hds⟩:=id hs
 unfold Builtin.Slice.sliceApplied Builtin.Slice.sliceFields
 refine wpAny_bind (wpAny_bind (wpAny_field hos hds (x:=vl) rfl (wpAny_bind (wpAny_field hos hds (x:=vu) rfl (wpAny_bind (wpAny_field hos hds (x:=.none) rfl (wpAny_pure ?_)))))))
 refine wpAny_bind (slicePart_none ?_)
 show wpAny _ _ (if ((1:Int)==0)=true then _ else _) _ _ s
 rw [if_neg (by decide)]
 refine wpAny_bind (Ps pl (wpAny_bind (Ps pu (wpAny_bind (wpAny_pure ?_)))))
 show wpAny _ _ (match Builtin.Slice.sliceAdjust lo hi 1 (n:Int) with | (lo,hi)=>pure (lo,(1:Int),Builtin.Slice.slicePlaces lo hi 1)) _ _ s
 rw [Z0 lo hi n]
 show wpAny _ _ (pure (((sIx n 0 lo:Nat):Int),(1:Int),Builtin.Slice.slicePlaces ((sIx n 0 lo:Nat):Int) ((sIx n n hi:Nat):Int) 1)) _ _ s
 rw [Zv]
 exact wpAny_pure h
theorem jD (xs:Array Value)(i k:Nat):((List.range k).filterMap fun (m:Nat)=>xs[((i:Int)+(m:Int)*1).toNat]?).toArray=((xs.toList.drop i).take k).toArray:=by
 have e:(fun (m:Nat)=>xs[((i:Int)+(m:Int)*1).toNat]?)=fun m=>xs[i+m]?:=by
  funext m
  have:((i:Int)+(m:Int)*1).toNat=i+m:=by omega
  rw [this]
 rw [e]
 have:=pick_run xs i k
 rw [List.filterMap_map] at this
 have e2:((fun x=>xs[x]?) ∘ fun x=>i+x)=fun m=>xs[i+m]?:=rfl
 rw [e2] at this
 rw [this]
theorem getItem_tuple_cut {t sl:Addr}{items:Array Value}{vl vu:Value}{lo hi:Option Int}{Q:Value->Shared->Prop}(ht:IsTup s.heap t items)(hs:s.heap.IsSliceOf sl vl vu .none)(pl:IsPart vl lo)(pu:IsPart vu hi)
  (hw:¬ (sIx items.size 0 lo=0/\sIx items.size items.size hi=items.size))
  (h:Q (.ref s.heap.objs.size) { s with heap:=s.heap.push { cls:=.type "tuple",data:=.seq ((items.toList.drop (sIx items.size 0 lo)).take (sIx items.size items.size hi-sIx items.size 0 lo)).toArray } })
  (hsz:items.size<=sizeLine):wpAny (model prog w) A (getItem (.ref t) (.ref sl)) Q E s:=by
 have htake:sizeOk (.seq ((items.toList.drop (sIx items.size 0 lo)).take (sIx items.size items.size hi-sIx items.size 0 lo)).toArray):=by
  show ((items.toList.drop (sIx items.size 0 lo)).take (sIx items.size items.size hi-sIx items.size 0 lo)).toArray.size<=sizeLine
  rw [List.size_toArray,List.length_take,List.length_drop,Array.length_toList]
  omega
 have hj:sIx items.size items.size hi<=items.size:=sIx_le _ _ (Nat.le_refl _) hi
 obtain ⟨os,hos,hcs,hds⟩:=id hs
 have hTs:s.TypeIs (.ref sl) "slice":=⟨os,hos,hcs⟩
 unfold getItem
 try with_reducible refine wpAny_holding ?_
 first | refine wpAny_bind (wpAny_pure ?_) | skip
 refine wpAny_bind (wpAny_sequenceKey ht.typeIs (by decide) ?_)
 refine wpAny_bind (wpAny_callSpecial?_slot (name:=Str.ofString "__getitem__") ht.typeIs PyProof.Rows.slot_tuple_getitem
  (wpAny_call_entry PyProof.Rows.slot_tuple_getitem ht.typeIs entry_tuple_getitem ?_ (args_tuple_getitem _ _)))
 show wpAny _ _ (Builtin.Tuple.tupleItemsOf (.ref t) >>= _) _ _ s
 refine wpAny_bind (tupleItemsOf_ ht ?_)
 refine wpAny_bind (wpAny_typeOf hTs ?_)
 rw [if_pos (by decide)]
 refine wpAny_bind (sliceApplied_gen hs pl pu ?_)
 have hno:¬ ((((sIx items.size 0 lo:Nat):Int)==0&&(1:Int)==1&&(sIx items.size items.size hi-sIx items.size 0 lo)==items.size)=true):=by
  intro q
  rw [Bool.and_eq_true,Bool.and_eq_true] at q
  have q1:((sIx items.size 0 lo:Nat):Int)=0:=eq_of_beq q.1.1
  have q2:sIx items.size items.size hi-sIx items.size 0 lo=items.size:=eq_of_beq q.2
  exact hw ⟨by omega,by omega⟩
 show wpAny _ _ (if (((sIx items.size 0 lo:Nat):Int)==0&&(1:Int)==1&&(sIx items.size items.size hi-sIx items.size 0 lo)==items.size)=true then _ else _) _ _ s
 rw [if_neg hno,jD]
 first
  | exact wpAny_bind (m:=Builtin.Tuple.tupleExact _) (wpAny_newObj_type (wpAny_pure ⟨_,rfl,wpAny_pure h⟩) htake)
  | exact wpAny_bind (m:=Builtin.Tuple.tupleExact _) (wpAny_newObj_type (wpAny_bind (wpAny_pure (wpAny_pure ⟨_,rfl,wpAny_pure h⟩))) htake)
  | exact wpAny_bind (wpAny_bind (m:=Builtin.Tuple.tupleExact _) (wpAny_newObj_type (wpAny_pure (wpAny_pure ⟨_,rfl,wpAny_pure h⟩)) htake))
  | exact wpAny_bind (wpAny_bind (m:=Builtin.Tuple.tupleExact _) (wpAny_newObj_type (wpAny_pure ⟨_,rfl,wpAny_pure h⟩) htake))
end
end HT
namespace L2
open PySem PySem.Spec PyProof.Rows
abbrev TO:=St->Hp->(Option Int->Hp->Prop)->Prop
def PO (X:Cx)(e:Option Expr)(t:TO):Prop :=
 ∀ (pins:List (Addr×Obj)) (s:Shared) (σ:St) (H:Hp) (Q:Option Int->Hp->Prop),Inv X pins σ H s->t σ H Q ->
  wpAny (model X.prog X.w) X.A (evalPart e X.env) (fun u s'=>∃ o H',Inv X pins σ H' s'/\IsPart u o/\Q o H') X.xe s
def dD:TO:=fun _ H Q=>Q none H
def rH (t:TE):TO:=fun σ H Q=>t σ H fun x H1=>∃ i,x=.int i/\Q (some i) H1
theorem Rt {ns:List Int}:∀ {us:List Value},A0 (ns.map V.int) us->IntsAre us ns:=by
 induction ns with
 | nil=>intro us r;rw [List.map_nil] at r;cases r;exact .nil
 | cons n ns ih =>
  intro us r
  rw [List.map_cons] at r
  cases r with
  | cons r1 r2 =>
   obtain ⟨t,e⟩:=r1
   subst e
   exact .cons n t (ih r2)
section
variable {X:Cx} {e:Expr} {te:TE} {lo hi:Option Expr} {tl th:TO} {pos p2:Pos}
theorem G0:PO X none dD:=by
 intro pins s σ H Q I h
 rw [evalPart_none]
 exact wpAny_pure ⟨none,H,I,.none,h⟩
theorem Bw (h:PE X e te):PO X (some e) (rH te):=by
 intro pins s σ H Q I hw
 rw [evalPart_some]
 refine thn (h pins s σ H _ I hw) fun u s1 ⟨x,H1,I1,r1,q1⟩=>?_
 obtain ⟨i,rfl,q⟩:=q1
 obtain ⟨t,rfl⟩:=r1
 exact ⟨some i,H1,I1,.int i t,q⟩
def SlR (X:Cx)(r:V->Option Int->Option Int->Hp->VK->Prop):Prop :=
 ∀ (pins:List (Addr×Obj)) (s:Shared) (σ:St) (H:Hp) (x:V) (v vl vu:Value) (lo hi:Option Int) (sl:Addr) (Q:VK),Inv X pins σ H s->Bc x v->s.heap.IsSliceOf sl vl vu .none->IsPart vl lo->IsPart vu hi->r x lo hi H Q ->
  ∃ T id,typeLookup (.type T) "__getitem__"=pure (some (.builtin id))/\s.TypeIs v T/\wpAny (model X.prog X.w) X.A (getItem v (.ref sl)) (EP X pins σ Q) X.xe s
def tSl (r:V->Option Int->Option Int->Hp->VK->Prop)(te:TE)(tl th:TO):TE:=fun σ H Q=>te σ H fun x H1=>tl σ H1 fun l H2=>th σ H2 fun u H3=>r x l u H3 Q
theorem Ce {r:V->Option Int->Option Int->Hp->VK->Prop}(hr:SlR X r)(he:PE X e te)(hl:PO X lo tl)(hu:PO X hi th):PE X (.Subscript e (.Slice lo hi none p2) pos) (tSl r te tl th):=by
 intro pins s σ H Q I h
 refine Subscript_ (thn (he pins s σ H _ I h) fun v s1 ⟨x,H1,I1,r1,q1⟩=>?_)
 refine wpAny_Slice (thn (hl pins s1 σ H1 _ I1 q1) fun vl s2 ⟨l,H2,I2,pl,q2⟩=>thn (hu pins s2 σ H2 _ I2 q2) fun vu s3 ⟨u,H3,I3,pu,q3⟩=>?_)
 rw [evalPart_none]
 refine wpAny_pure ?_
 have I4:Inv X pins σ H3 { s3 with heap:=s3.heap.push { cls:=.type "slice",data:=.fields #[vl,vu,.none] } }:=I3.kept (t':=s3.toks) fun b ob q=>Heap.get?_push_of_some _ q
 obtain ⟨T,id,hT,ht,hg⟩:=hr pins { s3 with heap:=s3.heap.push { cls:=.type "slice",data:=.fields #[vl,vu,.none] } } σ H3 x v vl vu l u s3.heap.objs.size Q I4 r1 (Heap.IsSliceOf.new ..) pl pu q3
 show wpAny (model X.prog X.w) X.A (subscriptTail e (.Slice lo hi none p2) v (.ref s3.heap.objs.size)) (EP X pins σ Q) X.xe { s3 with heap:=s3.heap.push { cls:=.type "slice",data:=.fields #[vl,vu,.none] } }
 exact tail_any (ops:=[.ref s3.heap.objs.size,v]) ht hT hg (by with_unfolding_all rfl)
def Lr (xs:List V)(lo hi:Option Int):List V:=(xs.drop (HT.sIx xs.length 0 lo)).take (HT.sIx xs.length xs.length hi-HT.sIx xs.length 0 lo)
theorem N6 (xs:List V)(lo hi:Option Int):(Lr xs lo hi).length<=xs.length:=by
 unfold Lr
 rw [List.length_take,List.length_drop]
 omega
def xZ (K:PySem.W.Frag):V->Option Int->Option Int->Hp->VK->Prop:=fun x lo hi H Q=>∃ a xs,x=.ref a/\SqT K H a xs /\
 ¬ (HT.sIx xs.length 0 lo=0/\HT.sIx xs.length xs.length hi=xs.length)/\∀ p,H p=none->Q (.ref p) (upd H p (.tup (Lr xs lo hi)))
theorem sY:SlR X (xZ X.K):=by
 intro pins s σ H x v vl vu lo hi sl Q I rx hs pl pu h
 obtain ⟨a,xs,rfl,hx,hw,q⟩:=h
 cases rx
 obtain ⟨its,r,ht,hz⟩:=I.tuple hx
 have hlen:its.toArray.size=xs.length:=by rw [List.size_toArray];exact r.length.symm
 refine ⟨"tuple",_,PyProof.Rows.slot_tuple_getitem.lookup,ht.typeIs,?_⟩
 refine HT.getItem_tuple_cut ht hs pl pu (by rw [hlen];exact hw) ?_ (by rw [hlen];exact hz)
 rw [hlen]
 refine ⟨.ref s.heap.objs.size,_,I.laid (t':=s.toks) (o:=.tup (Lr xs lo hi)) (fun b ob q=>Heap.get?_push_of_some _ q) (Nat.le_refl _) ?_,rfl,q _ (I.hok.fresh (Nat.le_refl _))⟩
 exact ⟨Nat.le_trans (N6 xs lo hi) hz,_,(r.drop (HT.sIx xs.length 0 lo)).take (HT.sIx xs.length xs.length hi-HT.sIx xs.length 0 lo),IsTup.new _ _⟩
end
def ixN (n:Nat)(i:Int):Option Nat:=if 0<=i then (if i<n then some i.toNat else none) else if -(n:Int)<=i then some (i+n).toNat else none
def atI {α:Type}(xs:List α)(i:Int):Option α:=(ixN xs.length i).bind fun j=>xs[j]?
theorem dC {n:Nat}{i:Int}{j:Nat}(h:ixN n i=some j):seqIndex? i n=some j/\j<n/\-(n:Int)<=i/\i<n:=by
 unfold ixN at h
 by_cases h0:0<=i
 ·rw [if_pos h0] at h
  by_cases h1:i<n
  ·rw [if_pos h1] at h
   have e:i.toNat=j:=Option.some.inj h
   exact ⟨by rw [seqIndex_of h0 h1,e],by omega,by omega,h1⟩
  ·rw [if_neg h1] at h;cases h
 ·rw [if_neg h0] at h
  by_cases h1:-(n:Int)<=i
  ·rw [if_pos h1] at h
   have e:(i+n).toNat=j:=Option.some.inj h
   exact ⟨by rw [seqIndex_neg (by omega) h1,e],by omega,h1,by omega⟩
  ·rw [if_neg h1] at h;cases h
theorem Uh {α:Type}{xs:List α}{i:Int}{v:α}(h:atI xs i=some v):∃ j,seqIndex? i xs.length=some j/\xs[j]?=some v/\j<xs.length/\-(xs.length:Int)<=i/\i<xs.length:=by
 unfold atI at h
 cases e:ixN xs.length i with
 | none=>rw [e] at h;cases h
 | some j =>
  rw [e] at h
  obtain ⟨h1,h2,h3,h4⟩:=dC e
  exact ⟨j,h1,h,h2,h3,h4⟩
theorem Bx {α:Type}{xs:List α}{j:Nat}{v:α}(h:xs[j]?=some v):atI xs (j:Int)=some v:=by
 have hj:j<xs.length:=(List.getElem?_eq_some_iff.mp h).1
 have e:ixN xs.length (j:Int)=some j:=by
  unfold ixN
  rw [if_pos (by omega),if_pos (by omega)];simp
 unfold atI;rw [e];exact h
theorem X5 {α:Type}(xs:List α)(v:α):atI (xs++[v]) (-1)=some v:=by
 have hl:(xs++[v]).length=xs.length+1:=by simp
 have e:ixN (xs++[v]).length (-1)=some xs.length:=by
  unfold ixN
  rw [hl,if_neg (by decide),if_pos (by omega)]
  congr 1
  omega
 unfold atI
 rw [e]
 show (xs++[v])[xs.length]?=some v
 simp
def dB (b:Expr):Prop:=∀ o i,subscripted b false o i=operate [o,i] (getItem o i)
def IxR (X:Cx)(r:R2):Prop :=
 ∀ (value slice:Expr) (pins:List (Addr×Obj)) (s:Shared) (σ:St) (H:Hp) (x y:V) (v u:Value) (Q:VK),Inv X pins σ H s->Bc x v->Bc y u->r x y H Q ->
  subscripted slice false v u=operate [v,u] (getItem v u)->wpAny (model X.prog X.w) X.A (subscriptTail value slice v u) (EP X pins σ Q) X.xe s
def MtR (X:Cx)(id:String)(r:V->List V->Hp->VK->Prop):Prop :=
 ∀ (pins:List (Addr×Obj)) (s:Shared) (σ:St) (H:Hp) (x:V) (xs:List V) (v:Value) (us:List Value) (Q:VK),Inv X pins σ H s->Bc x v->A0 xs us->r x xs H Q ->
  wpAny (model X.prog X.w) X.A (call (.builtin id) (v::us)) (EP X pins σ Q) X.xe s
section
variable {X:Cx} {a b:Expr} {ta tb:TE} {pos:Pos}
theorem C3 {r:R2}(hr:IxR X r)(ha:PE X a ta)(hb:PE X b tb)(hs:dB b):PE X (.Subscript a b pos) (tOp r ta tb):=by
 intro pins s σ H Q I h
 exact Subscript_ (tJ ha hb I h fun v u s2 x y H2 I2 rx ry q=>hr a b pins s2 σ H2 x y v u Q I2 rx ry q (hs _ _))
def nL (K:PySem.W.Frag):R2:=fun x y H Q=>∃ p xs i v,x=.ref p/\y=.int i/\SqL K H p xs/\atI xs i=some v/\Q v H
def sF (K:PySem.W.Frag):R2:=fun x y H Q=>∃ p xs i v,x=.ref p/\y=.int i/\SqT K H p xs/\atI xs i=some v/\Q v H
theorem Ci:IxR X (nL X.K):=by
 intro value slice pins s σ H x y v u Q I rx ry h hs
 obtain ⟨p,xs,i,z,rfl,rfl,hq,he,q⟩:=h
 cases rx
 obtain ⟨t,rfl⟩:=ry
 obtain ⟨its,r,pl,hz⟩:=I.list hq
 obtain ⟨j,h1,h2,h3,h4,h5⟩:=Uh he
 obtain ⟨w,ew,rw'⟩:=r.get h2
 have hl:=r.length
 have hn:=Id
 have fin:EP X pins σ Q w s:=⟨z,H,I,rw',q⟩
 by_cases h0:0<=i
 ·have hj:i.toNat=j:=by
   rw [seqIndex_of h0 h5] at h1
   exact Option.some.inj h1
  exact item_listR pl.isList h0 (by omega) (by rw [hj];simpa using ew) fin hs
 ·have hj:(i+(its.toArray.size:Int)).toNat=j:=by
   rw [seqIndex_neg (by omega) h4] at h1
   rw [List.size_toArray,<- hl]
   exact Option.some.inj h1
  exact subscriptTail_builtinR (x:=w) pl.isList.typeIs slot_list_getitem.lookup
   (wpAny_getItem_list_neg (Q:=fun r s'=>r=w/\EP X pins σ Q r s') pl.isList (by omega) (by rw [List.size_toArray]<;>omega) (by omega) (by rw [hj];simpa using ew) ⟨rfl,fin⟩) hs
theorem Ia:IxR X (sF X.K):=by
 intro value slice pins s σ H x y v u Q I rx ry h hs
 obtain ⟨p,xs,i,z,rfl,rfl,hq,he,q⟩:=h
 cases rx
 obtain ⟨t,rfl⟩:=ry
 obtain ⟨its,r,pl,hz⟩:=I.tuple hq
 obtain ⟨j,h1,h2,h3,h4,h5⟩:=Uh he
 obtain ⟨w,ew,rw'⟩:=r.get h2
 have hl:=r.length
 have hn:=Id
 have fin:EP X pins σ Q w s:=⟨z,H,I,rw',q⟩
 exact subscriptTail_builtinR (x:=w) pl.typeIs slot_tuple_getitem.lookup
  (getItem_tuple (j:=j) (Q:=fun r s'=>r=w/\EP X pins σ Q r s') pl (by omega) (by omega) (by rw [List.size_toArray,<- hl];exact h1) (by simpa using ew) ⟨rfl,fin⟩) hs
theorem Za (its:List Value)(n j:Nat)(u:Value):Obj.mapSeq (·.setIfInBounds j u) { cls:=.type "list",data:=.seq its.toArray n }={ cls:=.type "list",data:=.seq (its.set j u).toArray n }:=by
 simp [Obj.mapSeq]
theorem Inv.lst {pins:List (Addr×Obj)}{σ:St}{H:Hp}{s:Shared}{p:Addr}{xs:List V}(I:Inv X pins σ H s)(h:H p=some (.lst xs)) :
  ∃ (its:List Value) (n:Nat),A0 xs its/\s.heap.get? p=some { cls:=.type "list",data:=.seq its.toArray n }/\xs.length<=sizeLine:=by
 obtain ⟨z,its,n,r,e⟩:=I.hok p _ h
 exact ⟨its,n,r,e,z⟩
theorem Inv.lstUpd {pins:List (Addr×Obj)}{σ:St}{H:Hp}{s:Shared}{p:Addr}{xs ys:List V}{its its':List Value}{n n':Nat}{f:Obj->Obj}(I:Inv X pins σ H s)(h:H p=some (.lst xs))
  (ho:s.heap.get? p=some { cls:=.type "list",data:=.seq its.toArray n })(hf:f { cls:=.type "list",data:=.seq its.toArray n }={ cls:=.type "list",data:=.seq its'.toArray n' })(r:A0 ys its')(hz:ys.length<=sizeLine)(t:Nat) :
  Inv X pins σ (upd H p (.lst ys)) { s with heap:=s.heap.update p f,toks:=t }:=by
 have e:(s.heap.update p f).get? p=some { cls:=.type "list",data:=.seq its'.toArray n' }:=by
  rw [Heap.get?_update_self f ho (by rw [hf]<;>rfl),hf]
 refine I.write (x:=p) (e:=p) (by rw [h];trivial) (.inl rfl) (fun b u hb q=>(Heap.get?_update_other _ _ (Ne.symm hb)).trans q) ⟨_,e⟩ ?_
 exact ⟨hz,its',n',r,e⟩
def qW:V->V->V->Hp->(Hp->Prop)->Prop:=fun o i v H Q=>∃ p xs k j,o=.ref p/\i=.int k/\H p=some (.lst xs)/\ixN xs.length k=some j/\Q (upd H p (.lst (xs.set j v)))
theorem X2:vQ X qW:=by
 intro pins s σ H o i v ov iv u Q I ro ri rv h
 obtain ⟨p,xs,k,j,rfl,rfl,hp,hj,q⟩:=h
 cases ro
 obtain ⟨t,rfl⟩:=ri
 obtain ⟨its,n,r,ho,hz⟩:=I.lst hp
 obtain ⟨h1,h2,h3,h4⟩:=dC hj
 have hl:=r.length
 have hn:=Id
 have I':Inv X pins σ (upd H p (.lst (xs.set j v))) { s with heap:=s.heap.update p (Obj.mapSeq (·.setIfInBounds j u)) } :=
  I.lstUpd hp ho (Za its n j u) (r.set rv j) (by rw [List.length_set];exact hz) s.toks
 by_cases h0:0<=k
 ·have hk:k.toNat=j:=by
   rw [seqIndex_of h0 h4] at h1
   exact Option.some.inj h1
  exact PySem.W.ki_setAt ho h0 (by omega) (by rw [List.size_toArray,<- hl];exact h4) (by rw [hk];exact ⟨_,I',q⟩)
 ·have hk:(k+(its.toArray.size:Int)).toNat=j:=by
   rw [seqIndex_neg (by omega) h3] at h1
   rw [List.size_toArray,<- hl]
   exact Option.some.inj h1
  exact PySem.W.ki_setBack ho (by omega) (by rw [List.size_toArray,<- hl];exact h3) (by omega) (by rw [hk];exact ⟨_,I',q⟩)
theorem Vr (lo hi:Option Int)(n:Nat):(sliceBounds lo hi none n).1=((HT.sIx n 0 lo:Nat):Int)/\(sliceBounds lo hi none n).2.1=((HT.sIx n n hi:Nat):Int)/\(sliceBounds lo hi none n).2.2=1:=by
 refine ⟨?_,?_,rfl⟩
 ·cases lo with
  | none=>simp [sliceBounds,HT.sIx]
  | some i =>
   simp only [sliceBounds,HT.sIx,Option.getD_none,show (1:Int)>0 by decide,if_true]
   by_cases h:i<0
   ·simp only [h,if_true]<;>omega
   ·simp only [h,if_false]<;>omega
 ·cases hi with
  | none=>simp [sliceBounds,HT.sIx]
  | some i =>
   simp only [sliceBounds,HT.sIx,Option.getD_none,show (1:Int)>0 by decide,if_true]
   by_cases h:i<0
   ·simp only [h,if_true]<;>omega
   ·simp only [h,if_false]<;>omega
theorem S1 (its:List Value)(lo hi:Option Int):slicePick its.toArray lo hi none=((its.drop (HT.sIx its.length 0 lo)).take (HT.sIx its.length its.length hi-HT.sIx its.length 0 lo)).toArray:=by
 obtain ⟨h1,h2,h3⟩:=Vr lo hi its.toArray.size
 unfold slicePick
 rw [h1,h2,h3]
 simp only [sliceRange_one,pick_run,List.size_toArray]<;>rfl
def xS (K:PySem.W.Frag):V->Option Int->Option Int->Hp->VK->Prop:=fun x lo hi H Q=>∃ a xs,x=.ref a/\SqL K H a xs/\∀ p,H p=none->Q (.ref p) (upd H p (.lst (Lr xs lo hi)))
theorem Ii:SlR X (xS X.K):=by
 intro pins s σ H x v vl vu lo hi sl Q I rx hs pl pu h
 obtain ⟨a,xs,rfl,hx,q⟩:=h
 cases rx
 obtain ⟨its,r,ht,hz⟩:=I.list hx
 have hlen:=r.length
 refine ⟨"list",_,slot_list_getitem.lookup,ht.isList.typeIs,?_⟩
 refine wpAny_getItem_list_slice ht.isList hs pl pu .none (by simp) ?_ (by rw [List.size_toArray]<;>omega)
 rw [S1,<- hlen]
 refine ⟨.ref s.heap.objs.size,_,I.laid (t':=s.toks) (o:=.lst (Lr xs lo hi)) (fun b ob q=>Heap.get?_push_of_some _ q) (Nat.le_refl _) ?_,rfl,q _ (I.hok.fresh (Nat.le_refl _))⟩
 exact ⟨Nat.le_trans (N6 xs lo hi) hz,_,0,(r.drop (HT.sIx xs.length 0 lo)).take (HT.sIx xs.length xs.length hi-HT.sIx xs.length 0 lo),Heap.get?_push_size _ rfl⟩
def Db:V->Bool
 | .non=>true
 | .bl _=>true
 | .int _=>true
 | .str _=>true
 | _=>false
def eqV:V->V->Bool
 | .non,.non=>true
 | .bl a,.bl b=>a==b
 | .bl a,.int b=>(if a then 1 else 0)==b
 | .int a,.bl b=>a==(if b then 1 else 0)
 | .int a,.int b=>a==b
 | .str a,.str b=>a==b
 | _,_=>false
theorem Zf {A:Around}{s:Shared}{y x:V}{u v:Value}(ry:Bc y u)(rx:Bc x v)(fy:Db y=true)(fx:Db x=true):SeqAt.EqAt A s u v (eqV y x):=by
 cases y with
 | non =>
  cases ry
  cases x with
  | non=>cases rx;exact SeqAt.EqAt.same _
  | bl b=>cases rx;exact SeqAt.EqAt.none_bool b
  | int b=>obtain ⟨t,rfl⟩:=rx;exact SeqAt.EqAt.none_int b t
  | str b=>obtain ⟨t,rfl⟩:=rx;exact SeqAt.EqAt.none_str b t
  | _=>exact absurd (show false=true from fx) Bool.false_ne_true
 | bl a =>
  cases ry
  cases x with
  | non=>cases rx;exact SeqAt.EqAt.bool_none a
  | bl b=>cases rx;exact SeqAt.EqAt.bool_bool a b
  | int b=>obtain ⟨t,rfl⟩:=rx;exact SeqAt.EqAt.bool_int a b t
  | str b=>obtain ⟨t,rfl⟩:=rx;exact SeqAt.EqAt.bool_str a b t
  | _=>exact absurd (show false=true from fx) Bool.false_ne_true
 | int a =>
  obtain ⟨t',rfl⟩:=ry
  cases x with
  | non=>cases rx;exact SeqAt.EqAt.int_none a t'
  | bl b=>cases rx;exact SeqAt.EqAt.int_bool a t' b
  | int b=>obtain ⟨t,rfl⟩:=rx;exact SeqAt.EqAt.int_int a t' b t
  | str b=>obtain ⟨t,rfl⟩:=rx;exact SeqAt.EqAt.int_str a t' b t
  | _=>exact absurd (show false=true from fx) Bool.false_ne_true
 | str a =>
  obtain ⟨t',rfl⟩:=ry
  cases x with
  | non=>cases rx;exact SeqAt.EqAt.str_none a t'
  | bl b=>cases rx;exact SeqAt.EqAt.str_bool a t' b
  | int b=>obtain ⟨t,rfl⟩:=rx;exact SeqAt.EqAt.str_int a t' b t
  | str b=>obtain ⟨t,rfl⟩:=rx;exact SeqAt.EqAt.str_str a t' b t
  | _=>exact absurd (show false=true from fx) Bool.false_ne_true
 | _=>exact absurd (show false=true from fy) Bool.false_ne_true
def eqU (x:V)(u:Value):Bool:=match u with
 | .none=>eqV .non x
 | .bool b=>eqV (.bl b) x
 | .int i _=>eqV (.int i) x
 | .str z _=>eqV (.str z) x
 | _=>false
theorem R6 {x y:V}{u:Value}(r:Bc y u)(f:Db y=true):eqU x u=eqV y x:=by
 cases y with
 | non=>cases r;rfl
 | bl b=>cases r;rfl
 | int i=>obtain ⟨t,rfl⟩:=r;rfl
 | str z=>obtain ⟨t,rfl⟩:=r;rfl
 | _=>exact absurd (show false=true from f) Bool.false_ne_true
theorem U6 {x:V}:∀ {xs:List V} {us:List Value},A0 xs us->xs.all Db=true->us.any (eqU x)=xs.any fun y=>eqV y x
 | _,_,.nil,_=>rfl
 | y::xs,u::us,.cons r t,f=>by
  rw [List.all_cons,Bool.and_eq_true] at f
  rw [List.any_cons,List.any_cons,R6 r f.1,U6 t f.2]
theorem Hh {A:Around}{s:Shared}{x:V}{v:Value}(rx:Bc x v)(fx:Db x=true):∀ {xs:List V} {us:List Value},A0 xs us->xs.all Db=true->∀ u∈us,SeqAt.EqAt A s u v (eqU x u)
 | _,_,.nil,_=>fun u hu=>by cases hu
 | y::xs,u::us,.cons r t,f=>fun u' hu=>by
  rw [List.all_cons,Bool.and_eq_true] at f
  rcases List.mem_cons.mp hu with rfl | hu
  ·rw [R6 r f.1];exact Zf r rx f.1 fx
  ·exact Hh rx fx t f.2 u' hu
def inV (x:V)(xs:List V):Bool:=xs.any fun y=>eqV y x
def rIn (K:PySem.W.Frag)(neg:Bool):R2:=fun x y H Q=>∃ p xs,y=.ref p/\(SqL K H p xs\/SqT K H p xs)/\Db x=true/\xs.all Db=true/\Q (.bl (if neg then !inV x xs else inV x xs)) H
theorem Wj:OpR X (compareOp .NotIn) (rIn X.K true):=by
 intro pins s σ H x y v u Q I rx ry h
 obtain ⟨p,xs,rfl,hq,fx,fs,q⟩:=h
 cases ry
 rcases hq with hq | hq
 ·obtain ⟨its,r,pl,hz⟩:=I.list hq
  refine SeqAt.notIn_listAt (eqU x) pl.isList (fun w hw=>Hh rx fx r fs w (by simpa using hw)) ⟨.bl _,H,I,rfl,?_⟩
  rw [show its.toArray.any (eqU x)=its.any (eqU x) by simp,U6 r fs]
  exact q
 ·obtain ⟨its,r,pl,hz⟩:=I.tuple hq
  refine SeqAt.notIn_tupleAt (eqU x) pl (fun w hw=>Hh rx fx r fs w (by simpa using hw)) ⟨.bl _,H,I,rfl,?_⟩
  rw [show its.toArray.any (eqU x)=its.any (eqU x) by simp,U6 r fs]
  exact q
theorem Vl:OpR X (compareOp .NotIn) (fun x y H Q=>∃ i j,x=.str i/\y=.str j/\Q (.bl (!(!(Builtin.Str.occurrences j i 0 j.length 1).isEmpty))) H):=by
 intro pins s σ H x y v u Q I rx ry h
 obtain ⟨i,j,rfl,rfl,q⟩:=h
 obtain ⟨t,rfl⟩:=rx
 obtain ⟨t',rfl⟩:=ry
 exact notIn_str ⟨.bl _,H,I,rfl,q⟩
theorem Bk:Dj X (.builtin "len") (fun xs H Q=>∃ p ys,xs=[.ref p]/\(SqL X.K H p ys\/SqT X.K H p ys)/\Q (.int ys.length) H):=by
 intro pins s σ H xs us Q I r h
 obtain ⟨p,ys,rfl,hq,q⟩:=h
 obtain ⟨u,rfl,rx⟩:=Gg r
 cases rx
 have hn:=Id
 rcases hq with hq | hq
 ·obtain ⟨its,r',pl,hz⟩:=I.list hq
  have hlen:=r'.length
  exact Calls.call_len_list pl.isList (by simp only [List.size_toArray]<;>omega) ⟨.int ys.length,H,I.tok _,⟨s.toks+1,by rw [List.size_toArray,hlen]⟩,q⟩
 ·obtain ⟨its,r',pl,hz⟩:=I.tuple hq
  have hlen:=r'.length
  exact len_tuple pl (by simp only [List.size_toArray]<;>omega) ⟨.int ys.length,H,I.tok _,⟨s.toks+1,by rw [List.size_toArray,hlen]⟩,q⟩
theorem Cs:Dj X (.builtin "len") (fun xs H Q=>∃ z,xs=[.str z]/\z.length<=sizeLine/\Q (.int z.length) H):=by
 intro pins s σ H xs us Q I r h
 obtain ⟨z,rfl,hz,q⟩:=h
 obtain ⟨u,rfl,t,rfl⟩:=Gg r
 have hn:=Id
 exact len_str (by omega) ⟨.int z.length,H,I.tok _,⟨_,rfl⟩,q⟩
theorem Iw:Dj X (.type "list") (fun xs H Q=>∃ p ys,xs=[.ref p]/\(SqL X.K H p ys\/SqT X.K H p ys)/\∀ l,H l=none->Q (.ref l) (upd H l (.lst ys))):=by
 intro pins s σ H xs us Q I r h
 obtain ⟨p,ys,rfl,hq,q⟩:=h
 obtain ⟨u,rfl,rx⟩:=Gg r
 cases rx
 have fin:∀ (its:List Value),A0 ys its->ys.length<=sizeLine->∀ (h':Heap) (c':Nat),(∀ b o',s.heap.get? b=some o'->h'.get? b=some o') ->
   h'.get? s.heap.objs.size=some { cls:=.type "list",dict:=none,data:=.seq its.toArray c',slots:=#[] }->EP X pins σ Q (.ref s.heap.objs.size) { s with heap:=h' }:=fun its r' hz h' c' kp e =>
  ⟨.ref s.heap.objs.size,_,I.laid (t':=s.toks) kp (Nat.le_refl _) (show B3 X.prog X.w _ h' _ (.lst ys) from ⟨hz,its,c',r',e⟩),rfl,q _ (I.hok.fresh (Nat.le_refl _))⟩
 rcases hq with hq | hq
 ·obtain ⟨its,r',pl,hz⟩:=I.list hq
  have hlen:=r'.length
  obtain ⟨o,ho,hc,n,hd⟩:=pl.isList
  exact call_list_seq p (.inl rfl) ho hc hd (fun h' c' kp e=>fin its r' hz h' c' kp e) (by simp only [List.size_toArray]<;>omega)
 ·obtain ⟨its,r',pl,hz⟩:=I.tuple hq
  have hlen:=r'.length
  obtain ⟨o,ho,hc,n,hd⟩:=pl
  exact call_list_seq p (.inr rfl) ho hc hd (fun h' c' kp e=>fin its r' hz h' c' kp e) (by simp only [List.size_toArray]<;>omega)
theorem Fc:Dj X (.type "tuple") (fun xs H Q=>∃ p ys,xs=[.ref p]/\((SqL X.K H p ys/\∀ l,H l=none->Q (.ref l) (upd H l (.tup ys)))\/(SqT X.K H p ys/\Q (.ref p) H))):=by
 intro pins s σ H xs us Q I r h
 obtain ⟨p,ys,rfl,h⟩:=h
 obtain ⟨u,rfl,rx⟩:=Gg r
 cases rx
 rcases h with ⟨hq,q⟩ | ⟨hq,q⟩
 ·obtain ⟨its,r',pl,hz⟩:=I.list hq
  have hlen:=r'.length
  refine call_tuple_list pl.isList (fun h' kp=>?_) (by simp only [List.size_toArray]<;>omega)
  have I1:Inv X pins σ H { s with heap:=h' }:=I.kept (t':=s.toks) kp
  have I2:Inv X pins σ (upd H h'.objs.size (.tup ys)) { s with heap:=h'.push { cls:=.type "tuple",data:=.seq its.toArray } } :=
   I1.laid (t':=s.toks) (fun b o e=>Heap.get?_push_of_some _ e) (Nat.le_refl _) (show B3 X.prog X.w _ _ _ (.tup ys) from ⟨hz,its,r',IsTup.new _ _⟩)
  exact ⟨.ref h'.objs.size,_,I2,rfl,q _ (I1.hok.fresh (Nat.le_refl _))⟩
 ·obtain ⟨its,r',pl,hz⟩:=I.tuple hq
  exact call_tuple_same pl ⟨.ref p,H,I,rfl,q⟩
def tyV (K:PySem.W.Frag)(T:String)(x:V)(H:Hp):Prop:=match x with
 | .str _=>T="str"
 | .int _=>T="int"
 | .ref p=>(T="list"/\∃ xs,SqL K H p xs)\/(T="tuple"/\∃ o,K.lookup p=some o/\o.cls=.type "tuple"/\o.dict=none) \/
   (T="dict"/\((∃ kvs,H p=some (.dK kvs))\/∃ kvs,H p=some (.dT kvs)))\/(T="set"/\∃ S n,H p=some (.set S n))
 | _=>False
theorem kN {pins:List (Addr×Obj)}{σ:St}{H:Hp}{s:Shared}{T:String}{x:V}{v:Value}(I:Inv X pins σ H s)(r:Bc x v)(ty:tyV X.K T x H) :
  s.TypeIs v T/\∀ a,v=.ref a->∃ ob,s.heap.get? a=some ob/\ob.dict=none:=by
 cases x with
 | str z =>
  obtain ⟨t,rfl⟩:=r
  cases (show T="str" from ty)
  exact ⟨typeIs_str s z t,fun _ e=>nomatch e⟩
 | int i =>
  obtain ⟨t,rfl⟩:=r
  cases (show T="int" from ty)
  exact ⟨typeIs_int s i t,fun _ e=>nomatch e⟩
 | ref p =>
  cases r
  rcases ty with ⟨rfl,xs,hq⟩ | ⟨rfl,o,hk,hc,hd⟩ | ⟨rfl,hk⟩ | ⟨rfl,S,n,hk⟩
  ·obtain ⟨its,_,pl,_⟩:=I.list hq
   refine ⟨pl.isList.typeIs,fun a e=>?_⟩
   cases e
   obtain ⟨o,n,e,c,hd,_⟩:=pl
   exact ⟨o,e,hd⟩
  ·refine ⟨⟨o,I.kIn p o hk,hc⟩,fun a e=>?_⟩
   cases e
   exact ⟨o,I.kIn _ o hk,hd⟩
  ·have z:∃ o,s.heap.get? p=some o/\o.ExactDict:=by
    rcases hk with ⟨kvs,hk⟩ | ⟨kvs,hk⟩
    ·obtain ⟨_,_,_,_,o,_,_,e,ex,_⟩:=I.hok p _ hk
     exact ⟨o,e,ex⟩
    ·obtain ⟨_,_,_,_,o,_,_,e,ex,_⟩:=I.hok p _ hk
     exact ⟨o,e,ex⟩
   obtain ⟨o,e,ex⟩:=z
   refine ⟨⟨o,e,ex.1⟩,fun a e2=>?_⟩
   cases e2
   exact ⟨o,e,ex.2.1⟩
  ·obtain ⟨o,_,_,_,e,ex,_⟩:=I.hok p _ hk
   refine ⟨⟨o,e,ex.1⟩,fun a e2=>?_⟩
   cases e2
   exact ⟨o,e,ex.2.1⟩
 | _=>exact False.elim ty
def vH (K:PySem.W.Frag)(T:String)(r:V->List V->Hp->VK->Prop)(to:TE):TE:=fun σ H Q=>to σ H fun x H1=>tyV K T x H1/\r x [] H1 Q
def tBM (K:PySem.W.Frag)(T:String)(r:V->List V->Hp->VK->Prop)(to:TE)(t:TA):TE:=fun σ H Q=>to σ H fun x H1=>tyV K T x H1/\t σ H1 fun xs H2=>r x xs H2 Q
variable {o e:Expr} {es:List Expr} {to:TE} {t:TA} {name:Str} {apos cpos:Pos} {T id:String} {r:V->List V->Hp->VK->Prop}
theorem lW (pa:PlainAttrs T)(slot:Slot T name id)(hty:typeOf (.builtin id)=pure (.type "method_descriptor"))(hm:MtR X id r)(ho:PE X o to)
  (hbase:attributeBase o name X.env (eval o X.env)=eval o X.env:=by rfl)(hline:(apos.endLine==cpos.line)=true:=by rfl):PE X (.Call (.Attribute o name apos) [] [] cpos) (vH X.K T r to):=by
 intro pins s σ H Q I h
 refine wpAny_Call_method0_late hbase hline (thn (ho pins s σ H _ I h) fun v s1 ⟨x,H1,I1,r1,ty,q1⟩=>?_)
 obtain ⟨h1,h2⟩:=kN I1 r1 ty
 exact ⟨T,id,pa,slot,hty,h1,h2,Calls.callWith_builtin rfl (PySem.evalArgs_none (hm pins s1 σ H1 x [] v [] Q I1 r1 .nil q1))⟩
theorem Ey (pa:PlainAttrs T)(slot:Slot T name id)(hty:typeOf (.builtin id)=pure (.type "method_descriptor"))(hm:MtR X id r)(ho:PE X o to)(ha:PA X (e::es) t)
  (hbase:attributeBase o name X.env (eval o X.env)=eval o X.env:=by rfl)
  (hfew:((backTo cpos (starEach (e::es) X.env)).all (fun x=>!x.1)&&(backToKw cpos (keywordEach [] X.env)).all (fun x=>x.1.isSome)
   && decide ((e::es).length+([]:List Keyword).length+(if ([]:List Keyword).isEmpty then 0 else 1)<30))=true:=by rfl)
  (hline:(apos.endLine==cpos.line)=true:=by rfl)(hs:starEach (e::es) X.env=(false,eval e X.env)::starEach es X.env:=by rfl)(hplain:(backTo cpos (starEach es X.env)).any (·.1)=false:=by rfl) :
  PE X (.Call (.Attribute o name apos) (e::es) [] cpos) (tBM X.K T r to t):=by
 intro pins s σ H Q I h
 refine wpAny_Call_method_late hbase hfew hline rfl (thn (ho pins s σ H _ I h) fun v s1 ⟨x,H1,I1,r1,ty,q1⟩=>?_)
 obtain ⟨h1,h2⟩:=kN I1 r1 ty
 refine ⟨T,id,pa,slot,hty,h1,h2,?_⟩
 have hA:=ha cpos pins s1 σ H1 _ I1 q1
 rw [hs] at hA ⊢
 refine Calls.callWith_builtin (by show (false||(backTo cpos (starEach es X.env)).any (·.1))=false;rw [hplain]<;>rfl) (Calls.evalArgs_plain ?_)
 exact thn hA fun us s2 ⟨vs,H2,I2,r2,q2⟩=>hm pins s2 σ H2 x vs v us Q I2 r1 r2 q2
/- xs.append(e),list.index on a module's tuple .. are MtR facts of 06m -/
end
def MtM (X:Cx)(id:String)(r:V->List V->Hp->VK->Prop):Prop :=
 ∀ (pins:List (Addr×Obj)) (s:Shared) (σ:St) (H:Hp) (x:V) (xs:List V) (v:Value) (us:List Value) (Q:VK),Inv X pins σ H s->Bc x v->A0 xs us->r x xs H Q ->
  wpAny (model X.prog X.w) X.A (call (.builtin id) (v::us)) (EP X pins σ Q) X.xe s
theorem A0.one:∀ {x:V} {us:List Value},A0 [x] us->∃ u,us=[u]/\Bc x u
 | _,_,.cons r .nil=>⟨_,rfl,r⟩
theorem A0.zero:∀ {us:List Value},A0 [] us->us=[]
 | _,.nil=>rfl
theorem A0.dropLast {xs:List V}{us:List Value}(h:A0 xs us):A0 xs.dropLast us.dropLast:=by
 induction h with
 | nil=>exact .nil
 | cons r t ih =>
  cases t with
  | nil=>exact .nil
  | cons q t'=>exact .cons r ih
theorem A0.rep {xs:List V}{us:List Value}(h:A0 xs us):∀ k:Nat,A0 (List.replicate k xs).flatten (List.replicate k us).flatten
 | 0=>.nil
 | k+1=>by
  rw [List.replicate_succ,List.replicate_succ,List.flatten_cons,List.flatten_cons]
  exact A0.append h (A0.rep h k)
theorem cT {α:Type}(l:List α):l.eraseIdx (l.length-1)=l.dropLast:=by
 induction l with
 | nil=>rfl
 | cons a r ih =>
  cases r with
  | nil=>rfl
  | cons b r =>
   have e:(a::b::r).length-1=((b::r).length-1)+1:=by
    have h1:(a::b::r).length=r.length+2:=rfl
    have h2:(b::r).length=r.length+1:=rfl
    omega
   rw [e,List.eraseIdx_cons_succ,ih]
   all_goals rfl
theorem S8 (its:List Value):∀ (k:Nat) (acc:List Value),
  List.foldl (fun x1 x2=>x1++x2) acc.toArray (List.replicate k its.toArray)=(acc++(List.replicate k its).flatten).toArray
 | 0,acc=>by simp
 | k+1,acc=>by
  have e:acc.toArray++its.toArray=(acc++its).toArray:=by simp
  have e2:(acc++its)++(List.replicate k its).flatten=acc++(List.replicate (k+1) its).flatten:=by
   rw [List.replicate_succ,List.flatten_cons,List.append_assoc]
  rw [<- e2,<- S8 its k (acc++its),<- e,List.replicate_succ,List.foldl_cons]
section
variable {X:Cx} {pins:List (Addr×Obj)} {σ:St} {H:Hp} {s:Shared} {l b:Addr} {xs ys zs:List V}
theorem Inv.lset {its its':List Value}{n:Nat}{f:Array Value->Array Value}{t':Nat}(I:Inv X pins σ H s)(hH:H l=some (.lst xs))
  (e:s.heap.get? l=some { cls:=.type "list",data:=.seq its.toArray n })(hf:f its.toArray=its'.toArray)(hv:A0 ys its')(hz:ys.length<=sizeLine) :
  Inv X pins σ (upd H l (.lst ys)) { s with heap:=s.heap.update l (Obj.mapSeq f),toks:=t' }:=by
 have q:=PySem.IsL.update e f
 rw [hf] at q
 refine I.write (x:=l) (e:=l) (by rw [hH];exact trivial) (.inl rfl) (fun b' u hb hu=>(Heap.get?_update_other s.heap (Obj.mapSeq f) (Ne.symm hb)).trans hu) ⟨_,q⟩ ?_
 exact ⟨hz,its',_,hv,q⟩
theorem Inv.lnew {its:List Value}{t':Nat}(I:Inv X pins σ H s)(hv:A0 ys its)(hz:ys.length<=sizeLine) :
  Inv X pins σ (upd H s.heap.objs.size (.lst ys)) { s with heap:=s.heap.push { cls:=.type "list",data:=.seq its.toArray },toks:=t' } :=
 I.laid (fun _ _ q=>Heap.get?_push_of_some _ q) (Nat.le_refl _) ⟨hz,its,0,hv,Heap.get?_push_size _ rfl⟩
theorem Inv.fresh (I:Inv X pins σ H s):H s.heap.objs.size=none:=I.hok.fresh (Nat.le_refl _)
theorem Inv.lstM (I:Inv X pins σ H s)(hH:H l=some (.lst xs)):xs.length<=sizeLine/\∃ (its:List Value) (n:Nat),A0 xs its/\xs.length=its.length/\s.heap.get? l=some { cls:=.type "list",data:=.seq its.toArray n }:=by
 obtain ⟨z,its,n,r,e⟩:=I.hok l _ hH
 exact ⟨z,its,n,r,r.length,e⟩
theorem Xr {n:Nat}(h:n<=sizeLine):Builtin.List.listTooLong n=false:=by
 unfold Builtin.List.listTooLong
 exact decide_eq_false (by omega)
end
section
variable {X:Cx}
def dF:V->List V->Hp->VK->Prop:=fun x vs H Q=>∃ l xs y,x=.ref l/\vs=[y]/\H l=some (.lst xs)/\xs.length<sizeLine/\Q .non (upd H l (.lst (xs++[y])))
theorem De:MtM X "list.append" dF:=by
 intro pins s σ H x vs v us Q I rx rv h
 obtain ⟨l,xs,y,rfl,rfl,hH,hz,q⟩:=h
 cases rx
 obtain ⟨u,rfl,ru⟩:=rv.one
 obtain ⟨z,its,n,r,hl,e⟩:=I.lstM hH
 refine call_meets F.slot_list_append ⟨_,e,rfl⟩ F.entry_list_append (F.args_list_append_2 _ _) (PySem.list_append l its.toArray n u (by rw [List.size_toArray];omega)) ⟨e,?_⟩
 refine ⟨.non,_,I.lset (its':=its++[u]) hH e (by simp) (r.append (.cons ru .nil)) ?_,rfl,q⟩
 rw [List.length_append,List.length_singleton]
 omega
def pG:V->List V->Hp->VK->Prop:=fun x vs H Q=>∃ l b xs zs,x=.ref l/\vs=[.ref b]/\H l=some (.lst xs)/\H b=some (.lst zs)/\xs.length+zs.length<=sizeLine/\Q .non (upd H l (.lst (xs++zs)))
theorem gA:MtM X "list.extend" pG:=by
 intro pins s σ H x vs v us Q I rx rv h
 obtain ⟨l,b,xs,zs,rfl,rfl,hH,hB,hz,q⟩:=h
 cases rx
 obtain ⟨u,rfl,ru⟩:=rv.one
 cases ru
 obtain ⟨z,its,n,r,hl,e⟩:=I.lstM hH
 obtain ⟨z2,its2,n2,r2,hl2,e2⟩:=I.lstM hB
 have hsz:its.toArray.size+its2.toArray.size<=sizeLine:=by rw [List.size_toArray,List.size_toArray];omega
 have hlong:¬ (!its.toArray.isEmpty&&Builtin.List.listTooLong (its.toArray.size+its2.toArray.size))=true:=by
  rw [Xr hsz,Bool.and_false]
  exact Bool.false_ne_true
 refine call_meets F.slot_list_extend ⟨_,e,rfl⟩ F.entry_list_extend (F.args_list_extend_2 _ _)
  (AutoSeq1.list_extend_list_list_0 l its.toArray n b its2.toArray n2 hlong (by rw [List.size_toArray];omega) (by omega)) ⟨e,e2,?_⟩
 refine ⟨.non,_,I.lset (its':=its++its2) hH e (by simp) (r.append r2) ?_,rfl,q⟩
 rw [List.length_append]
 omega
def yA:V->List V->Hp->VK->Prop:=fun x vs H Q=>∃ l xs y,x=.ref l/\vs=[]/\H l=some (.lst xs)/\xs[xs.length-1]?=some y/\Q y (upd H l (.lst xs.dropLast))
theorem lQ:MtM X "list.pop" yA:=by
 intro pins s σ H x vs v us Q I rx rv h
 obtain ⟨l,xs,y,rfl,rfl,hH,hy,q⟩:=h
 cases rx
 have hus:=rv.zero
 subst hus
 obtain ⟨z,its,n,r,hl,e⟩:=I.lstM hH
 obtain ⟨u,hu,ru⟩:=r.get hy
 have hy':its.toArray[its.toArray.size-1]?=some u:=by
  show its.toArray[its.length-1]?=some u
  rw [<- Array.getElem?_toList,<- hl]
  exact hu
 refine call_meets F.slot_list_pop ⟨_,e,rfl⟩ F.entry_list_pop (F.args_list_pop_1 _) (MeetsSeq.list_pop_last l its.toArray n u hy' (by rw [List.size_toArray];omega)) ⟨e,?_⟩
 refine ⟨y,_,I.lset (its':=its.dropLast) hH e ?_ r.dropLast ?_,ru,q⟩
 ·show its.toArray.eraseIdxIfInBounds (its.toArray.size-1)=its.dropLast.toArray
  rw [List.size_toArray,List.eraseIdxIfInBounds_toArray,cT]
 ·rw [List.length_dropLast]
  omega
def xX:R2:=fun x y H Q=>∃ l b xs zs,x=.ref l/\y=.ref b/\H l=some (.lst xs)/\H b=some (.lst zs)/\xs.length+zs.length<=sizeLine/\∀ p,H p=none->Q (.ref p) (upd H p (.lst (xs++zs)))
theorem Fp:OpR X (binaryOp .Add) xX:=by
 intro pins s σ H x y v u Q I rx ry h
 obtain ⟨l,b,xs,zs,rfl,rfl,hH,hB,hz,q⟩:=h
 cases rx
 cases ry
 obtain ⟨z,its,n,r,hl,e⟩:=I.lstM hH
 obtain ⟨z2,its2,n2,r2,hl2,e2⟩:=I.lstM hB
 refine PySem.P.add_list e e2 ?_ (by rw [List.size_toArray,List.size_toArray];omega)
 have ea:its.toArray++its2.toArray=(its++its2).toArray:=by simp
 rw [ea]
 exact ⟨.ref _,_,I.lnew (t':=s.toks) (r.append r2) (by rw [List.length_append];omega),rfl,q _ I.fresh⟩
def yG:R2:=fun x y H Q=>∃ l k xs,x=.ref l/\y=.int k/\H l=some (.lst xs)/\-(2 ^ 63)<=k/\k<2 ^ 63/\xs.length*k.toNat<=sizeLine /\
 ∀ p,H p=none->Q (.ref p) (upd H p (.lst (List.replicate k.toNat xs).flatten))
theorem dM {α:Type}(xs:List α)(k:Nat):(List.replicate k xs).flatten.length=k*xs.length:=by
 induction k with
 | zero=>simp
 | succ k ih=>rw [List.replicate_succ,List.flatten_cons,List.length_append,ih,Nat.succ_mul,Nat.add_comm]
theorem Pm:OpR X (binaryOp .Mult) yG:=by
 intro pins s σ H x y v u Q I rx ry h
 obtain ⟨l,k,xs,rfl,rfl,hH,h1,h2,hz,q⟩:=h
 cases rx
 obtain ⟨t,rfl⟩:=ry
 obtain ⟨z,its,n,r,hl,e⟩:=I.lstM hH
 have hlen:its.toArray.size*k.toNat<=sizeLine:=by rw [List.size_toArray,<- hl];exact hz
 have hcap:¬ its.toArray.size*k.toNat>(2 ^ 63-1)/8:=by
  have:(sizeLine:Nat)<=(2 ^ 63-1)/8:=by decide
  omega
 have hfit:¬ (!Builtin.List.listFitsIndex k)=true:=by
  rw [fitsIndex_both h1 h2]
  exact Bool.false_ne_true
 have hlong:¬ Builtin.List.listTooLong (its.toArray.size*k.toNat)=true:=by
  rw [Xr hlen]
  exact Bool.false_ne_true
 have hnew:List.foldl (fun x1 x2=>x1++x2) #[] (List.replicate (if its.toArray.isEmpty=true then 0 else k.toNat) its.toArray)=(List.replicate k.toNat its).flatten.toArray:=by
  have f0:∀ m:Nat,List.foldl (fun x1 x2=>x1++x2) #[] (List.replicate m its.toArray)=(List.replicate m its).flatten.toArray:=fun m=>by
   have:=S8 its m []
   rw [List.nil_append] at this
   exact this
  rw [f0]
  cases its with
  | nil=>simp
  | cons a r'=>rw [if_neg (by simp)]
 refine wpAny_binaryOp_repeat_ref (T:="list") (U:="int") (by decide) ⟨_,e,rfl⟩ (fun s'=>typeIs_int s' k t) noFill_list_mul F.fills_int_mul F.slot_int_rmul repeat_list F.slot_int_index.lookup
  (call_meets F.slot_int_rmul (typeIs_int s k t) F.entry_int_rmul (F.args_int_rmul_2 _ _) (int___rmul___int_list k t l its.toArray n)
   ⟨e,rfl,⟨_,e,rfl⟩,call_meets F.slot_list_mul ⟨_,e,rfl⟩ F.entry_list_mul (F.args_list_mul_2 _ _) (AutoListH.list___mul___list_int_3 l its.toArray n k t hfit hcap hlong) ⟨e,?_⟩⟩)
 rw [hnew]
 exact ⟨.ref _,_,I.lnew (t':=s.toks) (r.rep k.toNat) (by rw [dM,Nat.mul_comm];exact hz),rfl,q _ I.fresh⟩
end
end L2
namespace Att
open PySem PySem.W PySem.Calls PyProof.Rows
theorem Oz {P:Params}{h:Heap}:∀ (ns:List Int) (vs:List Value),WellAll P h vs (ns.map WData.int)->IntsAre vs ns:=by
 intro ns
 induction ns with
 | nil =>
  intro vs w
  rw [List.map_nil] at w
  cases w
  exact .nil
 | cons n ns ih =>
  intro vs w
  rw [List.map_cons] at w
  cases w with
  | cons a b =>
   cases a
   exact .cons _ _ (ih _ b)
theorem gM {l : OpenLaw}{n : Nat}(hn : l.most = some n){P : Params}{h : Heap}{args : List WData}{vals : List Value}
    (hpre : l.row.toRowW.claim.pre args = true)(hwl : WellAll P h vals args) :
    ∃ a vs ns, vals = [Value.ref a]/\args = [WData.list (ns.map WData.int)]/\h.get? a = some { cls := .type "list", data := .seq vs.toArray }/\IntsAre vs ns/\ns.length <= n := by
  have hsh : WShape.hasAll [] args [.list .int] = true := (pre_splitW hpre).1
  have hc : l.pre.holds [] { args := args } = true := (pre_splitW hpre).2
  obtain ⟨d, r, rfl, h1, h2⟩ := hasAllW_cons hsh
  obtain rfl := hasAllW_nil h2
  obtain ⟨xs, rfl, h3⟩ := hasW_list h1
  obtain ⟨ns, rfl⟩ := items_int h3
  have hlen : ns.length <= n := by
    unfold OpenLaw.pre at hc
    have h4 : (WTm.not (.lt (.lit (.int (n : Int))) (.len (.arg 0)))).holds [] { args := [.list (ns.map .int)] } = true := by
      have h4 := (holds_andW hc).1
      rw [hn] at h4
      exact h4
    have h5 := condW_of h4 (w_not (w_lt w_lit (w_len_list (w_arg rfl))))
    rw [List.length_map] at h5
    refine Nat.le_of_not_lt fun q => ?_
    have q' : (n : Int) < ((ns.length : Nat) : Int) := by omega
    first
      | (rw [decide_eq_true q'] at h5; exact absurd h5 (by decide))
      | (simp at h5; omega)
  cases hwl with
  | cons w1 w2 =>
    cases w2
    cases w1 with
    | list ho hall => exact ⟨_, _, ns, rfl, rfl, ho, Oz ns _ hall, hlen⟩
theorem fS (l:OpenLaw)(args:List WData):l.row.toRowW.claim.post args (.bool true) args=true :=
 postW_of (r:=l.row.toRowW) (X:=(true==true))
  (show WShape.has [] (.bool true) .bool=true by first | rfl | decide | simp [WShape.has,WShape.arms,WShape.armsAll])
  (show (WTm.eq .res (.lit (.bool true))).value [] { args:=args,res:=some (.bool true),after:=args }=some (.bool (true==true)) from w_eq_bool (w_res rfl) w_lit) rfl
theorem attach_call {l:OpenLaw}{n:Nat}{q:Program}{loose:List Str}{XP:(Str->Option Value)->Heap->Prop}{YP:World->Heap->Prop}{d:DefRec}
  (hn:l.most=some n)(hdf:d.params.defaults=[])
  (call:∀ (w:World) (s₀ s₁:Shared) (mg mb:Str->Option Value) (fa:Addr) (o:Obj) (pm cd doc:Value) (a:Addr) (vs:List Value) (ns:List Int),
   Ground q loose [] XP w s₀ mg mb s₁.heap->YP w s₁.heap ->
   s₁.heap.get? fa=some o->o.data=.func (docDef d.name d.params d.body d.scope pm cd doc)->s₁.heap.CodeRec cd d.name->mg d.name=some (.ref fa) ->
   s₁.heap.get? a=some { cls:=.type "list",data:=.seq vs.toArray }->IntsAre vs ns->ns.length<=n->s₁.gens=#[] ->
   codeAny (model l.prog w) callerA (.call (.ref fa) ⟨[.ref a],[]⟩) (fun r s'=>r=.ok (.ret (.bool true))/\OldK s₁.heap s'.heap/\s'.os=s₁.os/\AllBare s'.gens) s₁) :
  WalkO q loose XP YP l.row.toRowW d [] (fun f vs=>PySem.call f vs):=by
 intro w s₀ s₁ mg mb G Y fa o pm cd doc dV kV ho hd hcd hD hmg hg args vals as hpre hlay hrd hwl hlo
 obtain rfl:dV=.none:=Dflts.none hD hdf
 obtain rfl:kV=.none:=Dflts.noKw hD
 obtain ⟨a,vs,ns,rfl,rfl,hobj,hints,hlen⟩:=gM hn hpre hwl
 refine enter_call (codeAny_mono (call w s₀ s₁ mg mb fa o pm cd doc a vs ns G Y ho (fd_plain hd) hcd hmg hobj hints hlen hg) fun r s' hq=>?_)
 obtain ⟨rfl,h2,h3,h4⟩:=hq
 exact ⟨.inl ⟨.bool true,.bool true,[],rfl,fun _=>rfl,.bool true,fS l _,fun _=>⟨List.Pairwise.nil,fun _ hm=>(nomatch hm)⟩⟩,h2,h3,h4⟩
section
variable {prog:Program} {w:World} {A:Around} {E:Value->Shared->Prop} {s:Shared} {K:Frag}
end
end Att
namespace L2
open PySem PySem.Spec PyProof.Rows
theorem To:∀ {vs:List Value} {ns:List Int},IntsAre vs ns->A0 (ns.map V.int) vs
 | _,_,.nil=>.nil
 | _,_,.cons n t h=>.cons ⟨t,rfl⟩ (To h)
def Ay (s:Stmt)(j:Nat):Stmt:=match s with
 | .ClassDef _ _ _ body _ _ _ _ _ _ _=>body.getD j (.Pass ⟨0,0,0,0⟩)
 | _=>.Pass ⟨0,0,0,0⟩
def Cw (s:Stmt):Arguments:=match s with
 | .FunctionDef _ a _ _ _ _ _ _ _ _=>a
 | _=>{ posonlyargs:=[],args:=[],vararg:=none,kwonlyargs:=[],kw_defaults:=[],kwarg:=none,defaults:=[] }
def B5 (s:Stmt):List Stmt:=match s with
 | .FunctionDef _ _ b _ _ _ _ _ _ _=>b
 | _=>[]
def Ae (s:Stmt):Scope:=match s with
 | .FunctionDef _ _ _ _ _ _ sc _ _ _=>sc
 | _=>{ kind:=.function,names:=[],isGenerator:=false,isCoroutine:=false }
abbrev CX0:CXT:=fun _ _ _ _ _ _=>False
abbrev E0:XK:=fun _ _ _=>False
theorem Xn {X:Cx}:Fo CX0 X E0:=fun _ _ _ _ _ _ _ h=>h.elim
structure Fun (K:PySem.W.Frag) (x qual:Str) (st:Stmt) (f:Addr) (fd:FuncData):Prop where
 ex:∃ (oc:Value) (od:Option Addr) (kV doc pm:Value) (an:Option Addr) (cdv ct:Value) (osl:Array (Option Value)),
  fd=PySem.W.fnOf x qual (Cw st) (B5 st) (Ae st) .none kV doc pm an cdv ct/\K.lookup f=some ⟨oc,od,.func fd,osl⟩/\PySem.W.codeIn K cdv qual=true
 kp:PySem.W.keepIn K (.ref f)=true
section
variable {P:Program} {w:World} {K:PySem.W.Frag} {mg:Str->Option Value} {base:Heap}
theorem Fun.ok {x qual:Str}{st:Stmt}{f:Addr}{fd:FuncData}{N ps:List Str}{k:Nat}{sp:Sp}(F:Fun K x qual st f fd)(S:Ai N ps (Ae st))(len:∀ vs H Q E,sp vs H Q E->vs.length=ps.length)
  (hbody:∀ (cdv:Value) (A:Around) (outer:List Env) (s:Shared) (H:Hp) (vs:List V) (Q:VK) (E:XK),B2 k (A.deeper (envOfC qual (Ae st) s.heap.objs.size f cdv))->sp vs H Q E ->
   ∃ t,PSs (Bu CX0 P w K mg base N qual (Ae st) f cdv A outer s H E).nox (B5 st) t/\t { nx:=fun _ H'=>Q .non H',rt:=Q } (Hn N vs) H):Ax P w K mg base CX0 (k+1) f fd ps sp:=by
 obtain ⟨oc,od,kV,doc,pm,an,cdv,ct,osl,rfl,lk,hcd⟩:=F.ex
 refine iT lk hcd S len fun A outer s H vs Q E hr hsp=>?_
 obtain ⟨t,h,q⟩:=hbody cdv A outer s H vs Q E hr hsp
 exact ⟨t,h.nox,q⟩
theorem Fun.binds {x qual:Str}{st:Stmt}{f:Addr}{fd:FuncData}{ps:List Str}(F:Fun K x qual st f fd)
  (h:∀ (kV doc pm:Value) (an:Option Addr) (cdv ct:Value) (us:List Value),us.length=ps.length->bindArgs (PySem.W.fnOf x qual (Cw st) (B5 st) (Ae st) .none kV doc pm an cdv ct) ⟨us,[]⟩=pure (ps.zip us)):Dk K fd ps []:=by
 obtain ⟨oc,od,kV,doc,pm,an,cdv,ct,osl,rfl,lk,hcd⟩:=F.ex
 exact .all (h kV doc pm an cdv ct)
theorem Vc {x qual:Str}{st:Stmt}{f:Addr}{oc:Value}{od an:Option Addr}{osl:Array (Option Value)}{kV doc pm cdv ct:Value}(l:K.lookup f=some ⟨oc,od,.func (PySem.W.fnOf x qual (Cw st) (B5 st) (Ae st) .none kV doc pm an cdv ct),osl⟩)
  (c:PySem.W.codeIn K cdv qual=true)(k:PySem.W.keepIn K (.ref f)=true):Fun K x qual st f (PySem.W.fnOf x qual (Cw st) (B5 st) (Ae st) .none kV doc pm an cdv ct):=⟨⟨oc,od,kV,doc,pm,an,cdv,ct,osl,rfl,l,c⟩,k⟩
end
theorem Df {n:Nat}(h:n<=1000):n<sizeLine:=Nat.lt_of_le_of_lt h (by decide)
section
variable {X:Cx}
theorem pv (i:Nat){x:Str}{pos:Pos}(hN:X.N[i]?=some x:=by rfl)(hv:Vis X.env.scope x:=by first | exact Or.inl rfl | exact Or.inr (Or.inl rfl) | exact Or.inr (Or.inr rfl))(hd:(x==("__debug__":Str))=false:=by decide)
  (hcd:(x==("__classdict__":Str))=false:=by decide):PE X (.Name x pos) (pY i):=lB hN hv hd hcd
end
theorem xN {A B:Prop}(h:B):if false=true then A else B:=by
 rw [if_neg Bool.false_ne_true]
 exact h
theorem xW {A B:Prop}(h:A):if true=true then A else B:=by
 rw [if_pos rfl]
 exact h
def Ak (H H':Hp):Prop:=∀ b o,H b=some o->H' b=some o
theorem Ak.refl (H:Hp):Ak H H:=fun _ _ h=>h
theorem Ak.trans {H H1 H2:Hp}(a:Ak H H1)(b:Ak H1 H2):Ak H H2:=fun c o h=>b c o (a c o h)
theorem Ak.free {H H':Hp}(e:Ak H H'){l:Addr}(h:H' l=Option.none):H l=Option.none:=by
 cases q:H l with
 | none=>rfl
 | some o =>
  rw [e l o q] at h
  cases h
theorem Ak.seq {K:PySem.W.Frag}{H H':Hp}{a:Addr}{xs:List V}(e:Ak H H')(h:SqL K H a xs):SqL K H' a xs:=by
 rcases h with (h | ⟨o,h⟩) | h
 ·exact .inl (.inl (e _ _ h))
 ·exact .inl (.inr ⟨o,e _ _ h⟩)
 ·exact .inr h
end L2
section
namespace L2
open PySem PySem.Spec PyProof.Rows
section
variable {prog:Program} {w:World} {A:Around} {R:Result->Shared->Prop} {s:Shared}
def dA (ifs:List Expr)(env:Env):Sem Bool :=
 forIn ifs true fun c r=>if r=true then do let ok <- isTrue c env (eval c env);pure (ForInStep.yield ok) else pure (ForInStep.yield r)
theorem cZ {elt tg iter:Expr}{ifs:List Expr}{scope:Scope}{pos:Pos}{it acc:Value}{env:Env}(J:Nat->Shared->Prop)
  (turn:∀ n s,J n s->wpAny (model prog w) A (pyNext it) (fun r s1=>match r with
   | none=>R (.ok .next) s1
   | some v=>wpAny (model prog w) A (letOwnedTupleGo tg it v) (fun _ s2=>wpAny (model prog w) A (assign tg env v) (fun _ s3=>wpAny (model prog w) A (dA ifs env) (fun ok s4 =>
     if ok=true then wpAny (model prog w) A (eval elt env) (fun x s5=>wpAny (model prog w) A (call (.builtin "list.append") [acc,x]) (fun _ s6=>∃ m,m<n/\J m s6) (fun _ _=>False) s5) (fun _ _=>False) s4
     else ∃ m,m<n/\J m s4) (fun _ _=>False) s3) (fun _ _=>False) s2) (fun _ _=>False) s1) (fun _ _=>False) s)
  (n:Nat)(h:J n s):codeAny (model prog w) A (.compLoop (.ListComp elt [⟨tg,iter,ifs,0⟩] scope pos) 0 it acc env) R s:=by
 refine codeAny_loop rfl J (fun n s hJ=>?_) n h
 show wpAny _ A (Sem.onRaise (compTurn (.ListComp elt [⟨tg,iter,ifs,0⟩] scope pos) 0 it acc env) _) _ _ s
 refine wpAny_noted ?_
 rw [compTurn_list]
 refine wpAny_bind (wpAny_standAt (wpAny_bind (wpAny_mono (turn n s hJ) (fun r s1 h1=>?_) (fun _ _ z=>z.elim))))
 cases r with
 | none=>exact wpAny_pure h1
 | some v =>
  refine wpAny_bind (wpAny_mono h1 (fun _ s2 h2=>wpAny_bind (wpAny_mono h2 (fun _ s3 h3=>wpAny_bind (wpAny_mono h3 (fun ok s4 h4=>?_) (fun _ _ z=>z.elim))) (fun _ _ z=>z.elim))) (fun _ _ z=>z.elim))
  cases ok with
  | false=>exact wpAny_pure ⟨rfl,h4⟩
  | true=>exact wpAny_bind (wpAny_bind (wpAny_mono h4 (fun x s5 h5=>wpAny_bind (wpAny_mono h5 (fun _ s6 h6=>wpAny_pure (wpAny_pure ⟨rfl,h6⟩)) (fun _ _ z=>z.elim))) (fun _ _ z=>z.elim)))
end
def Dc (env:Env):List (Str×NameKind)->List (Str×Addr)->List (Str×Addr)
 | [],cs=>cs
 | y::r,cs=>if y.2=.free then Dc env r ((y.1,(env.cells.lookup y.1).getD 0)::cs) else Dc env r cs
theorem Ux {env:Env}(f:Str×NameKind->List (Str×Addr)->Sem (ForInStep (List (Str×Addr))))
  (h1:∀ y cs c,y.2=.free->env.cells.lookup y.1=some c->f y cs=pure (.yield ((y.1,c)::cs)))(h2:∀ y cs,y.2≠.free->f y cs=pure (.yield cs)) :
  ∀ (ns:List (Str×NameKind)) (cs:List (Str×Addr)),(∀ y∈ns,y.2=.free->∃ c,env.cells.lookup y.1=some c)->forIn ns cs f=(pure (Dc env ns cs):Sem (List (Str×Addr)))
 | [],cs,_=>by simp [Dc]
 | y::r,cs,h=>by
  have hr:∀ z∈r,z.2=.free->∃ c,env.cells.lookup z.1=some c:=fun z hz=>h z (List.mem_cons_of_mem _ hz)
  rw [List.forIn_cons]
  by_cases hy:y.2=.free
  ·obtain ⟨c,hc⟩:=h y List.mem_cons_self hy
   rw [h1 y cs c hy hc]
   simp only [Dc,if_pos hy,hc,Option.getD_some]
   exact Ux f h1 h2 r _ hr
  ·rw [h2 y cs hy]
   simp only [Dc,if_neg hy]
   exact Ux f h1 h2 r _ hr
theorem Gr {scope:Scope}{env:Env}(h:∀ y∈scope.names,y.2=.free->∃ c,env.cells.lookup y.1=some c):closureFor scope env=pure (Dc env scope.names []):=by
 unfold closureFor
 dsimp only
 rw [Ux (env:=env) _ (fun y cs c hy hc=>?_) (fun y cs hy=>?_) scope.names [] h]
 ·rfl
 ·obtain ⟨n,k⟩:=y
  dsimp only at hy hc ⊢
  subst hy
  simp only [cellOf,hc,beq_self_eq_true,if_true]
  rfl
 ·obtain ⟨n,k⟩:=y
  have e:(k==NameKind.free)=false:=by simpa using hy
  simp only [e,Bool.false_eq_true,if_false]
theorem Hr {env:Env}:∀ (ns:List (Str×NameKind)) (cs:List (Str×Addr)) (x:Str) (c:Addr),(∀ y∈ns,y.2=.free->∃ c,env.cells.lookup y.1=some c) ->
  (∀ z d,cs.lookup z=some d->env.cells.lookup z=some d)->(Dc env ns cs).lookup x=some c->env.cells.lookup x=some c
 | [],cs,x,c,_,hc,h=>hc x c h
 | y::r,cs,x,c,hy,hc,h=>by
  have hr:∀ z∈r,z.2=.free->∃ c,env.cells.lookup z.1=some c:=fun z hz=>hy z (List.mem_cons_of_mem _ hz)
  unfold Dc at h
  split at h
  ·rename_i hk
   obtain ⟨d,hd⟩:=hy y List.mem_cons_self hk
   rw [hd] at h
   refine Hr r _ x c hr (fun z e hz=>?_) h
   rw [List.lookup_cons] at hz
   split at hz
   ·rename_i hzy
    cases hz
    rw [eq_of_beq hzy];exact hd
   ·exact hc z e hz
  ·exact Hr r _ x c hr hc h
theorem Ls {env:Env}:∀ (ns:List (Str×NameKind)) (cs:List (Str×Addr)) (x:Str),(cs.lookup x).isSome=true->((Dc env ns cs).lookup x).isSome=true
 | [],_,_,h=>h
 | y::r,cs,x,h=>by
  unfold Dc
  split
  ·refine Ls r _ x ?_
   rw [List.lookup_cons]
   split
   ·rfl
   ·exact h
  ·exact Ls r _ x h
theorem Ed {env:Env}:∀ (ns:List (Str×NameKind)) (cs:List (Str×Addr)) (x:Str),(x,NameKind.free)∈ns->((Dc env ns cs).lookup x).isSome=true
 | [],_,_,h=>by simp at h
 | y::r,cs,x,h=>by
  rcases List.mem_cons.mp h with e | e
  ·subst e
   unfold Dc
   rw [if_pos rfl]
   exact Ls r _ x (by simp)
  ·unfold Dc
   split
   ·exact Ed r _ x e
   ·exact Ed r _ x e
theorem Ib {scope:Scope}{env:Env}{x:Str}{k:NameKind}(h:(relabel scope env).names.lookup x=some k):(x,k)∈scope.names\/((x,NameKind.free)∈scope.names/\k=NameKind.cell):=by
 have m:=PySem.mem_of_lookup h
 obtain ⟨⟨n,k'⟩,hm,e⟩:=List.mem_map.mp m
 dsimp only at e
 split at e
 ·rename_i hk
  cases e
  simp only [Bool.and_eq_true,beq_iff_eq] at hk
  rw [hk.1.1] at hm
  exact .inr ⟨hm,rfl⟩
 ·cases e
  exact .inl hm
theorem Lw {scope:Scope}{env:Env}(hk:env.scope.kind=.function){x:Str}(hx:env.kindOf x=some .cell)(h:scope.names.lookup x=some .free):(relabel scope env).names.lookup x=some .cell:=by
 unfold relabel
 show (scope.names.map _).lookup x=some NameKind.cell
 generalize scope.names=ns at h
 induction ns with
 | nil=>simp at h
 | cons y r ih =>
  obtain ⟨n,k⟩:=y
  rw [List.lookup_cons] at h
  rw [List.map_cons]
  split at h
  ·rename_i hn
   cases h
   rw [<- eq_of_beq hn]
   simp [hk,hx]
  ·rename_i hn
   dsimp only
   split
   ·rw [List.lookup_cons,hn];exact ih h
   ·rw [List.lookup_cons,hn];exact ih h
def Cz (X:Cx)(scope:Scope)(N:List Str)(C:Addr)(s:Shared)(H:Hp)(fp:List Addr):Cx :=
 { X with N:=N,s₀:=s,H₀:=H,env:=compEnvC scope (Dc X.env scope.names []) C X.env,outer:=X.stack,ex:=fp,fn:=fun _=>false,pn:=[],xe:=fun _ _=>False }
structure Bq (N₀:List Str) (sc₀ sc:Scope) (x:Str) (N:List Str) (ix:List Nat):Prop where
 kind:sc.kind=.function
 nocell:∀ y∈sc.names,y.2≠.cell
 names:∀ y∈sc.names,y.2=.local->sc.names.lookup y.1=some .local
 free:∀ y∈sc.names,y.2=.free->sc₀.names.lookup y.1=some .cell
 nd:N.Nodup
 hd:N.head?=some x
 loc:sc.names.lookup x=some .local
 len:N.length=ix.length+1
 at_:∀ p∈N.tail.zip ix,N₀[p.2]?=some p.1/\sc.names.lookup p.1=some .free
def frV (σ:St)(ix:List Nat):St:=ix.map fun j=>(σ[j]?).getD none
def PIf (X:Cx)(ifs:List Expr)(t:TT):Prop :=
 ∀ (pins:List (Addr×Obj)) (s:Shared) (σ:St) (H:Hp) (Q:Bool->Hp->Prop),Inv X pins σ H s->t σ H Q->wpAny (model X.prog X.w) X.A (dA ifs X.env) (TP X pins σ Q) X.xe s
def wX:TT:=fun _ H Q=>Q true H
theorem Dg {X:Cx}:PIf X [] wX:=fun pins s σ H Q I h=>wpAny_tests_nil ⟨H,I,h⟩
theorem eN {X:Cx}{c:Expr}{t:TT}(h:PT X c t):PIf X [c] t:=fun pins s σ H Q I hw=>wpAny_tests_one (h pins s σ H Q I hw)
def Ry (J:It)(H1:Hp)(fr:St)(tc:TT)(te:TE)(Q:VK):Prop:=∀ D,H1 D=none->∃ W:Nat->Nat->Hp->Prop,(∃ m,W 0 m (upd H1 D (.lst [])))/\∀ i m H,W i m H ->
 (J.stop i H/\Q (.ref D) H)\/(J.go i H/\∀ x H',J.yld i H x H'->tc (some x::fr) H' fun b H3 =>
  if b=true then te (some x::fr) H3 fun y H4=>∃ ys,H4 D=some (.lst ys)/\ys.length<sizeLine/\∃ m',m'<m/\W (i+1) m' (upd H4 D (.lst (ys++[y]))) else ∃ m',m'<m/\W (i+1) m' H3)
def tLc (wi:TI)(ix:List Nat)(tc:TT)(te:TE):TE:=fun σ H Q=>wi σ H fun J H1=>Ry J H1 (frV σ ix) tc te Q
section
variable {X:Cx} {scope:Scope} {N:List Str} {ix:List Nat} {x:Str} {px:Pos} {elt iter:Expr} {ifs:List Expr} {tc:TT} {te:TE} {pos:Pos}
theorem wR {pins:List (Addr×Obj)}{σ:St}{H2:Hp}{s2:Shared}{J:It}{fp:List Addr}{it:Addr}{tn:Nat->Heap->Prop}{tg:Expr}(L:Bq X.N X.env.scope scope x N ix)(I2:Inv X pins σ H2 s2)
  (T:Ni X.prog X.w X.K tg J fp it tn)(st2:tn 0 s2.heap)(f2:∀ b∈fp,Ma X pins H2 b){C:Addr}{s3 s4:Shared}{H3:Hp}(I3:Inv X pins σ H3 s3)(I4:Inv X pins σ H3 s4)(hle:s2.heap.objs.size<=s3.heap.objs.size)
  (hC:C=s3.heap.objs.size)(ho:s4.os=s3.os)(kp:∀ b u,s3.heap.get? b=some u->s4.heap.get? b=some u){m:Str->Option Value}(hns:s4.heap.Ns C m):Inv (Cz X scope N C s3 H3 fp) [] (none::frV σ ix) H3 s4:=by
 have hfree:∀ y∈scope.names,y.2=.free->∃ c,X.env.cells.lookup y.1=some c:=fun y hy hf=>I2.ok.has y.1 (.inl (L.free y hy hf))
 have sub:∀ y c,(Dc X.env scope.names []).lookup y=some c->X.env.cells.lookup y=some c:=fun y c h=>Hr _ _ y c hfree (fun _ _ z=>by simp at z) h
 have lt2:∀ b∈fp,b<s2.heap.objs.size:=fun b hb=>by obtain ⟨o,e,_⟩:=T.obj _ _ st2 b hb;exact Heap.lt_size e
 have okY:(Cz X scope N C s3 H3 fp).Ok:=by
  refine ⟨I2.ok.mod,L.kind,I2.ok.glob,I2.ok.blt,Nat.le_of_eq hC.symm,fun y z c h1 h2=>I2.ok.inj y z c (sub y c h1) (sub z c h2),fun y hy=>?_,fun y c z _=>?_,I2.ok.hd,I2.ok.frames,.inl rfl,fun b hb=>⟨?_,fun y c h=>(f2 b hb).2.2.2.2.1 y c (sub y c h)⟩,
   I3.bs,Nat.le_trans I3.ok.bsz I3.sz,fun b o e hb=>?_,fun b hb z=>?_,I3.stack,I3.stkFree⟩
  ·have hk:(y,NameKind.free)∈scope.names:=by
    rcases hy with hy | hy
    ·rcases Ib hy with q | q
     ·exact absurd rfl (L.nocell _ q)
     ·exact q.1
    ·rcases Ib hy with q | q
     ·exact q
     ·exact absurd q.2 (by decide)
   exact Option.isSome_iff_exists.mp (Ed _ _ y hk)
  ·cases (show false=true from z)
  ·have l:=lt2 b hb
   show b≠C
   rw [hC]
   exact Nat.ne_of_lt (Nat.lt_of_lt_of_le l hle)
  ·rcases (f2 b hb).2.2.2.1 with q | q
   ·exact I2.ok.noex b o e q
   ·exact absurd (Nat.lt_of_lt_of_le (Heap.lt_size e) (Nat.le_trans I2.ok.bsz q)) (Nat.lt_irrefl _)
  ·rcases List.mem_cons.mp (I2.stkSub b z) with q | q
   ·exact (f2 b hb).2.1 q
   ·exact (f2 b hb).2.2.1 q
 refine ⟨okY,ho,I4.bare,Un.kept kp,⟨m,hns,fun i y v h1 h2 h3=>?_⟩,fun y c e=>I4.cell y c (sub y c e),?_,fun y c e=>I4.freeC y c (sub y c e),fun p hp=>absurd (show p∈([]:List (Addr×Obj)) from hp) (by simp),I4.hok,?_⟩
 ·cases i with
  | zero=>cases (show some none=some (some v) from h2)
  | succ k =>
   have h2:(frV σ ix)[k]?=some (some v):=h2
   have h1:N[k+1]?=some y:=h1
   unfold frV at h2
   rw [List.getElem?_map] at h2
   cases hj:ix[k]? with
   | none=>rw [hj] at h2;cases h2
   | some j =>
    rw [hj] at h2
    have h2:(σ[j]?).getD none=some v:=Option.some.inj h2
    have h2':σ[j]?=some (some v):=by
     cases e:σ[j]? with
     | none=>rw [e] at h2;cases h2
     | some z=>rw [e] at h2;exact congrArg some h2
    have ht:N.tail[k]?=some y:=by rw [List.getElem?_tail];exact h1
    have hz:(y,j)∈N.tail.zip ix:=List.mem_of_getElem? (i:=k) (by rw [List.getElem?_zip_eq_some];exact ⟨ht,hj⟩)
    obtain ⟨q1,q2⟩:=L.at_ _ hz
    have hm:=PySem.mem_of_lookup q2
    have hcell:=L.free _ hm rfl
    obtain ⟨m',hn',hl'⟩:=I4.loc
    obtain ⟨u,r,lk⟩:=hl' j y v q1 h2' (.inr (.inl hcell))
    refine ⟨u,r,.inr ⟨.inl (Lw I2.ok.kind hcell q2),?_⟩⟩
    rcases lk with lk | ⟨_,c,e,z⟩
    ·rw [show X.env.kindOf y=some .cell from hcell] at lk
     cases lk.1
    ·obtain ⟨c',e'⟩:=Option.isSome_iff_exists.mp (Ed (env:=X.env) scope.names [] y hm)
     have e2:=sub y c' e'
     rw [e] at e2
     cases e2
     exact ⟨c,e',z⟩
 ·show H3 C=none
  exact I3.hok.fresh (Nat.le_of_eq hC.symm)
 ·show (none::frV σ ix).length=N.length
  rw [L.len]
  simp [frV]
theorem mE {tgt:Expr}(htg:tgt=.Name x px){pins:List (Addr×Obj)}{σ:St}{H2:Hp}{s2:Shared}{J:It}{fp:List Addr}{it:Addr}{tn:Nat->Heap->Prop}(hc:X.calm=true)(L:Bq X.N X.env.scope scope x N ix)(I2:Inv X pins σ H2 s2)
  (T:Ni X.prog X.w X.K tgt J fp it tn)(st2:tn 0 s2.heap)(f2:∀ b∈fp,Ma X pins H2 b)
  (hif:∀ C s H,PIf (Cz X scope N C s H fp) ifs tc)(he:∀ C s H,PE (Cz X scope N C s H fp) elt te){Q:VK}(rd:Ry J H2 (frV σ ix) tc te Q){RR:Value->Addr->Result->Shared->Prop}{E:Value->Shared->Prop}
  (fin:∀ D C H' s' m,Inv X pins σ H' s'->s2.heap.objs.size<=C->H' C=none->s'.heap.Ns C m->Q (.ref D) H'->RR (.ref D) C (.ok .next) s') :
  wpAny (model X.prog X.w) X.A (newList []) (fun acc s3=>wpAny (model X.prog X.w) X.A (newFunctionEnv scope X.env.globals (Dc X.env scope.names []) [] X.env.qual none .none (some X.env)) (fun cenv s4 =>
   codeAny (model X.prog X.w) X.A (.compStart (.ListComp elt [⟨tgt,iter,ifs,0⟩] scope pos) 0 (.ref it) acc { cenv with scope:=relabel scope X.env }) (RR acc cenv.locals) s4) E s3) E s2:=by
 refine wpAny_newObj_type (wpAny_newFunctionEnv L.nocell (by intro y hy;simp at hy) (fun h1 hns hsb=>?_) L.kind)
 dsimp only at hns hsb ⊢
 have I3:Inv X pins σ (upd H2 s2.heap.objs.size (.lst [])) { s2 with heap:=s2.heap.push { cls:=.type "list",dict:=none,data:=.seq ([]:List Value).toArray } }:=I2.lnew (its:=[]) (t':=s2.toks) .nil (Nat.zero_le _)
 generalize hH3:s2.heap.push { cls:=.type "list",dict:=none,data:=.seq ([]:List Value).toArray }=h3 at hns hsb I3 ⊢
 have hsz:h3.objs.size=s2.heap.objs.size+1:=by rw [<- hH3,Heap.size_push]
 have kp34:∀ b u,h3.get? b=some u->h1.get? b=some u:=fun b u e=>hsb.extBut b u (Nat.ne_of_lt (Heap.lt_size e)) (Heap.get?_push_of_some _ e)
 have I4:Inv X pins σ (upd H2 s2.heap.objs.size (.lst [])) { s2 with heap:=h1,toks:=s2.toks+([]:List (Str×Value)).length }:=I3.kept (t':=s2.toks+([]:List (Str×Value)).length) kp34
 have kp24:∀ b u,s2.heap.get? b=some u->h1.get? b=some u:=fun b u e=>kp34 b u (by rw [<- hH3];exact Heap.get?_push_of_some _ e)
 have IY:=wR (C:=h3.objs.size) (s3:={ s2 with heap:=h3 }) L I2 T st2 f2 I3 I4 (by show s2.heap.objs.size<=h3.objs.size;omega) rfl rfl kp34 hns
 have fD:H2 s2.heap.objs.size=none:=I2.hok.fresh (Nat.le_refl _)
 have lt2:∀ b∈fp,b<s2.heap.objs.size:=fun b hb=>by obtain ⟨o,e,_⟩:=T.obj _ _ st2 b hb;exact Heap.lt_size e
 have st4:tn 0 h1:=T.keep _ _ _ st2 fun b _ o e=>kp24 b o e
 have stat:∀ {pn:List (Addr×Obj)} {H':Hp},pn=[]->(∀ b∈fp,H' b=none)->∀ b∈fp,Ma (Cz X scope N h3.objs.size { s2 with heap:=h3 } (upd H2 s2.heap.objs.size (.lst [])) fp) pn H' b:=fun hp hn b hb=>by
  subst hp
  exact ⟨hn b hb,(IY.ok.exf b hb).1,IY.ok.exfs b hb,.inl hb,(IY.ok.exf b hb).2,fun p hp=>absurd (show p∈([]:List (Addr×Obj)) from hp) (by simp)⟩
 obtain ⟨W,⟨m0,w0⟩,turn⟩:=rd _ fD
 have loop:codeAny (model X.prog X.w) X.A (.compLoop (.ListComp elt [⟨tgt,iter,ifs,0⟩] scope pos) 0 (.ref it) (.ref s2.heap.objs.size) (compEnvC scope (Dc X.env scope.names []) h3.objs.size X.env)) (RR (.ref s2.heap.objs.size) h3.objs.size)
   { s2 with heap:=h1,toks:=s2.toks+([]:List (Str×Value)).length }:=by
  refine cZ (fun n s'=>∃ i H',Inv (Cz X scope N h3.objs.size { s2 with heap:=h3 } (upd H2 s2.heap.objs.size (.lst [])) fp) [] (none::frV σ ix) H' s'/\tn i s'.heap/\(∀ b∈fp,H' b=none)/\W i n H') ?_ m0
   ⟨0,_,IY,st4,fun b hb=>by rw [Al (Nat.ne_of_lt (lt2 b hb))];exact (f2 b hb).1,w0⟩
  rintro n s5 ⟨i,H5,I5,st5,fr5,w5⟩
  rcases turn i n H5 w5 with ⟨stop,q⟩ | ⟨go,step⟩
  ·refine thn (T.done (Cz X scope N h3.objs.size { s2 with heap:=h3 } (upd H2 s2.heap.objs.size (.lst [])) fp) rfl rfl rfl hc i [] s5 _ H5 (fun _ _=>False) I5 (stat rfl fr5) st5 stop) fun r s6 ⟨hr,I6⟩=>?_
   subst hr
   obtain ⟨m6,hn6,_⟩:=I6.loc
   have u1:Un (frs X.stack) fp H2 (upd H2 s2.heap.objs.size (.lst [])) s2.heap h3:=Un.laid (fun b u e=>by rw [<- hH3];exact Heap.get?_push_of_some _ e) (Nat.le_refl _) fD
   have back:Inv X pins σ H5 s6:=I2.call' (ch:=fp) (I6.os.trans rfl) (u1.trans I6.base) I6.hok I6.bare fun b hb=>⟨(f2 b hb).2.2.2.1,(f2 b hb).2.1,(f2 b hb).2.2.2.2.1,(f2 b hb).2.2.2.2.2⟩
   exact fin _ _ H5 s6 m6 back (by omega) I6.free hn6 q
  ·refine thn (T.item (Cz X scope N h3.objs.size { s2 with heap:=h3 } (upd H2 s2.heap.objs.size (.lst [])) fp) rfl rfl rfl hc i [] s5 _ H5 (fun _ _=>False) I5 (stat rfl fr5) st5 go) fun r s6 ⟨u,hr,h6⟩=>?_
   subst hr
   refine thn h6 fun _ s7 ⟨y,H7,I7,r7,y7,st7,fr7⟩=>?_
   have I7':=I7.pinned (stat rfl fr7) (T.obj _ _ st7)
   have hg:PG (Cz X scope N h3.objs.size { s2 with heap:=h3 } (upd H2 s2.heap.objs.size (.lst [])) fp) tgt (Fl 0):=by
    rw [htg]
    have hi:N[0]?=some x:=by have:=L.hd;rwa [List.head?_eq_getElem?] at this
    exact Bn L.nd hi (.inl (lookup_relabel_local L.loc)) (.inr (lookup_relabel_local L.loc))
   refine thn (hg _ s7 _ H7 y u (fun σ' H'=>σ'=some y::frV σ ix/\H'=H7) I7' r7 ⟨rfl,rfl⟩) fun _ s8 ⟨σ8,H8,I8,e8,e8'⟩=>?_
   subst e8 e8'
   refine thn (hif _ _ _ _ s8 _ _ _ I8 (step y _ y7)) fun ok s9 ⟨H9,I9,q9⟩=>?_
   have again:∀ {sz:Shared} {Hz:Hp} {m':Nat},Inv (Cz X scope N h3.objs.size { s2 with heap:=h3 } (upd H2 s2.heap.objs.size (.lst [])) fp) ([]++Nv fp s7.heap) (some y::frV σ ix) Hz sz->m'<n->W (i+1) m' Hz ->
     ∃ m,m<n/\∃ i H',Inv (Cz X scope N h3.objs.size { s2 with heap:=h3 } (upd H2 s2.heap.objs.size (.lst [])) fp) [] (none::frV σ ix) H' sz/\tn i sz.heap/\(∀ b∈fp,H' b=none)/\W i m H':=fun {sz Hz m'} Iz hm wz=>by
    refine ⟨m',hm,i+1,Hz,Iz.unpinned.weak (by simp) (fun j v e=>?_),T.keep _ _ _ st7 fun b hb o e=>(Iz.pin (b,o) (List.mem_append_right _ (List.mem_append_right _ (E6 hb e)))).1,fun b hb=>?_,wz⟩
    ·cases j with
     | zero=>cases e
     | succ j=>exact e
    ·obtain ⟨o,e,d⟩:=T.obj _ _ st7 b hb
     exact (Iz.pin (b,o) (List.mem_append_right _ (List.mem_append_right _ (E6 hb e)))).2.1
   cases ok with
   | false =>
    obtain ⟨m',hm,wz⟩:=q9
    exact again I9 hm wz
   | true =>
    refine thn (he _ _ _ _ s9 _ _ _ I9 q9) fun xv s10 ⟨z,H10,I10,r10,ys,hD,hl,m',hm,wz⟩=>?_
    refine thn (De _ s10 _ H10 (.ref s2.heap.objs.size) [z] (.ref s2.heap.objs.size) [xv] (fun _ Hz=>Hz=upd H10 s2.heap.objs.size (.lst (ys++[z]))) I10 rfl (.cons r10 .nil) ⟨_,ys,z,rfl,rfl,hD,hl,rfl⟩) fun _ s11 ⟨_,H11,I11,_,q11⟩=>?_
    subst q11
    exact again I11 hm wz
 exact codeAny_compStart_list loop (T.self X.A 0 _ _ _ st4 loop)
theorem Oa {wi:TI}(hc:X.calm=true)(L:Bq X.N X.env.scope scope x N ix)(hi:PI X (.Name x px) iter wi)(hif:∀ C s H fp,PIf (Cz X scope N C s H fp) ifs tc)(he:∀ C s H fp,PE (Cz X scope N C s H fp) elt te)
  (hs:∀ z,foldedSetIterable iter X.env z=pure z:=by intro _;rfl):PE X (.ListComp elt [⟨.Name x px,iter,ifs,0⟩] scope pos) (tLc wi ix tc te):=by
 intro pins s σ H Q I h
 have hfree:∀ y∈scope.names,y.2=.free->∃ c,X.env.cells.lookup y.1=some c:=fun y hy hf=>I.ok.has y.1 (.inl (L.free y hy hf))
 rw [eval_ListComp]
 refine wpAny_comprehension_free (use:=none) rfl hs (Gr hfree) L.kind L.names (thn (hi pins s σ H _ I h) fun v s1 h1=>thn h1 fun itv s2 h2=>?_)
 obtain ⟨it,fp,tn,J,H2,e,I2,T,st2,f2,rd⟩:=h2
 subst e
 refine mE (RR:=fun acc C=>compPost (model X.prog X.w) X.A X.xe none _ acc C) rfl hc L I2 T st2 f2 (fun C s H=>hif C s H fp) (fun C s H=>he C s H fp) rd fun D C H' s' m I' hC hf hn q=>?_
 refine ⟨m,hn,fun h' hsb=>⟨.ref D,H',?_,rfl,q⟩⟩
 have l2:=I2.lt
 refine I'.turned (t':=s'.toks) (it:=C) (fun b o hb e=>hsb.extBut b o hb e) hf (Nat.ne_of_gt (Nat.lt_of_lt_of_le l2 hC)) (.inr (Nat.le_trans I2.sz hC)) (fun y c e=>?_) fun p hp=>?_
 ·obtain ⟨v,hv⟩:=I2.cell y c e
  exact Nat.ne_of_lt (Nat.lt_of_lt_of_le hv.lt hC)
 ·exact Nat.ne_of_lt (Nat.lt_of_lt_of_le (Heap.lt_size (I2.pin p hp).1) hC)
theorem Mj {wi:TI}{i:Nat}{y:Str}{py spos:Pos}(hc:X.calm=true)(L:Bq X.N X.env.scope scope x N ix)(hN:X.N.Nodup)(hy:X.N[i]?=some y)(hl:X.env.scope.names.lookup y=some .local)
  (hi:PI X (.Name x px) iter wi)(hif:∀ C s H fp,PIf (Cz X scope N C s H fp) ifs tc)(he:∀ C s H fp,PE (Cz X scope N C s H fp) elt te)
  (hsw:swapsWith (.ListComp elt [⟨.Name x px,iter,ifs,0⟩] scope pos) (some (.Name y py)) spos.line X.env=pure true:=by rfl)
  (hs:∀ z,foldedSetIterable iter X.env z=pure z:=by intro _;rfl):PS X (.Assign [.Name y py] (.ListComp elt [⟨.Name x px,iter,ifs,0⟩] scope pos) spos) (iI (tLc wi ix tc te) (Fl i)):=by
 intro pins s σ H D I h
 have hfree:∀ y∈scope.names,y.2=.free->∃ c,X.env.cells.lookup y.1=some c:=fun y hy hf=>I.ok.has y.1 (.inl (L.free y hy hf))
 rw [exec_Assign_Name_used _ _ _ _ hsw]
 refine wpAny_bind (wpAny_standAt (wpAny_bind ?_))
 show wpAny _ X.A (do let _ <- comprehension (.ListComp elt [⟨.Name x px,iter,ifs,0⟩] scope pos) scope X.env _ (newList []) false (eval iter X.env) (some (assign (.Name y py) X.env))) _ _ s
 refine wpAny_bind (thn (Q:=fun _ s'=>SP X pins D .next s') (wpAny_comprehension_free (use:=some (assign (.Name y py) X.env)) rfl hs (Gr hfree) L.kind L.names (thn (hi pins s σ H _ I h) fun v s1 h1=>thn h1 fun itv s2 h2=>?_)) fun _ s' hq=>wpAny_pure (wpAny_pure hq))
 obtain ⟨it,fp,tn,J,H2,e,I2,T,st2,f2,rd⟩:=h2
 subst e
 refine mE (RR:=fun acc C=>compPost (model X.prog X.w) X.A X.xe (some (assign (.Name y py) X.env)) _ acc C) rfl hc L I2 T st2 f2 (fun C s H=>hif C s H fp) (fun C s H=>he C s H fp) rd fun Da C H' s' m I' hC hf hn q=>?_
 have l2:=I2.lt
 have nC:C≠X.env.locals:=Nat.ne_of_gt (Nat.lt_of_lt_of_le l2 hC)
 have nF:C∉X.fs:=I2.nofs hC
 obtain ⟨oC,es,ep,hget,hdat,hrest⟩:=id hn
 have Ip:Inv X (pins++[(C,oC)]) σ H' s':=I'.pins_of fun p hp=>(List.mem_append.mp hp).elim (fun z=>I'.pin p (List.mem_append_right _ z)) fun z=>by
  have e:p=(C,oC):=by simpa using z
  subst e
  exact ⟨hget,hf,nC,nF,fun v z=>by rw [hdat] at z;cases z⟩
 have hg:PG X (.Name y py) (Fl i):=Bn hN hy (.inl hl) (.inr hl)
 show wpAny _ X.A (assign (.Name y py) X.env (.ref Da)) _ _ s'
 refine thn (hg _ s' σ H' (.ref Da) (.ref Da) D.nx Ip rfl q) fun _ s'' ⟨σ'',H'',I'',q''⟩=>?_
 obtain ⟨g1,g2,_⟩:=I''.pin (C,oC) (List.mem_append_right _ (List.mem_append_right _ (by simp)))
 refine ⟨m,⟨oC,es,ep,g1,hdat,hrest⟩,fun h' hsb=>⟨σ'',H'',?_,q''⟩⟩
 refine I''.unpinned.turned (t':=s''.toks) (it:=C) (fun b o hb e=>hsb.extBut b o hb e) g2 nC (.inr (Nat.le_trans I2.sz hC)) (fun y c e=>?_) fun p hp=>?_
 ·obtain ⟨v,hv⟩:=I2.cell y c e
  exact Nat.ne_of_lt (Nat.lt_of_lt_of_le hv.lt hC)
 ·exact Nat.ne_of_lt (Nat.lt_of_lt_of_le (Heap.lt_size (I2.pin p hp).1) hC)
end
theorem Ah {H:Hp}{D:Addr}{o:HO}(h:H D=none):Ak H (upd H D o):=fun b u e=>by rw [Al (Aq e h)];exact e
theorem O6 {J:It}{H1:Hp}{fr:St}{tc:TT}{te:TE}{Q:VK}(n:Nat)(item:Nat->V)(acc:Nat->List V)(h0:acc 0=[])(hz:∀ i,i<n->(acc i).length<sizeLine)
  (hgo:∀ i H,i<n->Ak H1 H->J.go i H)(hy:∀ i H x H',i<n->Ak H1 H->J.yld i H x H'->x=item i/\H'=H)(hst:∀ H,Ak H1 H->J.stop n H)
  (turn:∀ i H (R:Hp->Prop) (A:VK),i<n->Ak H1 H->(acc (i+1)=acc i->∀ H',Ak H H'->R H')->(∀ y H',acc (i+1)=acc i++[y]->Ak H H'->A y H') ->
   tc (some (item i)::fr) H fun b H3=>if b=true then te (some (item i)::fr) H3 A else R H3)
  (fin:∀ D H,H1 D=none->Ak H1 H->H D=some (.lst (acc n))->Q (.ref D) H):Ry J H1 fr tc te Q:=by
 intro D hD
 refine ⟨fun i m H=>i<=n/\m=n-i/\Ak H1 H/\H D=some (.lst (acc i)),⟨n,Nat.zero_le _,rfl,Ah hD,by rw [Ac,h0]⟩,?_⟩
 rintro i m H ⟨hi,rfl,sm,hl⟩
 by_cases h:i=n
 ·subst h
  exact .inl ⟨hst H sm,fin D H hD sm hl⟩
 ·have hlt:i<n:=Nat.lt_of_le_of_ne hi h
  refine .inr ⟨hgo i H hlt sm,fun x H' hyl=>?_⟩
  obtain ⟨rfl,rfl⟩:=hy i H x H' hlt sm hyl
  refine turn i H' _ _ hlt sm (fun ea H3 s3=>?_) (fun y H4 ea s4=>?_)
  ·exact ⟨n-(i+1),by omega,by omega,rfl,sm.trans s3,by rw [ea];exact s3 _ _ hl⟩
  ·refine ⟨acc i,s4 _ _ hl,hz i hlt,n-(i+1),by omega,by omega,rfl,fun b u e=>?_,by rw [Ac,ea]⟩
   rw [Al (Aq e hD)]
   exact s4 _ _ (sm _ _ e)
theorem jU {lo:Int}{n:Nat}{H1:Hp}{fr:St}{tc:TT}{te:TE}{Q:VK}(acc:Nat->List V)(h0:acc 0=[])(hz:∀ i,i<n->(acc i).length<sizeLine)
  (turn:∀ (i:Nat) H (R:Hp->Prop) (A:VK),i<n->Ak H1 H->(acc (i+1)=acc i->∀ H',Ak H H'->R H')->(∀ y H',acc (i+1)=acc i++[y]->Ak H H'->A y H') ->
   tc (some (.int (lo+i))::fr) H fun b H3=>if b=true then te (some (.int (lo+i))::fr) H3 A else R H3)
  (fin:∀ D H,H1 D=none->Ak H1 H->H D=some (.lst (acc n))->Q (.ref D) H):Ry (Itr lo n) H1 fr tc te Q :=
 O6 n (fun i=>.int (lo+i)) acc h0 hz (fun i H hi _=>hi) (fun i H x H' _ _ h=>⟨h.2,h.1⟩) (fun H _=>Nat.le_refl n) turn fin
theorem Mr {K:PySem.W.Frag}{a:Addr}{xs:List V}{H1:Hp}{fr:St}{tc:TT}{te:TE}{Q:VK}(hl:SqL K H1 a xs)(acc:Nat->List V)(h0:acc 0=[])(hz:∀ i,i<xs.length->(acc i).length<sizeLine)
  (turn:∀ (i:Nat) x H (R:Hp->Prop) (A:VK),xs[i]?=some x->Ak H1 H->(acc (i+1)=acc i->∀ H',Ak H H'->R H')->(∀ y H',acc (i+1)=acc i++[y]->Ak H H'->A y H') ->
   tc (some x::fr) H fun b H3=>if b=true then te (some x::fr) H3 A else R H3)
  (fin:∀ D H,H1 D=none->Ak H1 H->H D=some (.lst (acc xs.length))->Q (.ref D) H):Ry (Itl K a) H1 fr tc te Q:=by
 refine O6 xs.length (fun i=>xs.getD i .non) acc h0 hz (fun i H hi sm=>⟨xs,xs[i],sm.seq hl,by simp [hi]⟩) (fun i H x H' hi sm h=>⟨?_,h.1⟩) (fun H sm=>⟨xs,sm.seq hl,Nat.le_refl _⟩) (fun i H R A hi sm=>turn i _ H R A (by simp [hi]) sm) fin
 have:=h.2 xs (sm.seq hl)
 simp [List.getD,this]
theorem Ak.seqT {K:PySem.W.Frag}{H H':Hp}{a:Addr}{xs:List V}(e:Ak H H')(h:SqT K H a xs):SqT K H' a xs:=by
 rcases h with (h | ⟨o,h⟩) | h
 ·exact .inl (.inl (e _ _ h))
 ·exact .inl (.inr ⟨o,e _ _ h⟩)
 ·exact .inr h
theorem lL {K:PySem.W.Frag}{a:Addr}{xs:List V}{H1:Hp}{fr:St}{tc:TT}{te:TE}{Q:VK}(hl:SqT K H1 a xs)(acc:Nat->List V)(h0:acc 0=[])(hz:∀ i,i<xs.length->(acc i).length<sizeLine)
  (turn:∀ (i:Nat) x H (R:Hp->Prop) (A:VK),xs[i]?=some x->Ak H1 H->(acc (i+1)=acc i->∀ H',Ak H H'->R H')->(∀ y H',acc (i+1)=acc i++[y]->Ak H H'->A y H') ->
   tc (some x::fr) H fun b H3=>if b=true then te (some x::fr) H3 A else R H3)
  (fin:∀ D H,H1 D=none->Ak H1 H->H D=some (.lst (acc xs.length))->Q (.ref D) H):Ry (Itt K a) H1 fr tc te Q:=by
 refine O6 xs.length (fun i=>xs.getD i .non) acc h0 hz (fun i H hi sm=>⟨xs,xs[i],sm.seqT hl,by simp [hi]⟩) (fun i H x H' hi sm h=>⟨?_,h.1⟩) (fun H sm=>⟨xs,sm.seqT hl,Nat.le_refl _⟩) (fun i H R A hi sm=>turn i _ H R A (by simp [hi]) sm) fin
 have:=h.2 xs (sm.seqT hl)
 simp [List.getD,this]
theorem mK:bootBuiltins "int"=some (.type "int"):=by decide +kernel
theorem qO:bootBuiltins "str"=some (.type "str"):=by decide +kernel
theorem Y2:bootBuiltins "bool"=some (.type "bool"):=by decide +kernel
theorem Rq:bootBuiltins "list"=some (.type "list"):=by decide +kernel
theorem O5:bootBuiltins "tuple"=some (.type "tuple"):=by decide +kernel
theorem rR:bootBuiltins "dict"=some (.type "dict"):=by decide +kernel
theorem Em:bootBuiltins "len"=some (.builtin "len"):=by decide +kernel
theorem A9:bootBuiltins "isinstance"=some (.builtin "isinstance"):=by decide +kernel
theorem vM:bootBuiltins "sum"=some (.builtin "sum"):=by decide +kernel
theorem Xc:bootBuiltins "min"=some (.builtin "min"):=by decide +kernel
theorem qR:bootBuiltins "max"=some (.builtin "max"):=by decide +kernel
structure Cal (P:Program) (w:World) (K:PySem.W.Frag) (mg:Str->Option Value) (base:Heap) (name:Str) (k:Nat) (ps:List Str) (sp:Sp):Prop where
 ex:∃ (f:Addr) (fd:FuncData),Ax P w K mg base CX0 k f fd ps sp/\Dk K fd ps []/\mg name=some (.ref f)/\PySem.W.keepIn K (.ref f)=true
section
variable {X:Cx} {k:Nat} {ps:List Str} {sp:Sp} {name m:Str} {p pos apos:Pos} {e o:Expr} {es:List Expr} {ta:TE} {t:TA}
theorem A4 (C:Cal X.prog X.w X.K X.mg X.base name k ps sp)(hr:B2 k X.A)(ha:PA X (e::es) t)(hg:Gl X name:=by rfl)(hdb:(name==("__debug__":Str))=false:=by decide)
  (he:starEach (e::es) X.env=(false,eval e X.env)::starEach es X.env:=by rfl)(hpl:(backTo pos (starEach es X.env)).any (·.1)=false:=by rfl):PE X (.Call (.Name name p) (e::es) [] pos) (T5 sp [] E0 t):=by
 obtain ⟨f,fd,F,b,hm,hk⟩:=C.ex
 exact eY F hr hg hm hk b .nil Xn ha hdb he hpl
end
section
variable {X:Cx}
def wQ (K:PySem.W.Frag):List V->Hp->VK->Prop:=fun xs H Q=>∃ x n t b,xs=[x,.ty n]/\F1 K H x t/\kitOne K t (.type n)=some b/\Q (.bl b) H
theorem Cq:Dj X (.builtin "isinstance") (wQ X.K):=by
 intro pins s σ H xs us Q I r h
 obtain ⟨x,n,t,b,rfl,ty,e,q⟩:=h
 obtain ⟨u,w',rfl,ru,rw'⟩:=Mc r
 cases (show w'=Value.type n from rw')
 exact gB I ru ty e fun tk=>⟨.bl b,H,I.tok tk,rfl,q⟩
theorem T8 {K:PySem.W.Frag}:kitOne K (.type "int") (.type "bool")=some false:=by rfl
theorem N7 {K:PySem.W.Frag}:kitOne K (.type "str") (.type "str")=some true:=by rfl
end
theorem G1 {x y:Str}(h:x.cps.toList=y.cps.toList):x=y:=by
 obtain ⟨a⟩:=x
 obtain ⟨b⟩:=y
 have:a=b:=Array.toList_inj.mp h
 rw [this]
def sgn (c:Nat):Str:=⟨#[c]⟩
def Vb (x:Str)(k:Nat):Str:=⟨(List.replicate k x.cps.toList).flatten.toArray⟩
theorem Ye (x:Str)(k:Nat):(Vb x k).length=k*x.length:=by
 show (List.replicate k x.cps.toList).flatten.toArray.size=k*x.cps.size
 rw [List.size_toArray,dM]
 simp
theorem T2 (a:Array Nat):∀ (k:Nat) (acc:Array Nat),((List.replicate k a).foldl (·++·) acc).toList=acc.toList++(List.replicate k a.toList).flatten
 | 0,acc=>by simp
 | k+1,acc=>by
  rw [List.replicate_succ,List.foldl_cons,T2 a k,List.replicate_succ]
  simp [List.append_assoc]
section
variable {X:Cx}
def xE:R2:=fun x y H Q=>∃ z k,x=.str z/\y=.int k/\-(2 ^ 40)<k/\k<2 ^ 40/\z.length*k.toNat<=sizeLine/\z.length<=sizeLine/\Q (.str (Vb z k.toNat)) H
theorem nM:OpR X (binaryOp .Mult) xE:=by
 intro pins s σ H x y v u Q I rx ry h
 obtain ⟨z,k,rfl,rfl,k1,k2,hz,hz2,q⟩:=h
 obtain ⟨t,rfl⟩:=rx
 obtain ⟨t',rfl⟩:=ry
 have hs:=Id
 have hs':=sizeLine_eq
 refine PySem.P.mul_str ?_ ?_ ?_ ?_
 ·rw [decide_eq_false (by omega),decide_eq_false (by omega)];rfl
 ·intro h1 _ hgt
  have hk:k<=2 ^ 40:=by omega
  have:(z.length:Int)<=(2 ^ 63-1)/k:=by
   rw [Int.le_ediv_iff_mul_le (by omega)]
   have e:(z.length:Int)*k=((z.length*k.toNat:Nat):Int):=by
    rw [Int.natCast_mul,Int.toNat_of_nonneg (by omega)]
   rw [e]
   omega
  omega
 ·intro _ _
  unfold Builtin.Str.tooLong
  simpa using hz
 ·split
  ·rename_i h1
   have e:Vb z k.toNat=Str.empty:=by
    rw [show k.toNat=0 by omega];rfl
   rw [e] at q
   exact ⟨by decide,.str Str.empty,H,I.tok _,⟨_,rfl⟩,q⟩
  ·rename_i h1
   split
   ·rename_i h2
    have e:Vb z k.toNat=z:=by
     refine G1 ?_
     show (List.replicate k.toNat z.cps.toList).flatten.toArray.toList=_
     rcases Bool.or_eq_true_iff.mp h2 with h2 | h2
     ·have:k=1:=by simpa using h2
      subst this
      simp
     ·have:z.length=0:=by simpa using h2
      have e0:z.cps.toList=[]:=by
       have:z.cps.size=0:=this
       simpa using this
      rw [e0]
      simp
    rw [e] at q
    exact ⟨.str z,H,I,⟨_,rfl⟩,q⟩
   ·have e:(⟨(List.replicate k.toNat z.cps).foldl (·++·) #[]⟩:Str)=Vb z k.toNat:=by
     refine G1 ?_
     show ((List.replicate k.toNat z.cps).foldl (·++·) #[]).toList=_
     rw [T2]
     simp [Vb]
    refine ⟨?_,.str (Vb z k.toNat),H,I.tok _,⟨s.toks,by rw [e]⟩,q⟩
    rw [e,Ye,Nat.mul_comm]
    exact hz
theorem Y5 {ys:List Str}:∀ {us:List Value},A0 (ys.map V.str) us->StrsAre us ys:=by
 induction ys with
 | nil=>intro us r;rw [List.map_nil] at r;cases r;exact .nil
 | cons y ys ih =>
  intro us r
  rw [List.map_cons] at r
  cases r with
  | cons r1 r2 =>
   obtain ⟨t,e⟩:=r1
   subst e
   exact .cons y t (ih r2)
def mF (K:PySem.W.Frag):V->List V->Hp->VK->Prop:=fun x vs H Q=>∃ sep p ys,x=.str sep/\vs=[.ref p]/\SqL K H p (ys.map V.str)/\(ys.map (·.length)).sum+ys.length*sep.length<=16777216/\Q (.str (Txt.join sep ys)) H
theorem Uw:MtM X "str.join" (mF X.K):=by
 intro pins s σ H x vs v us Q I rx rv h
 obtain ⟨sep,p,ys,rfl,rfl,hp,hz,q⟩:=h
 obtain ⟨t,rfl⟩:=rx
 obtain ⟨u,rfl,ru⟩:=rv.one
 cases ru
 obtain ⟨its,r,pl,_⟩:=I.list hp
 exact join_list pl.isList (by simpa using Y5 r) hz fun t' k=>⟨.str (Txt.join sep ys),H,I.tok k,⟨t',rfl⟩,q⟩
theorem T1:∀ (ys:List Str) (a:Array Nat),(ys.foldl (fun acc p=>acc++("":Str).cps++p.cps) a).toList=a.toList++(ys.map fun y=>y.cps.toList).flatten
 | [],a=>by simp
 | y::r,a=>by
  rw [List.foldl_cons,T1 r]
  have e:("":Str).cps=#[]:=rfl
  rw [e]
  simp [List.append_assoc]
theorem Rb (ys:List Str):(Txt.join ("":Str) ys).cps.toList=(ys.map fun y=>y.cps.toList).flatten:=by
 show ((ys.drop 1).foldl (fun acc p=>acc++("":Str).cps++p.cps) (ys.headD Str.empty).cps).toList=_
 rw [T1]
 cases ys with
 | nil=>rfl
 | cons y r=>simp
end
def Z7:Expr->Bool
 | .Starred ..=>false
 | _=>true
theorem Yc {e:Expr}{es:List Expr}{env:Env}(h:Z7 e=true):starEach (e::es) env=(false,eval e env)::starEach es env:=by
 cases e<;>first | rfl | cases h
section
variable {X:Cx} {e:Expr} {es:List Expr} {te:TE} {t:TA}
theorem Ad (ha:PE X e te)(hr:PA X es t)(hs:Z7 e=true):PA X (e::es) (Wu te t):=dN ha hr (Yc hs)
end
structure PAi (X:Cx) (es:List Expr) (t:TA):Prop where
 h:PA X es t
structure PEi (X:Cx) (e:Expr) (t:TE):Prop where
 h:PE X e t
structure PSi (X:Cx) (st:Stmt) (t:TS):Prop where
 h:PS X st t
structure mH (X:Cx) (sts:List Stmt) (t:TS):Prop where
 h:PSs X sts t
section
variable {X:Cx} {e a b:Expr} {es:List Expr} {te ta tb:TE} {t:TA} {pos:Pos} {st:Stmt} {rest:List Stmt} {u u2:TS}
theorem hX:PAi X [] Xe:=⟨Aa⟩
theorem Gv (ha:PE X e te)(hr:PAi X es t)(hs:Z7 e=true):PAi X (e::es) (Wu te t):=⟨Ad ha hr.h hs⟩
theorem mG (h:PAi X es t):PEi X (.List es pos) (sU t):=⟨Bd h.h⟩
theorem vR {r:R2}(hr:IxR X r)(ha:PEi X a ta)(hb:PE X b tb)(hs:dB b):PEi X (.Subscript a b pos) (tOp r ta tb):=⟨C3 hr ha.h hb hs⟩
theorem si (h:PS X st u):PSi X st u:=⟨h⟩
theorem jA {i:Nat}{x:Str}{pos':Pos}(hN:X.N.Nodup)(hi:X.N[i]?=some x)(hx:Loc X.env.scope x)(he:PEi X e te)(hs:swapsWith e (some (.Name x pos')) pos.line X.env=pure false:=by rfl)(hf:X.fn x=true\/X.env.scope.names.lookup x=some .local:=by first | exact .inl rfl | exact .inr rfl | assumption) :
  PSi X (.Assign [.Name x pos'] e pos) (iI te (Fl i)):=⟨Am hN hi hx he.h hs hf⟩
theorem O0 (h1:PSi X st u)(h2:mH X rest u2):mH X (st::rest) (sL u u2):=⟨Ab h1.h h2.h⟩
theorem jF (h1:PSi X st u):mH X [st] u:=⟨Ag h1.h⟩
end
theorem us2 {P:List Value->Prop}(h:∀ a b,P [a,b]):∀ us:List Value,us.length=2->P us
 | [_,_],_=>h _ _
theorem us3 {P:List Value->Prop}(h:∀ a b c,P [a,b,c]):∀ us:List Value,us.length=3->P us
 | [_,_,_],_=>h _ _ _
section
variable {σ:St} {H:Hp} {D:Hb} {Q:VK} {t u:TS} {te ta tb:TE} {QB:Bool->Hp->Prop}
theorem vT (h:t { D with nx:=u D } σ H):sL t u D σ H:=h
theorem sP (h:D.nx σ H):qV D σ H:=h
theorem wW {g:TG}(h:te σ H fun x H1=>g x σ H1 D.nx):iI te g D σ H:=h
theorem pF {i:Nat}{v:V}{R:St->Hp->Prop}(h:R (σ.set i (some v)) H):Fl i v σ H R:=h
theorem wI (h:te σ H D.rt):wU te D σ H:=h
theorem rS (h:te σ H fun _ H1=>D.nx σ H1):lJ te D σ H:=h
theorem xF {c:TT}(h:c σ H fun b H1=>if b=true then t D σ H1 else u D σ H1):tX c t u D σ H:=h
theorem vZ {i:Nat}{ti:TIp}{x:V}(e:σ[i]?=some (some x))(h:te σ H fun y H1=>ti x y H1 fun z H2=>D.nx (σ.set i (some z)) H2):wZ i te ti D σ H:=⟨x,e,h⟩
theorem wY {i:Nat}{v:V}(e:σ[i]?=some (some v))(h:Q v H):pY i σ H Q:=⟨v,e,h⟩
theorem r_c {v:V}(h:Q v H):tC v σ H Q:=h
theorem yF {r:R2}(h:ta σ H fun x H1=>tb σ H1 fun y H2=>r x y H2 Q):tOp r ta tb σ H Q:=h
theorem xO {r:V->Hp->VK->Prop}(h:ta σ H fun x H1=>r x H1 Q):tUn r ta σ H Q:=h
theorem yI {g:Int->V}{i:Int}(h:Q (g i) H):rU g (.int i) H Q:=⟨i,rfl,h⟩
theorem rK {g:Int->Int->V}{i j:Int}(h:Q (g i j) H):rI0 g (.int i) (.int j) H Q:=⟨i,j,rfl,rfl,h⟩
theorem xP {C:Int->Int->Prop}{g:Int->Int->V}{i j:Int}(c:C i j)(h:Q (g i j) H):rI C g (.int i) (.int j) H Q:=⟨i,j,rfl,rfl,c,h⟩
theorem vO {f:Int->Int->Int}{i j:Int}(h:Q (.int (f i j)) H):ipI f (.int i) (.int j) H Q:=⟨i,j,rfl,rfl,h⟩
theorem uM {x y:V}(e:pX x y=true)(h:Q (.bl (decide (x=y))) H):rEq x y H Q:=⟨e,h⟩
theorem uX {x y:V}(e:pX x y=true)(h:Q (.bl (!decide (x=y))) H):rNe x y H Q:=⟨e,h⟩
theorem rN (h:te σ H fun x H'=>∃ k,x=.bl k/\QB k H'):qG te σ H QB:=h
theorem xR (h:te σ H fun x H'=>∃ k,x=.bl k/\QB k H'):tB te σ H QB:=h
theorem yE {k:Bool}{P:Bool->Prop}(h:P k):∃ k',V.bl k=.bl k'/\P k':=⟨k,rfl,h⟩
theorem xC {c:TT}(h:c σ H fun b H1=>QB (!b) H1):xA c σ H QB:=h
theorem wD {c d:TT}(h:c σ H fun b H1=>if b=true then d σ H1 QB else QB false H1):vL c d σ H QB:=h
theorem yB {c d:TT}(h:c σ H fun b H1=>if b=true then QB true H1 else d σ H1 QB):tOr c d σ H QB:=h
theorem rQ (h:ta σ H fun x H1=>∃ c,x=.bl c/\if c=true then tb σ H1 Q else Q (.bl false) H1):rF ta tb σ H Q:=h
theorem sD (h:ta σ H fun x H1=>∃ c,x=.bl c/\Q (.bl (!c)) H1):qQ ta σ H Q:=h
theorem xB {c:TT}(h:c σ H fun b H1=>if b=true then ta σ H1 Q else tb σ H1 Q):tIf c ta tb σ H Q:=h
theorem uK (h:ta σ H fun x H1=>Q (.bl (decide (x=.non))) H1):vC ta σ H Q:=h
theorem tQ (h:ta σ H fun x H1=>Q (.bl (!decide (x=.non))) H1):qS ta σ H Q:=h
theorem nX {r r':R2}{tc:TE}(h:ta σ H fun x H1=>tb σ H1 fun y H2=>r x y H2 fun z H3=>∃ k,z=.bl k/\(if k=true then tc σ H3 fun w' H4=>r' y w' H4 Q else Q (.bl false) H3)):mJ r r' ta tb tc σ H Q:=h
theorem vI (h:QB true H):wX σ H QB:=h
variable {tA tR:TA} {QA:List V->Hp->Prop}
theorem uL (h:QA [] H):Xe σ H QA:=h
theorem sO (h:te σ H fun x H1=>tR σ H1 fun xs H2=>QA (x::xs) H2):Wu te tR σ H QA:=h
theorem tK {sp:Sp}{E:XK}(h:tA σ H fun vs H1=>sp (vs++[]) H1 Q E):T5 sp [] E tA σ H Q:=h
theorem xT {r:List V->Hp->VK->Prop}(h:tA σ H fun vs H1=>r vs H1 Q):tCB r tA σ H Q:=h
theorem uR (h:tA σ H fun xs H1=>xs.length<=sizeLine/\∀ p,H1 p=none->Q (.ref p) (upd H1 p (.lst xs))):sU tA σ H Q:=h
theorem vP (h:tA σ H fun xs H1=>xs.length<=sizeLine/\∀ p,H1 p=none->Q (.ref p) (upd H1 p (.tup xs))):uP tA σ H Q:=h
theorem yC {K:PySem.W.Frag}{T:String}{r:V->List V->Hp->VK->Prop}(h:te σ H fun x H1=>tyV K T x H1/\tA σ H1 fun xs H2=>r x xs H2 Q):tBM K T r te tA σ H Q:=h
theorem xV {r:V->Option Int->Option Int->Hp->VK->Prop}{tl th:TO}(h:te σ H fun x H1=>tl σ H1 fun l H2=>th σ H2 fun u H3=>r x l u H3 Q):tSl r te tl th σ H Q:=h
theorem lE {QO:Option Int->Hp->Prop}(h:QO none H):dD σ H QO:=h
theorem uJ {QO:Option Int->Hp->Prop}(h:te σ H fun x H1=>∃ i,x=.int i/\QO (some i) H1):rH te σ H QO:=h
theorem uW {P:Int->Prop}{i:Int}(h:P i):∃ j,V.int i=.int j/\P j:=⟨i,rfl,h⟩
def pV (J:It)(g:TG)(tb:TS)(D:Hb)(σ:St)(H1:Hp):Prop:=∃ W:Nat->Nat->St->Hp->Prop,(∃ m,W 0 m σ H1)/\∀ i m σ H,W i m σ H ->
 (J.stop i H/\D.nx σ H)\/(J.go i H/\∃ N:St->Hp->Prop,(∀ σ' H',N σ' H'->∃ m',m'<m/\W (i+1) m' σ' H')/\∀ x H',J.yld i H x H'->g x σ H' fun σ2 H2=>tb { D with nx:=N,ct:=N,bk:=D.nx } σ2 H2)
theorem uY {wi:TI}{g:TG}(h:wi σ H fun J H1=>pV J g t D σ H1):uS wi g t D σ H:=h
theorem sE {R:It->Hp->Prop}(h:tA σ H fun vs H1=>∃ j:Int,vs=[.int j]/\-(2 ^ 62)<=j/\j<2 ^ 62/\R (Itr 0 j.toNat) H1):rE tA σ H R:=h
theorem oB {K:PySem.W.Frag}{R:It->Hp->Prop}(h:te σ H fun x H1=>∃ a,x=.ref a/\(∃ xs,SqL K H1 a xs)/\R (Itl K a) H1):rB K te σ H R:=h
theorem uB {K:PySem.W.Frag}{R:It->Hp->Prop}(h:te σ H fun x H1=>∃ a,x=.ref a/\(∃ xs,SqT K H1 a xs)/\R (Itt K a) H1):uH K te σ H R:=h
theorem xQ {wi:TI}{ix:List Nat}{tc:TT}(h:wi σ H fun J H1=>Ry J H1 (frV σ ix) tc te Q):tLc wi ix tc te σ H Q:=h
theorem Eb {K:PySem.W.Frag}{p:Addr}{xs:List V}{i:Int}{v:V}(hs:SqL K H p xs)(e:atI xs i=some v)(h:Q v H):nL K (.ref p) (.int i) H Q:=⟨p,xs,i,v,rfl,rfl,hs,e,h⟩
theorem L7 {K:PySem.W.Frag}{p:Addr}{xs:List V}{i:Int}{v:V}(hs:SqT K H p xs)(e:atI xs i=some v)(h:Q v H):sF K (.ref p) (.int i) H Q:=⟨p,xs,i,v,rfl,rfl,hs,e,h⟩
theorem Ex {l:Addr}{xs:List V}{y:V}(hl:H l=some (.lst xs))(hz:xs.length<sizeLine)(h:Q .non (upd H l (.lst (xs++[y])))):dF (.ref l) [y] H Q:=⟨l,xs,y,rfl,rfl,hl,hz,h⟩
end
theorem Kh {c:TT}{tb:TS}{D:Hb}{σ:St}{H:Hp}(Pv:St->Hp->Prop)(μ:St->Hp->Nat)(h0:Pv σ H)
  (hs:∀ m σ H,Pv σ H->μ σ H=m->c σ H fun b H1=>if b=true then ∃ N:St->Hp->Prop,(∀ σ' H',N σ' H'->∃ m',m'<m/\(Pv σ' H'/\μ σ' H'=m'))/\tb { D with nx:=N,ct:=N,bk:=D.nx } σ H1 else D.nx σ H1):mQ c tb D σ H :=
 ⟨fun m σ H=>Pv σ H/\μ σ H=m,⟨_,h0,rfl⟩,fun m σ H h=>hs m σ H h.1 h.2⟩
theorem Pn {tb:TS}{rt:VK}{bk:St->Hp->Prop}{σ:St}{H1:Hp}{Pv:St->Hp->Prop}{μ:St->Hp->Nat}{m:Nat}
  (h:tb { nx:=fun σ' H'=>Pv σ' H'/\μ σ' H'<m,rt:=rt,bk:=bk,ct:=fun σ' H'=>Pv σ' H'/\μ σ' H'<m } σ H1) :
  ∃ N:St->Hp->Prop,(∀ σ' H',N σ' H'->∃ m',m'<m/\(Pv σ' H'/\μ σ' H'=m'))/\tb { nx:=N,rt:=rt,bk:=bk,ct:=N } σ H1:=⟨_,fun σ' H' z=>⟨_,z.2,z.1,rfl⟩,h⟩
section
variable {H:Hp} {Q:VK} {g:Int->Int->V} {i j:Int}
theorem W7 (c:0<j)(h:Q (g i j) H):rI (fun _ j=>0<j) g (.int i) (.int j) H Q:=⟨i,j,rfl,rfl,c,h⟩
theorem iS (c:0<=j)(h:Q (g i j) H):rI (fun _ j=>0<=j) g (.int i) (.int j) H Q:=⟨i,j,rfl,rfl,c,h⟩
theorem lS (c1:0<j)(c2:j<1073741824)(h:Q (g i j) H):rI vN g (.int i) (.int j) H Q:=⟨i,j,rfl,rfl,⟨c1,c2⟩,h⟩
theorem mT (c1:-(2 ^ 64)<j)(c2:j<2 ^ 64)(h:Q (g i j) H):rI iU g (.int i) (.int j) H Q:=⟨i,j,rfl,rfl,.inr ⟨c1,c2⟩,h⟩
theorem tZ (c1:-(2 ^ 64)<i)(c2:i<2 ^ 64)(h:Q (g i j) H):rI iU g (.int i) (.int j) H Q:=⟨i,j,rfl,rfl,.inl ⟨c1,c2⟩,h⟩
end
theorem B8 {c A B:Prop}[Decidable c](h1:c->A)(h2:¬ c->B):if decide c=true then A else B:=by
 by_cases h:c
 ·rw [decide_eq_true h,if_pos rfl]
  exact h1 h
 ·rw [decide_eq_false h,if_neg Bool.false_ne_true]
  exact h2 h
theorem wP {c A B:Prop}[Decidable c](h1:¬ c->A)(h2:c->B):if (!decide c)=true then A else B:=by
 by_cases h:c
 ·rw [decide_eq_true h,if_neg (by decide)]
  exact h2 h
 ·rw [decide_eq_false h,if_pos (by decide)]
  exact h1 h
def xG (c:TT)(t u:TS):TS:=fun D σ H=>∃ J:St->Hp->Prop,(∀ σ H,J σ H->D.nx σ H)/\c σ H fun b H1=>if b=true then t { D with nx:=J } σ H1 else u { D with nx:=J } σ H1
theorem Yv {X:Cx}{c:Expr}{a b:List Stmt}{tc:TT}{t u:TS}{pos:Pos}(hc:PT X c tc)(ha:PSs X a t)(hb:PSs X b u):PS X (.If c a b pos) (xG tc t u):=by
 intro pins s σ H D I h
 obtain ⟨J,hJ,h⟩:=h
 refine thn (B4 hc ha hb pins s σ H { D with nx:=J } I h) fun f s' q=>?_
 cases f with
 | next =>
  obtain ⟨σ',H',I',q'⟩:=q
  exact ⟨σ',H',I',hJ _ _ q'⟩
 | brk=>exact q
 | cont=>exact q
 | ret u=>exact q
theorem kM {c:TT}{t u:TS}{D:Hb}{σ:St}{H:Hp}(J:St->Hp->Prop)(h:c σ H fun b H1=>if b=true then t { D with nx:=J } σ H1 else u { D with nx:=J } σ H1)(hJ:∀ σ H,J σ H->D.nx σ H):xG c t u D σ H:=⟨J,hJ,h⟩
def kS (lo st:Int)(n:Nat):It:=⟨fun i _=>i<n,fun i H x H'=>H'=H/\x=.int (lo+i*st),fun i _=>n<=i⟩
def B9 (lo hi st:Int):Nat:=((hi-lo+st-1)/st).toNat
theorem Xg {P:Program}{w:World}{K:PySem.W.Frag}{tg:Expr}(it:Addr)(lo dt:Int)(n:Nat):Ni P w K tg (kS lo dt n) [it] it (fun i h=>IsRangeIter h it (lo+(i:Nat)*dt) ((n:Int)-(i:Nat)) dt) where
 mem:=by simp
 obj:=fun i h st b hb=>by
  have e:b=it:=by simpa using hb
  subst e
  exact ⟨_,st,fun v z=>by
   have z':Data.fields _=Data.cell v:=z
   cases z'⟩
 keep:=fun i h h' st k=>k it (by simp) _ st
 item:=by
  intro X hP hw hK hc i pins s σ H E I hf st hg
  subst hP hw hK
  obtain ⟨f0,f1,f2,f3,f4,f5⟩:=hf it (by simp)
  have W:=Walks.range (prog:=X.prog) (w:=X.w) (I.ok.hd hc) it lo dt n
  refine W.item i s _ _ hg st fun v h' tk hv st' kk=>?_
  obtain ⟨t,rfl⟩:=hv
  have I1:Inv X pins σ H { s with heap:=h',toks:=tk }:=I.turned (fun b o hb e=>kk b o (by simpa using hb) e) f0 f1 f3 f4 f5
  exact ⟨_,rfl,Xh (s:={ s with heap:=h',toks:=tk }) (n:="range_iterator") st' rfl rfl (by decide) ⟨.int _,H,I1,⟨t,rfl⟩,⟨rfl,rfl⟩,st',fun b hb=>(hf b hb).1⟩⟩
 done:=by
  intro X hP hw hK hc i pins s σ H E I hf st hg
  subst hP hw hK
  obtain ⟨f0,f1,f2,f3,f4,f5⟩:=hf it (by simp)
  exact wpAny_pyNext_range_end (I.ok.hd hc) st (by have:n<=i:=hg;omega) fun h' eb=>⟨rfl,I.turned (t':=s.toks) (fun b o hb e=>eb b o hb e) f0 f1 f3 f4 f5⟩
 self:=fun _ _ _ _ _ st h=>wpAny_pyIter_rangeiter st h
theorem Sh {lo hi st:Int}(h:0<st):Builtin.Range.rangeSize lo hi st=(B9 lo hi st:Int):=by
 unfold Builtin.Range.rangeSize B9
 rw [if_pos h]
 by_cases hl:lo<hi
 ·rw [if_pos hl]
  have e:(hi-lo+st-1)/st=(hi-lo-1)/st+1:=by
   rw [show hi-lo+st-1=(hi-lo-1)+st*1 by omega,Int.add_mul_ediv_left _ _ (by omega)]
  rw [e]
  have:0<=(hi-lo-1)/st:=Int.ediv_nonneg (by omega) (by omega)
  omega
 ·rw [if_neg hl]
  have:(hi-lo+st-1)/st<=0:=by
   have:=Int.ediv_le_ediv h (show hi-lo+st-1<=st-1 by omega)
   rw [Int.ediv_eq_zero_of_lt (show 0<=st-1 by omega) (by omega)] at this
   exact this
  omega
theorem Yj {lo hi st:Int}(h:0<st)(h1:-(2 ^ 61)<=lo)(h2:lo<2 ^ 61)(h3:-(2 ^ 61)<=hi)(h4:hi<2 ^ 61)(h5:st<2 ^ 61):Builtin.Range.small lo hi st=true:=by
 unfold Builtin.Range.small
 rw [Sh h]
 have hb:(B9 lo hi st:Int)*st<=hi-lo+st-1\/(B9 lo hi st:Int)=0:=by
  unfold B9
  by_cases hz:0<=(hi-lo+st-1)/st
  ·left
   rw [Int.toNat_of_nonneg hz]
   exact Int.ediv_mul_le _ (by omega)
  ·right
   omega
 have hn:(B9 lo hi st:Int)<=(B9 lo hi st:Int)*st:=by
  have:=Int.mul_le_mul_of_nonneg_left (show (1:Int)<=st by omega) (Int.natCast_nonneg (B9 lo hi st))
  omega
 have hmul:lo+(B9 lo hi st:Int)*st<2 ^ 63/\-(2 ^ 63)<=lo+(B9 lo hi st:Int)*st:=by
  have h0:0<=(B9 lo hi st:Int)*st:=Int.mul_nonneg (Int.natCast_nonneg _) (by omega)
  rcases hb with hb | hb
  ·omega
  ·rw [hb] at h0 ⊢
   omega
 have h0:0<=(B9 lo hi st:Int):=Int.natCast_nonneg _
 have hs:(B9 lo hi st:Int)<2 ^ 63:=by
  rcases hb with hb | hb
  ·omega
  ·omega
 rw [if_pos h]
 simp only [Builtin.Range.rangeFitsLong,Bool.and_eq_true,Bool.or_eq_true,decide_eq_true_eq,beq_iff_eq]
 refine ⟨⟨⟨⟨?_,?_⟩,?_⟩,?_⟩,.inr ?_⟩<;>omega
section
variable {X:Cx} {tg:Expr}
def qX (ta:TA):TI:=fun σ H R=>ta σ H fun vs H1=>∃ i j k:Int,vs=[.int i,.int j,.int k]/\(-(2 ^ 40)<=i/\i<2 ^ 40/\-(2 ^ 40)<=j/\j<2 ^ 40/\0<k/\k<2 ^ 29)/\R (kS i k (B9 i j k)) H1
theorem Nz {a b c:Expr}{ta:TA}{p pos:Pos}(hg:Gl X "range")(hm:X.mg "range"=none)(ha:PA X [a,b,c] ta)(hs:starEach [a,b,c] X.env=[(false,eval a X.env),(false,eval b X.env),(false,eval c X.env)]:=by rfl)
  (hs2:starEach [b,c] X.env=[(false,eval b X.env),(false,eval c X.env)]:=by rfl):PI X tg (.Call (.Name "range" p) [a,b,c] [] pos) (qX ta):=by
 intro pins s σ H R I h
 refine Call_ (G7 I hg hm boot_range (PyProof.Rows.callWith_type1 (thn (ha pos pins s σ H _ I h) fun us s1 ⟨vs,H1,I1,r1,q1⟩=>?_) (by rw [hs,hs2]) (by rw [hs2];rfl)))
 obtain ⟨i,j,k,e,⟨q1,q2,q3,q4,q5,q6⟩,q⟩:=q1
 subst e
 cases r1 with
 | cons r rr =>
  cases rr with
  | cons r' rr =>
   cases rr with
   | cons r'' rr =>
    cases rr
    obtain ⟨t,rfl⟩:=r
    obtain ⟨t',rfl⟩:=r'
    obtain ⟨t'',rfl⟩:=r''
    refine call_range_3 (by omega) ?_ (.inl (PyProof.noPylong_small (by omega)))
    refine wpAny_pyIter_range (IsRange.new ..) (Yj q5 (by omega) (by omega) (by omega) (by omega) (by omega)) ?_
    have I2:Inv X pins σ H1 { s1 with heap:=s1.heap.push { cls:=.type "range",data:=.fields #[.int i t,.int j t',.int k t''] },toks:=s1.toks }:=I1.kept fun b o e=>Heap.get?_push_of_some _ e
    refine ⟨_,[_],_,_,H1,rfl,I2.kept (t':=s1.toks) fun b o e=>Heap.get?_push_of_some _ e,Xg _ i k (B9 i j k),?_,fun b hb=>?_,q⟩
    ·have e1:i+((0:Nat):Int)*k=i:=by simp
     have e2:((B9 i j k:Nat):Int)-((0:Nat):Int)=Builtin.Range.rangeSize i j k:=by rw [Sh q5];simp
     show IsRangeIter _ _ (i+((0:Nat):Int)*k) (((B9 i j k:Nat):Int)-((0:Nat):Int)) k
     rw [e1,e2]
     exact Heap.get?_push_size _ rfl
    ·have e:=List.mem_singleton.mp hb
     subst e
     exact I2.fpOk (Nat.le_refl _) (I2.hok.fresh (Nat.le_refl _))
end
theorem Yp {lo st:Int}{n:Nat}{H1:Hp}{fr:St}{tc:TT}{te:TE}{Q:VK}(acc:Nat->List V)(h0:acc 0=[])(hz:∀ i,i<n->(acc i).length<sizeLine)
  (turn:∀ (i:Nat) H (R:Hp->Prop) (A:VK),i<n->Ak H1 H->(acc (i+1)=acc i->∀ H',Ak H H'->R H')->(∀ y H',acc (i+1)=acc i++[y]->Ak H H'->A y H') ->
   tc (some (.int (lo+i*st))::fr) H fun b H3=>if b=true then te (some (.int (lo+i*st))::fr) H3 A else R H3)
  (fin:∀ D H,H1 D=none->Ak H1 H->H D=some (.lst (acc n))->Q (.ref D) H):Ry (kS lo st n) H1 fr tc te Q :=
 O6 n (fun i=>.int (lo+i*st)) acc h0 hz (fun i H hi _=>hi) (fun i H x H' _ _ h=>⟨h.2,h.1⟩) (fun H _=>Nat.le_refl n) turn fin
def Its (z:Str):It:=⟨fun i _=>i<z.cps.size,fun i H x H'=>H'=H/\∃ c,z.cps[i]?=some c/\x=.str (sgn c),fun i _=>z.cps.size<=i⟩
section
variable {X:Cx} {tg:Expr}
def vS (tl:TE):TI:=fun σ H R=>tl σ H fun x H1=>∃ z,x=.str z/\R (Its z) H1
theorem lU {P:Program}{w:World}{K:PySem.W.Frag}{tg:Expr}{it:Addr}{z:Str}{ty:String}{t:Tok}(hty:ty="str_ascii_iterator"\/ty="str_iterator")
  (W:∀ A':Around,A'.handled=none->Walks P w A' it [it] [it] z.cps.size (SignAt z) (fun i h=>h.IsStrIter it ty z t i))
  (hself:∀ (A:Around) (i:Nat) (s:Shared) (Q:Value->Shared->Prop) (E:Value->Shared->Prop),s.heap.IsStrIter it ty z t i->Q (.ref it) s->wpAny (model P w) A (pyIter (.ref it)) Q E s):Ni P w K tg (Its z) [it] it (fun i h=>h.IsStrIter it ty z t i) where
 mem:=by simp
 obj:=fun i h st b hb=>by
  have e:b=it:=by simpa using hb
  subst e
  obtain ⟨o,e,c,d⟩:=st
  exact ⟨o,e,fun v z=>by rw [d] at z;cases z⟩
 keep:=fun i h h' st k=>let ⟨o,ho,r⟩:=st;⟨o,k it (by simp) o ho,r⟩
 item:=by
  intro X hP hw hK hc i pins s σ H E I hf st hg
  subst hP hw hK
  obtain ⟨f0,f1,f2,f3,f4,f5⟩:=hf it (by simp)
  refine (W X.A (I.ok.hd hc)).item i s _ _ hg st fun v h' tk hv st' kk=>?_
  obtain ⟨c,u,hc',rfl⟩:=hv
  have I1:Inv X pins σ H { s with heap:=h',toks:=tk }:=I.turned (fun b o hb e=>kk b o (by simpa using hb) e) f0 f1 f3 f4 f5
  obtain ⟨o,e,cc,d⟩:=id st'
  exact ⟨_,rfl,Xh (s:={ s with heap:=h',toks:=tk }) e cc d (by rcases hty with rfl | rfl<;>decide) ⟨.str (sgn c),H,I1,⟨u,rfl⟩,⟨rfl,c,hc',rfl⟩,st',fun b hb=>(hf b hb).1⟩⟩
 done:=by
  intro X hP hw hK hc i pins s σ H E I hf st hg
  subst hP hw hK
  obtain ⟨f0,f1,f2,f3,f4,f5⟩:=hf it (by simp)
  rcases hty with rfl | rfl
  ·exact wpAny_pyNext_ascii_end (I.ok.hd hc) st (Array.getElem?_eq_none hg) fun h' eb=>⟨rfl,I.turned (t':=s.toks) (fun b o hb e=>eb b o hb e) f0 f1 f3 f4 f5⟩
  ·exact wpAny_pyNext_wide_end (I.ok.hd hc) st (Array.getElem?_eq_none hg) fun h' eb=>⟨rfl,I.turned (t':=s.toks) (fun b o hb e=>eb b o hb e) f0 f1 f3 f4 f5⟩
 self:=fun A i s Q E st h=>hself A i s Q E st h
theorem tI {l:Expr}{tl:TE}(hl:PE X l tl):PI X tg l (vS tl):=by
 intro pins s σ H R I h
 refine thn (hl pins s σ H _ I h) fun v s1 ⟨x,H1,I1,r1,q1⟩=>?_
 obtain ⟨z,e,q⟩:=q1
 subst e
 obtain ⟨t,rfl⟩:=r1
 have fin:∀ (o:Obj) (ty:String),(ty="str_ascii_iterator"\/ty="str_iterator")->(∀ A':Around,A'.handled=none->Walks X.prog X.w A' s1.heap.objs.size [s1.heap.objs.size] [s1.heap.objs.size] z.cps.size (SignAt z) (fun i h=>h.IsStrIter s1.heap.objs.size ty z t i)) ->
   (∀ (A:Around) (i:Nat) (s:Shared) (Q:Value->Shared->Prop) (E:Value->Shared->Prop),s.heap.IsStrIter s1.heap.objs.size ty z t i->Q (.ref s1.heap.objs.size) s->wpAny (model X.prog X.w) A (pyIter (.ref s1.heap.objs.size)) Q E s) ->
   (s1.heap.push o).IsStrIter s1.heap.objs.size ty z t 0->PIE X pins σ tg R (.ref s1.heap.objs.size) { s1 with heap:=s1.heap.push o }:=fun o ty hty W hs h0=>by
  refine ⟨s1.heap.objs.size,[s1.heap.objs.size],_,_,H1,rfl,I1.kept (t':=s1.toks) fun b o e=>Heap.get?_push_of_some _ e,lU hty W hs,h0,fun b hb=>?_,q⟩
  have e:b=s1.heap.objs.size:=by simpa using hb
  subst e
  exact I1.fpOk (Nat.le_refl _) (I1.hok.fresh (Nat.le_refl _))
 cases ha:z.cps.all (· < 128)
 ·exact wpAny_pyIter_wide ha (fin _ _ (.inr rfl) (fun A' hA=>Walks.strWide hA _ z t) (fun A i s Q E st h=>wpAny_pyIter_striter_wide st h) ⟨_,Heap.get?_push_size _ rfl,rfl,rfl⟩)
 ·exact wpAny_pyIter_ascii ha (fin _ _ (.inl rfl) (fun A' hA=>Walks.strAscii hA _ z t) (fun A i s Q E st h=>wpAny_pyIter_striter_ascii st h) ⟨_,Heap.get?_push_size _ rfl,rfl,rfl⟩)
end
theorem sA {tl:TE}{σ:St}{H:Hp}{R:It->Hp->Prop}(h:tl σ H fun x H1=>∃ z,x=.str z/\R (Its z) H1):vS tl σ H R:=h
theorem uF {tA:TA}{σ:St}{H:Hp}{R:It->Hp->Prop}(h:tA σ H fun vs H1=>∃ i j k:Int,vs=[.int i,.int j,.int k]/\(-(2 ^ 40)<=i/\i<2 ^ 40/\-(2 ^ 40)<=j/\j<2 ^ 40/\0<k/\k<2 ^ 29)/\R (kS i k (B9 i j k)) H1):qX tA σ H R:=h
def Vw (z:Str)(lo hi:Option Int):Str:=⟨((z.cps.toList.drop (HT.sIx z.cps.size 0 lo)).take (HT.sIx z.cps.size z.cps.size hi-HT.sIx z.cps.size 0 lo)).toArray⟩
def uU:V->Option Int->Option Int->Hp->VK->Prop:=fun x lo hi H Q=>∃ z,x=.str z/\z.length<=sizeLine/\Q (.str (Vw z lo hi)) H
theorem uO (lo hi:Option Int)(n:Nat):Builtin.Str.strSliceIndices lo hi 1 n=(List.range (HT.sIx n n hi-HT.sIx n 0 lo)).map (HT.sIx n 0 lo + ·):=by
 have e:Builtin.Str.strSliceIndices lo hi 1 n=sliceRange ((HT.sIx n 0 lo:Nat):Int) ((HT.sIx n n hi:Nat):Int) 1:=by
  unfold Builtin.Str.strSliceIndices
  dsimp only
  congr 1
  ·cases lo with
   | none=>simp [HT.sIx]
   | some i =>
    simp only [HT.sIx,show (1:Int)>0 by decide,if_true]
    by_cases h:i<0
    ·simp only [h,if_true]
     omega
    ·simp only [h,if_false]
     omega
  ·cases hi with
   | none=>simp [HT.sIx]
   | some i =>
    simp only [HT.sIx,show (1:Int)>0 by decide,if_true]
    by_cases h:i<0
    ·simp only [h,if_true]
     omega
    ·simp only [h,if_false]
     omega
 rw [e,sliceRange_one]
theorem nH (z:Str)(t:Tok)(l u:Option (Int×Tok)):(sliceMade z t l u none=.val (.str z t)/\Vw z (l.map (·.1)) (u.map (·.1))=z)\/sliceMade z t l u none=.str (Vw z (l.map (·.1)) (u.map (·.1))):=by
 have hp:slicePicked z l u none=(List.range (HT.sIx z.length z.length (u.map (·.1))-HT.sIx z.length 0 (l.map (·.1)))).map (HT.sIx z.length 0 (l.map (·.1)) + ·):=uO _ _ _
 have hc:(slicePicked z l u none).filterMap (z.cps[·]?)=(Vw z (l.map (·.1)) (u.map (·.1))).cps.toList:=by
  rw [hp,pick_run]
  rfl
 unfold sliceMade
 split
 ·rename_i hw
  left
  refine ⟨rfl,G1 ?_⟩
  have hlen:(slicePicked z l u none).length=z.length:=by simpa using hw
  rw [hp,List.length_map,List.length_range] at hlen
  have h1:=HT.sIx_le z.length 0 (Nat.zero_le _) (l.map (·.1))
  have h2:=HT.sIx_le z.length z.length (Nat.le_refl _) (u.map (·.1))
  have e1:HT.sIx z.length 0 (l.map (·.1))=0\/z.length=0:=by omega
  show ((z.cps.toList.drop (HT.sIx z.cps.size 0 (l.map (·.1)))).take _).toArray.toList=_
  rw [show z.cps.size=z.length from rfl] at *
  rcases e1 with e1 | e1
  ·rw [e1,Nat.sub_zero] at hlen
   rw [e1,hlen,Nat.sub_zero,List.drop_zero,List.toList_toArray]
   exact List.take_of_length_le (by simp [Str.length])
  ·have:z.cps.toList=[]:=by
    have:z.cps.size=0:=e1
    simpa using this
   rw [this]
   simp
 ·right
  rw [hc]
section
variable {X:Cx}
theorem Wk:SlR X uU:=by
 intro pins s σ H x v vl vu lo hi sl Q I rx hs pl pu h
 obtain ⟨z,rfl,hz,q⟩:=h
 obtain ⟨t,rfl⟩:=rx
 refine ⟨"str",_,PySem.F.slot_str_getitem.lookup,typeIs_str _ _ _,?_⟩
 obtain ⟨l,el,el'⟩:∃ l:Option (Int×Tok),vl=partValue l/\lo=l.map (·.1):=by
  cases pl with
  | none=>exact ⟨none,rfl,rfl⟩
  | int i t=>exact ⟨some (i,t),rfl,rfl⟩
 obtain ⟨u,eu,eu'⟩:∃ u:Option (Int×Tok),vu=partValue u/\hi=u.map (·.1):=by
  cases pu with
  | none=>exact ⟨none,rfl,rfl⟩
  | int i t=>exact ⟨some (i,t),rfl,rfl⟩
 subst el el' eu eu'
 refine wpAny_getItem_str_slice (l:=l) (u:=u) (st:=none) hs rfl ?_
 rcases nH z t l u with ⟨e,e2⟩ | e
 ·rw [e]
  rw [e2] at q
  exact ⟨.str z,H,I,⟨t,rfl⟩,q⟩
 ·rw [e]
  refine ⟨?_,.str _,H,I.tok _,⟨_,rfl⟩,q⟩
  refine Nat.le_trans ?_ hz
  show (List.take _ (List.drop _ z.cps.toList)).toArray.size<=z.cps.size
  rw [List.size_toArray,List.length_take,List.length_drop]
  simp
  omega
def Sy (z:Str):Str:=⟨z.cps.toList.reverse.toArray⟩
def wM (te:TE):TE:=fun σ H Q=>te σ H fun x H1=>∃ z,x=.str z/\z.length<=sizeLine/\Q (.str (Sy z)) H1
end
theorem wJ:bootBuiltins "zip"=some (.type "zip"):=by decide +kernel
theorem N4:bootBuiltins "enumerate"=some (.type "enumerate"):=by decide +kernel
theorem Inv.turnT {X:Cx}{pins:List (Addr×Obj)}{σ:List (Option V)}{H:Hp}{s:Shared}{h':Heap}{t':Nat}{wr:List Addr}{T:Addr}{xs:List V}{us:List Value}(I:Inv X pins σ H s)
  (k:∀ b o,b∉wr->s.heap.get? b=some o->h'.get? b=some o)(hf:∀ b∈wr,Ma X pins H b)(hT:s.heap.objs.size<=T)(hI:h'.IsTuple T us.toArray)(rv:A0 xs us)(hz:xs.length<=sizeLine) :
  Inv X pins σ (upd H T (.tup xs)) { s with heap:=h',toks:=t' }:=by
 have hn:H T=none:=I.hok.fresh hT
 have nT:∀ b u,H b=some u->b≠T:=fun b u e=>Aq e hn
 have nW:∀ b u,H b=some u->b∉wr:=fun b u e z=>by rw [(hf b z).1] at e;cases e
 refine I.step (g':=s.gens) (d':=s.drawn) (ch:=wr) (fun b hb=>?_) (fun b o _ _ hc e _=>k b o hc e) (fun b o _ _ hc e _=>⟨o.slots,k b o hc e⟩) (fun b o hc e n=>?_)
  (fun b o hc e=>⟨o,k b o hc e⟩) (fun b xs e=>by rw [Al (nT _ _ e)];exact e) (fun b o u e=>by rw [Al (nT _ _ e)];exact e) (fun b ps e=>⟨#[],by rw [Al (nT _ _ e),e];simp⟩) (fun m hm=>?_) (fun b u e=>?_) I.bare
 ·obtain ⟨_,f1,_,f3,f4,f5⟩:=hf b hb
  exact ⟨f3,f1,f4,f5⟩
 ·rw [Al (Nat.ne_of_lt (Nat.lt_of_lt_of_le (Heap.lt_size e) hT))]
  exact n
 ·obtain ⟨o,es,ep,ho,r⟩:=hm
  exact ⟨o,es,ep,k _ o (fun z=>(hf _ z).2.1 rfl) ho,r⟩
 ·by_cases hb:b=T
  ·subst hb
   rw [Ac] at e
   cases e
   exact ⟨hz,us,rv,hI⟩
  ·rw [Al hb] at e
   refine (I.hok b u e).stay (fun c v hc q=>k c v ?_ q) (fun c q=>by rw [Al (nT _ _ q)];exact q) fun c ys q=>by rw [Al (nT _ _ q)];exact q
   rcases hc with z | z
   ·rw [z];exact nW b u e
   ·exact nW c _ z
theorem Inv.turnW {X:Cx}{pins:List (Addr×Obj)}{σ:List (Option V)}{H:Hp}{s:Shared}{h':Heap}{t':Nat}{wr:List Addr}(I:Inv X pins σ H s)
  (k:∀ b o,b∉wr->s.heap.get? b=some o->h'.get? b=some o)(hf:∀ b∈wr,Ma X pins H b):Inv X pins σ H { s with heap:=h',toks:=t' }:=by
 have nW:∀ b u,H b=some u->b∉wr:=fun b u e z=>by rw [(hf b z).1] at e;cases e
 refine I.step (g':=s.gens) (d':=s.drawn) (ch:=wr) (fun b hb=>?_) (fun b o _ _ hc e _=>k b o hc e) (fun b o _ _ hc e _=>⟨o.slots,k b o hc e⟩) (fun b o hc e n=>n)
  (fun b o hc e=>⟨o,k b o hc e⟩) (fun _ _ e=>e) (fun _ _ _ e=>e) (fun b ps e=>⟨#[],by rw [e];simp⟩) (fun m hm=>?_) (fun b u e=>?_) I.bare
 ·obtain ⟨_,f1,_,f3,f4,f5⟩:=hf b hb
  exact ⟨f3,f1,f4,f5⟩
 ·obtain ⟨o,es,ep,ho,r⟩:=hm
  exact ⟨o,es,ep,k _ o (fun z=>(hf _ z).2.1 rfl) ho,r⟩
 ·refine (I.hok b u e).stay (fun c v hc q=>k c v ?_ q) (fun _ q=>q) fun _ _ q=>q
  rcases hc with z | z
  ·rw [z];exact nW b u e
  ·exact nW c _ z
theorem Fq {h:Heap}{a b:Addr}{o u:Obj}(h1:h.get? a=some o)(h2:h.get? b=some u)(d:o.cls≠u.cls):a≠b:=fun e=>by
 subst e
 rw [h1] at h2
 cases h2
 exact d rfl
def Itz (K:PySem.W.Frag)(a b:Addr):It :=
 ⟨fun i H=>∃ xs ys x y,SqL K H a xs/\SqL K H b ys/\xs[i]?=some x/\ys[i]?=some y,
  fun i H v H'=>∃ t x y,H t=none/\v=.ref t/\(∀ xs,SqL K H a xs->xs[i]?=some x)/\(∀ ys,SqL K H b ys->ys[i]?=some y)/\H'=upd H t (.tup [x,y]),
  fun i H=>∃ xs ys,SqL K H a xs/\SqL K H b ys/\i=min xs.length ys.length⟩
def StZ (z TI TO i1 i2 l1 l2:Addr)(i:Nat)(h:Heap):Prop:=IsZip h z TI TO .none/\IsPair h TI (.ref i1) (.ref i2)/\(∃ a b,IsPair h TO a b)/\h.IsListIter i1 l1 i/\h.IsListIter i2 l2 i
structure Zm (z TI TO i1 i2:Addr):Prop where
 TIz:TI≠z
 TOz:TO≠z
 i1z:i1≠z
 i2z:i2≠z
 TITO:TI≠TO
 TIi1:TI≠i1
 TIi2:TI≠i2
 TOi1:TO≠i1
 TOi2:TO≠i2
 i12:i1≠i2
theorem lY {h:Heap}{z TI TO i1 i2 a b:Addr}{i:Nat}{xs ys:Array Value}(D:Zm z TI TO i1 i2)(st:StZ z TI TO i1 i2 a b i h)(ha:h.IsList a xs)(hb:h.IsList b ys):ZipApart z TI TO i1 i2 a b:=by
 obtain ⟨hz,hTI,⟨u,v,hTO⟩,⟨o1,e1,c1,_⟩,⟨o2,e2,c2,_⟩⟩:=st
 obtain ⟨oa,ea,ca,_⟩:=ha
 obtain ⟨ob,eb,cb,_⟩:=hb
 refine ⟨D.TIz,D.TOz,D.i1z,D.i2z,D.TITO,D.TIi1,D.TIi2,D.TOi1,D.TOi2,D.i12,Fq ea hz ?_,Fq ea hTO ?_,Fq ea e1 ?_,Fq ea e2 ?_,Fq eb hz ?_,Fq eb hTO ?_,Fq eb e1 ?_,Fq eb e2 ?_⟩
 ·rw [ca];exact show Value.type "list"≠Value.type "zip" by decide
 ·rw [ca];exact show Value.type "list"≠Value.type "tuple" by decide
 ·rw [ca,c1];decide
 ·rw [ca,c2];decide
 ·rw [cb];exact show Value.type "list"≠Value.type "zip" by decide
 ·rw [cb];exact show Value.type "list"≠Value.type "tuple" by decide
 ·rw [cb,c1];decide
 ·rw [cb,c2];decide
theorem Zc (n:Nat):Zm (n+4) (n+2) (n+3) n (n+1):=by
 constructor<;>(intro h;have h:(_:Nat)=_:=h;omega)
theorem xI {n c:Nat}(h:c=n+4\/c=n+2\/c=n+3\/c=n\/c=n+1):n<=c:=by omega
theorem qT {n c:Nat}(h:c=n+1\/c=n):n<=c:=by omega
theorem rA (n:Nat):n+1≠n:=by omega
theorem jI {P:Program}{w:World}{K:PySem.W.Frag}{elts:List Expr}{k:Nat}{pos:Pos}(z TI TO i1 i2 a b:Addr)(D:Zm z TI TO i1 i2) :
  Ni P w K (.Tuple elts k pos) (Itz K a b) [z,TI,TO,i1,i2] z (StZ z TI TO i1 i2 a b) where
 mem:=by simp
 obj:=fun i h st c hc=>by
  obtain ⟨hz,hTI,⟨u,v,hTO⟩,⟨o1,e1,c1,d1⟩,⟨o2,e2,c2,d2⟩⟩:=st
  simp only [List.mem_cons,List.not_mem_nil,or_false] at hc
  rcases hc with rfl | rfl | rfl | rfl | rfl
  ·exact ⟨_,hz,fun v z=>by cases z⟩
  ·exact ⟨_,hTI,fun v z=>by cases z⟩
  ·exact ⟨_,hTO,fun v z=>by cases z⟩
  ·exact ⟨_,e1,fun v z=>by rw [d1] at z;cases z⟩
  ·exact ⟨_,e2,fun v z=>by rw [d2] at z;cases z⟩
 keep:=fun i h h' st kk=>by
  obtain ⟨hz,hTI,⟨u,v,hTO⟩,h1,h2⟩:=st
  exact ⟨kk _ (by simp) _ hz,kk _ (by simp) _ hTI,⟨u,v,kk _ (by simp) _ hTO⟩,h1.at fun o e=>kk _ (by simp) o e,h2.at fun o e=>kk _ (by simp) o e⟩
 item:=by
  intro X hP hw hK hc i pins s σ H E I hf st hg
  subst hP hw hK
  obtain ⟨xs,ys,x,y,ha,hb,hx,hy⟩:=hg
  obtain ⟨its,rv,p,hz⟩:=I.list ha
  obtain ⟨its2,rv2,p2,hz2⟩:=I.list hb
  have W:=WalksT.zip2 (prog:=X.prog) (w:=X.w) (A:=X.A) (I.ok.hd hc) z TI TO i1 i2 a b (lY D st p.isList p2.isList) its.toArray its2.toArray
  obtain ⟨u1,hu1,ru1⟩:=rv.get hx
  obtain ⟨u2,hu2,ru2⟩:=rv2.get hy
  have l1:=(List.getElem?_eq_some_iff.mp hu1).1
  have l2:=(List.getElem?_eq_some_iff.mp hu2).1
  obtain ⟨s1,s2,s3,s4,s5⟩:=id st
  refine W.item i s _ _ (by simp;omega) ⟨s1,s2,s3,s4,s5,p.isList,p2.isList⟩ fun T vals h' tk hv hT hTu mid kk=>?_
  obtain ⟨v1,v2,e1,e2,rfl⟩:=hv
  have e1:v1=u1:=by have:=e1;simp only [List.getElem?_toArray] at this;rw [hu1] at this;exact (Option.some.inj this).symm
  have e2:v2=u2:=by have:=e2;simp only [List.getElem?_toArray] at this;rw [hu2] at this;exact (Option.some.inj this).symm
  subst e1 e2
  have nT:=W.apart i T h' mid
  refine ⟨.ref T,rfl,W.go elts k pos i T { s with heap:=h',toks:=tk } _ _ mid fun h'' st'' kk2=>?_⟩
  have hTu2:h''.IsTuple T ([v1,v2]:List Value).toArray:=by
   obtain ⟨o,e,r⟩:=hTu
   exact ⟨o,kk2 T o nT e,r⟩
  have I2:Inv X pins σ (upd H T (.tup [x,y])) { s with heap:=h'',toks:=tk }:=I.turnT (t':=tk) (fun b o hb e=>kk2 b o hb (kk b o hb e)) (fun b hb=>hf b (by simp at hb ⊢;rcases hb with rfl | rfl | rfl | rfl<;>simp)) hT hTu2 (.cons ru1 (.cons ru2 .nil)) (show 2<=sizeLine by decide)
  refine ⟨.ref T,_,I2,rfl,⟨T,x,y,I.hok.fresh hT,rfl,fun xs' h=>by rw [I.list_inj h ha];exact hx,fun ys' h=>by rw [I.list_inj h hb];exact hy,rfl⟩,⟨st''.1,st''.2.1,st''.2.2.1,st''.2.2.2.1,st''.2.2.2.2.1⟩,fun c hc'=>?_⟩
  have hlt:c<s.heap.objs.size:=by
   obtain ⟨q,⟨t1,t2,t3⟩⟩:c∈[z,TI,TO,i1,i2]/\(IsZip s.heap z TI TO .none/\IsPair s.heap TI (.ref i1) (.ref i2)/\True):=⟨hc',s1,s2,trivial⟩
   obtain ⟨u,v,s3⟩:=s3
   obtain ⟨o4,s4,_⟩:=s4
   obtain ⟨o5,s5,_⟩:=s5
   simp only [List.mem_cons,List.not_mem_nil,or_false] at hc'
   rcases hc' with rfl | rfl | rfl | rfl | rfl
   ·exact Heap.lt_size s1
   ·exact Heap.lt_size s2
   ·exact Heap.lt_size s3
   ·exact Heap.lt_size s4
   ·exact Heap.lt_size s5
  rw [Al (Nat.ne_of_lt (Nat.lt_of_lt_of_le hlt hT))]
  exact (hf c hc').1
 done:=by
  intro X hP hw hK hc i pins s σ H E I hf st hg
  subst hP hw hK
  obtain ⟨xs,ys,ha,hb,hi⟩:=hg
  obtain ⟨its,rv,p,hz⟩:=I.list ha
  obtain ⟨its2,rv2,p2,hz2⟩:=I.list hb
  have W:=WalksT.zip2 (prog:=X.prog) (w:=X.w) (A:=X.A) (I.ok.hd hc) z TI TO i1 i2 a b (lY D st p.isList p2.isList) its.toArray its2.toArray
  have hl:=rv.length
  have hl2:=rv2.length
  have hi2:i=min its.toArray.size its2.toArray.size:=by rw [hi,hl,hl2];simp
  obtain ⟨s1,s2,s3,s4,s5⟩:=id st
  refine W.done s _ _ (by rw [<- hi2];exact ⟨s1,s2,s3,s4,s5,p.isList,p2.isList⟩) fun h' tk kk=>⟨rfl,?_⟩
  exact I.turnW (t':=tk) kk fun b hb=>hf b (by simp at hb ⊢;rcases hb with rfl | rfl | rfl | rfl<;>simp)
 self:=fun _ _ _ _ _ st h=>wpAny_pyIter_zip st.1 h
section
variable {X:Cx} {elts:List Expr} {k:Nat} {tpos:Pos}
def uZ (K:PySem.W.Frag)(ta:TA):TI:=fun σ H R=>ta σ H fun vs H1=>∃ a b,vs=[.ref a,.ref b]/\(∃ xs,SqL K H1 a xs)/\(∃ ys,SqL K H1 b ys)/\R (Itz K a b) H1
theorem mR {a b:Expr}{ta:TA}{p pos:Pos}(hg:Gl X "zip")(hm:X.mg "zip"=none)(ha:PA X [a,b] ta)(hs:starEach [a,b] X.env=[(false,eval a X.env),(false,eval b X.env)]:=by rfl)(hs2:starEach [b] X.env=[(false,eval b X.env)]:=by rfl) :
  PI X (.Tuple elts k tpos) (.Call (.Name "zip" p) [a,b] [] pos) (uZ X.K ta):=by
 intro pins s σ H R I h
 refine Call_ (G7 I hg hm wJ (PyProof.Rows.callWith_type1 (thn (ha pos pins s σ H _ I h) fun us s1 ⟨vs,H1,I1,r1,q1⟩=>?_) (by rw [hs,hs2]) (by rw [hs2];rfl)))
 obtain ⟨a,b,e,⟨xs,hx⟩,⟨ys,hy⟩,q⟩:=q1
 subst e
 obtain ⟨u,v,rfl,ru,rv⟩:=Mc r1
 cases ru
 cases rv
 obtain ⟨its,rv,p,hz⟩:=I1.list hx
 obtain ⟨its2,rv2,p2,hz2⟩:=I1.list hy
 refine call_zip_2 p.isList p2.isList fun h' g1 g2 g3 g4 g5 hsz kk=>?_
 refine wpAny_pyIter_zip (s:={ s1 with heap:=h' }) g1 ?_
 refine ⟨s1.heap.objs.size+4,[s1.heap.objs.size+4,s1.heap.objs.size+2,s1.heap.objs.size+3,s1.heap.objs.size,s1.heap.objs.size+1],_,_,H1,rfl,I1.kept (t':=s1.toks) kk,
  jI _ _ _ _ _ a b (Zc _),⟨g1,g2,⟨_,_,g3⟩,g4,g5⟩,fun c hc=>?_,q⟩
 have hle:s1.heap.objs.size<=c:=by
  simp only [List.mem_cons,List.not_mem_nil,or_false] at hc
  exact xI hc
 exact I1.fpOk hle (I1.hok.fresh hle)
end
def Ite (K:PySem.W.Frag)(a:Addr):It :=
 ⟨fun i H=>∃ xs x,SqL K H a xs/\xs[i]?=some x,
  fun i H v H'=>∃ t x,H t=none/\v=.ref t/\(∀ xs,SqL K H a xs->xs[i]?=some x)/\H'=upd H t (.tup [.int i,x]),
  fun i H=>∃ xs,SqL K H a xs/\i=xs.length⟩
def StE (e it l:Addr)(i:Nat)(h:Heap):Prop:=(∃ old,IsEnum h e it i old)/\h.IsListIter it l i
theorem gO {P:Program}{w:World}{K:PySem.W.Frag}{elts:List Expr}{k:Nat}{pos:Pos}(e it a:Addr)(D:e≠it) :
  Ni P w K (.Tuple elts k pos) (Ite K a) [e,it] e (StE e it a) where
 mem:=by simp
 obj:=fun i h st c hc=>by
  obtain ⟨⟨old,he⟩,⟨o1,e1,c1,d1⟩⟩:=st
  simp only [List.mem_cons,List.not_mem_nil,or_false] at hc
  rcases hc with rfl | rfl
  ·exact ⟨_,he,fun v z=>by cases z⟩
  ·exact ⟨_,e1,fun v z=>by rw [d1] at z;cases z⟩
 keep:=fun i h h' st kk=>by
  obtain ⟨⟨old,he⟩,h1⟩:=st
  exact ⟨⟨old,kk _ (by simp) _ he⟩,h1.at fun o e=>kk _ (by simp) o e⟩
 item:=by
  intro X hP hw hK hc i pins s σ H E I hf st hg
  subst hP hw hK
  obtain ⟨xs,x,ha,hx⟩:=hg
  obtain ⟨its,rv,p,hz⟩:=I.list ha
  obtain ⟨⟨old,s1⟩,s2⟩:=id st
  have n1:a≠e:=by obtain ⟨oa,ea,ca,_⟩:=p.isList;exact Fq ea s1 (by rw [ca];exact show Value.type "list"≠Value.type "enumerate" by decide)
  have n2:a≠it:=by obtain ⟨oa,ea,ca,_⟩:=p.isList;obtain ⟨o1,e1,c1,_⟩:=s2;exact Fq ea e1 (by rw [ca,c1];decide)
  have W:=WalksT.enumerate (prog:=X.prog) (w:=X.w) (A:=X.A) (I.ok.hd hc) e it a D n1 n2 its.toArray
  obtain ⟨u1,hu1,ru1⟩:=rv.get hx
  have l1:=(List.getElem?_eq_some_iff.mp hu1).1
  refine W.item i s _ _ (by simpa using l1) ⟨⟨old,s1⟩,s2,p.isList⟩ fun T vals h' tk hv hT hTu mid kk=>?_
  obtain ⟨t,v1,e1,rfl⟩:=hv
  have e1:v1=u1:=by have:=e1;simp only [List.getElem?_toArray] at this;rw [hu1] at this;exact (Option.some.inj this).symm
  subst e1
  have nT:=W.apart i T h' mid
  refine ⟨.ref T,rfl,W.go elts k pos i T { s with heap:=h',toks:=tk } _ _ mid fun h'' st'' kk2=>?_⟩
  have hTu2:h''.IsTuple T ([Value.int (i:Int) t,v1]:List Value).toArray:=by
   obtain ⟨o,e,r⟩:=hTu
   exact ⟨o,kk2 T o nT e,r⟩
  have I2:Inv X pins σ (upd H T (.tup [.int i,x])) { s with heap:=h'',toks:=tk }:=I.turnT (t':=tk) (fun b o hb e=>kk2 b o hb (kk b o hb e)) (fun b hb=>hf b hb) hT hTu2 (.cons ⟨t,rfl⟩ (.cons ru1 .nil)) (show 2<=sizeLine by decide)
  refine ⟨.ref T,_,I2,rfl,⟨T,x,I.hok.fresh hT,rfl,fun xs' h=>by rw [I.list_inj h ha];exact hx,rfl⟩,⟨?_,st''.2.1⟩,fun c hc'=>?_⟩
  ·exact st''.1
  have hlt:c<s.heap.objs.size:=by
   obtain ⟨o5,s5,_⟩:=s2
   simp only [List.mem_cons,List.not_mem_nil,or_false] at hc'
   rcases hc' with rfl | rfl
   ·exact Heap.lt_size s1
   ·exact Heap.lt_size s5
  rw [Al (Nat.ne_of_lt (Nat.lt_of_lt_of_le hlt hT))]
  exact (hf c hc').1
 done:=by
  intro X hP hw hK hc i pins s σ H E I hf st hg
  subst hP hw hK
  obtain ⟨xs,ha,hi⟩:=hg
  obtain ⟨its,rv,p,hz⟩:=I.list ha
  obtain ⟨⟨old,s1⟩,s2⟩:=id st
  have n1:a≠e:=by obtain ⟨oa,ea,ca,_⟩:=p.isList;exact Fq ea s1 (by rw [ca];exact show Value.type "list"≠Value.type "enumerate" by decide)
  have n2:a≠it:=by obtain ⟨oa,ea,ca,_⟩:=p.isList;obtain ⟨o1,e1,c1,_⟩:=s2;exact Fq ea e1 (by rw [ca,c1];decide)
  have W:=WalksT.enumerate (prog:=X.prog) (w:=X.w) (A:=X.A) (I.ok.hd hc) e it a D n1 n2 its.toArray
  have hl:=rv.length
  have hi2:i=its.toArray.size:=by rw [hi,hl];simp
  refine W.done s _ _ (by rw [<- hi2];exact ⟨⟨old,s1⟩,s2,p.isList⟩) fun h' tk kk=>⟨rfl,?_⟩
  exact I.turnW (t':=tk) kk fun b hb=>hf b hb
 self:=fun _ _ _ _ _ st h=>wpAny_pyIter_enum (Classical.choose_spec st.1) h
section
variable {X:Cx} {elts:List Expr} {k:Nat} {tpos:Pos}
def qJ (K:PySem.W.Frag)(ta:TA):TI:=fun σ H R=>ta σ H fun vs H1=>∃ a,vs=[.ref a]/\(∃ xs,SqL K H1 a xs)/\R (Ite K a) H1
theorem Pg {a:Expr}{ta:TA}{p pos:Pos}(hg:Gl X "enumerate")(hm:X.mg "enumerate"=none)(ha:PA X [a] ta)(hs:starEach [a] X.env=[(false,eval a X.env)]:=by rfl) :
  PI X (.Tuple elts k tpos) (.Call (.Name "enumerate" p) [a] [] pos) (qJ X.K ta):=by
 intro pins s σ H R I h
 refine Call_ (G7 I hg hm N4 (PyProof.Rows.callWith_type1 (thn (ha pos pins s σ H _ I h) fun us s1 ⟨vs,H1,I1,r1,q1⟩=>?_) hs rfl))
 obtain ⟨a,e,⟨xs,hx⟩,q⟩:=q1
 subst e
 obtain ⟨u,rfl,ru⟩:=Gg r1
 cases ru
 obtain ⟨its,rv,p,hz⟩:=I1.list hx
 refine call_enumerate_list p.isList fun h' g1 g2 hsz kk=>?_
 refine wpAny_pyIter_enum (s:={ s1 with heap:=h' }) g1 ?_
 refine ⟨s1.heap.objs.size+1,[s1.heap.objs.size+1,s1.heap.objs.size],_,_,H1,rfl,I1.kept (t':=s1.toks) kk,
  gO _ _ a (rA _),⟨⟨_,g1⟩,g2⟩,fun c hc=>?_,q⟩
 have hle:s1.heap.objs.size<=c:=by
  simp only [List.mem_cons,List.not_mem_nil,or_false] at hc
  exact qT hc
 exact I1.fpOk hle (I1.hok.fresh hle)
end
structure Gj (N₀:List Str) (sc₀ sc:Scope) (x1 x2:Str) (N:List Str) (ix:List Nat):Prop where
 kind:sc.kind=.function
 nocell:∀ y∈sc.names,y.2≠.cell
 names:∀ y∈sc.names,y.2=.local->sc.names.lookup y.1=some .local
 free:∀ y∈sc.names,y.2=.free->sc₀.names.lookup y.1=some .cell
 nd:N.Nodup
 hd:N[0]?=some x1
 hd2:N[1]?=some x2
 loc:sc.names.lookup x1=some .local
 loc2:sc.names.lookup x2=some .local
 len:N.length=ix.length+2
 at_:∀ p∈N.tail.tail.zip ix,N₀[p.2]?=some p.1/\sc.names.lookup p.1=some .free
def Rc (K:PySem.W.Frag)(J:It)(H1:Hp)(fr:St)(tc:TT)(te:TE)(Q:VK):Prop:=∀ D,H1 D=none->∃ W:Nat->Nat->Hp->Prop,(∃ m,W 0 m (upd H1 D (.lst [])))/\∀ i m H,W i m H ->
 (J.stop i H/\Q (.ref D) H)\/(J.go i H/\∀ v H',J.yld i H v H'->∃ a x y,v=.ref a/\SqT K H' a [x,y]/\tc (some x::some y::fr) H' fun b H3 =>
  if b=true then te (some x::some y::fr) H3 fun y H4=>∃ ys,H4 D=some (.lst ys)/\ys.length<sizeLine/\∃ m',m'<m/\W (i+1) m' (upd H4 D (.lst (ys++[y]))) else ∃ m',m'<m/\W (i+1) m' H3)
def sZ (K:PySem.W.Frag)(wi:TI)(ix:List Nat)(tc:TT)(te:TE):TE:=fun σ H Q=>wi σ H fun J H1=>Rc K J H1 (frV σ ix) tc te Q
section
variable {X:Cx} {scope:Scope} {N:List Str} {ix:List Nat} {x1 x2:Str} {px px2 ppos:Pos} {kk:Nat} {elt iter:Expr} {ifs:List Expr} {tc:TT} {te:TE} {pos:Pos}
theorem sM {pins:List (Addr×Obj)}{σ:St}{H2:Hp}{s2:Shared}{J:It}{fp:List Addr}{it:Addr}{tn:Nat->Heap->Prop}{tg:Expr}(L:Gj X.N X.env.scope scope x1 x2 N ix)(I2:Inv X pins σ H2 s2)
  (T:Ni X.prog X.w X.K tg J fp it tn)(st2:tn 0 s2.heap)(f2:∀ b∈fp,Ma X pins H2 b){C:Addr}{s3 s4:Shared}{H3:Hp}(I3:Inv X pins σ H3 s3)(I4:Inv X pins σ H3 s4)(hle:s2.heap.objs.size<=s3.heap.objs.size)
  (hC:C=s3.heap.objs.size)(ho:s4.os=s3.os)(kp:∀ b u,s3.heap.get? b=some u->s4.heap.get? b=some u){m:Str->Option Value}(hns:s4.heap.Ns C m):Inv (Cz X scope N C s3 H3 fp) [] (none::none::frV σ ix) H3 s4:=by
 have hfree:∀ y∈scope.names,y.2=.free->∃ c,X.env.cells.lookup y.1=some c:=fun y hy hf=>I2.ok.has y.1 (.inl (L.free y hy hf))
 have sub:∀ y c,(Dc X.env scope.names []).lookup y=some c->X.env.cells.lookup y=some c:=fun y c h=>Hr _ _ y c hfree (fun _ _ z=>by simp at z) h
 have lt2:∀ b∈fp,b<s2.heap.objs.size:=fun b hb=>by obtain ⟨o,e,_⟩:=T.obj _ _ st2 b hb;exact Heap.lt_size e
 have okY:(Cz X scope N C s3 H3 fp).Ok:=by
  refine ⟨I2.ok.mod,L.kind,I2.ok.glob,I2.ok.blt,Nat.le_of_eq hC.symm,fun y z c h1 h2=>I2.ok.inj y z c (sub y c h1) (sub z c h2),fun y hy=>?_,fun y c z _=>?_,I2.ok.hd,I2.ok.frames,.inl rfl,fun b hb=>⟨?_,fun y c h=>(f2 b hb).2.2.2.2.1 y c (sub y c h)⟩,
   I3.bs,Nat.le_trans I3.ok.bsz I3.sz,fun b o e hb=>?_,fun b hb z=>?_,I3.stack,I3.stkFree⟩
  ·have hk:(y,NameKind.free)∈scope.names:=by
    rcases hy with hy | hy
    ·rcases Ib hy with q | q
     ·exact absurd rfl (L.nocell _ q)
     ·exact q.1
    ·rcases Ib hy with q | q
     ·exact q
     ·exact absurd q.2 (by decide)
   exact Option.isSome_iff_exists.mp (Ed _ _ y hk)
  ·cases (show false=true from z)
  ·have l:=lt2 b hb
   show b≠C
   rw [hC]
   exact Nat.ne_of_lt (Nat.lt_of_lt_of_le l hle)
  ·rcases (f2 b hb).2.2.2.1 with q | q
   ·exact I2.ok.noex b o e q
   ·exact absurd (Nat.lt_of_lt_of_le (Heap.lt_size e) (Nat.le_trans I2.ok.bsz q)) (Nat.lt_irrefl _)
  ·rcases List.mem_cons.mp (I2.stkSub b z) with q | q
   ·exact (f2 b hb).2.1 q
   ·exact (f2 b hb).2.2.1 q
 refine ⟨okY,ho,I4.bare,Un.kept kp,⟨m,hns,fun i y v h1 h2 h3=>?_⟩,fun y c e=>I4.cell y c (sub y c e),?_,fun y c e=>I4.freeC y c (sub y c e),fun p hp=>absurd (show p∈([]:List (Addr×Obj)) from hp) (by simp),I4.hok,?_⟩
 ·cases i with
  | zero=>cases (show some none=some (some v) from h2)
  | succ k =>
   cases k with
   | zero=>cases (show some none=some (some v) from h2)
   | succ k =>
   have h2:(frV σ ix)[k]?=some (some v):=h2
   have h1:N[k+1+1]?=some y:=h1
   unfold frV at h2
   rw [List.getElem?_map] at h2
   cases hj:ix[k]? with
   | none=>rw [hj] at h2;cases h2
   | some j =>
    rw [hj] at h2
    have h2:(σ[j]?).getD none=some v:=Option.some.inj h2
    have h2':σ[j]?=some (some v):=by
     cases e:σ[j]? with
     | none=>rw [e] at h2;cases h2
     | some z=>rw [e] at h2;exact congrArg some h2
    have ht:N.tail.tail[k]?=some y:=by rw [List.getElem?_tail,List.getElem?_tail];exact h1
    have hz:(y,j)∈N.tail.tail.zip ix:=List.mem_of_getElem? (i:=k) (by rw [List.getElem?_zip_eq_some];exact ⟨ht,hj⟩)
    obtain ⟨q1,q2⟩:=L.at_ _ hz
    have hm:=PySem.mem_of_lookup q2
    have hcell:=L.free _ hm rfl
    obtain ⟨m',hn',hl'⟩:=I4.loc
    obtain ⟨u,r,lk⟩:=hl' j y v q1 h2' (.inr (.inl hcell))
    refine ⟨u,r,.inr ⟨.inl (Lw I2.ok.kind hcell q2),?_⟩⟩
    rcases lk with lk | ⟨_,c,e,z⟩
    ·rw [show X.env.kindOf y=some .cell from hcell] at lk
     cases lk.1
    ·obtain ⟨c',e'⟩:=Option.isSome_iff_exists.mp (Ed (env:=X.env) scope.names [] y hm)
     have e2:=sub y c' e'
     rw [e] at e2
     cases e2
     exact ⟨c,e',z⟩
 ·show H3 C=none
  exact I3.hok.fresh (Nat.le_of_eq hC.symm)
 ·show (none::none::frV σ ix).length=N.length
  rw [L.len]
  simp [frV]
theorem eR {tgt:Expr}(htg:tgt=.Tuple [.Name x1 px,.Name x2 px2] kk ppos){pins:List (Addr×Obj)}{σ:St}{H2:Hp}{s2:Shared}{J:It}{fp:List Addr}{it:Addr}{tn:Nat->Heap->Prop}(hc:X.calm=true)(L:Gj X.N X.env.scope scope x1 x2 N ix)(I2:Inv X pins σ H2 s2)
  (T:Ni X.prog X.w X.K tgt J fp it tn)(st2:tn 0 s2.heap)(f2:∀ b∈fp,Ma X pins H2 b)
  (hif:∀ C s H,PIf (Cz X scope N C s H fp) ifs tc)(he:∀ C s H,PE (Cz X scope N C s H fp) elt te){Q:VK}(rd:Rc X.K J H2 (frV σ ix) tc te Q){RR:Value->Addr->Result->Shared->Prop}{E:Value->Shared->Prop}
  (fin:∀ D C H' s' m,Inv X pins σ H' s'->s2.heap.objs.size<=C->H' C=none->s'.heap.Ns C m->Q (.ref D) H'->RR (.ref D) C (.ok .next) s') :
  wpAny (model X.prog X.w) X.A (newList []) (fun acc s3=>wpAny (model X.prog X.w) X.A (newFunctionEnv scope X.env.globals (Dc X.env scope.names []) [] X.env.qual none .none (some X.env)) (fun cenv s4 =>
   codeAny (model X.prog X.w) X.A (.compStart (.ListComp elt [⟨tgt,iter,ifs,0⟩] scope pos) 0 (.ref it) acc { cenv with scope:=relabel scope X.env }) (RR acc cenv.locals) s4) E s3) E s2:=by
 refine wpAny_newObj_type (wpAny_newFunctionEnv L.nocell (by intro y hy;simp at hy) (fun h1 hns hsb=>?_) L.kind)
 dsimp only at hns hsb ⊢
 have I3:Inv X pins σ (upd H2 s2.heap.objs.size (.lst [])) { s2 with heap:=s2.heap.push { cls:=.type "list",dict:=none,data:=.seq ([]:List Value).toArray } }:=I2.lnew (its:=[]) (t':=s2.toks) .nil (Nat.zero_le _)
 generalize hH3:s2.heap.push { cls:=.type "list",dict:=none,data:=.seq ([]:List Value).toArray }=h3 at hns hsb I3 ⊢
 have hsz:h3.objs.size=s2.heap.objs.size+1:=by rw [<- hH3,Heap.size_push]
 have kp34:∀ b u,h3.get? b=some u->h1.get? b=some u:=fun b u e=>hsb.extBut b u (Nat.ne_of_lt (Heap.lt_size e)) (Heap.get?_push_of_some _ e)
 have I4:Inv X pins σ (upd H2 s2.heap.objs.size (.lst [])) { s2 with heap:=h1,toks:=s2.toks+([]:List (Str×Value)).length }:=I3.kept (t':=s2.toks+([]:List (Str×Value)).length) kp34
 have kp24:∀ b u,s2.heap.get? b=some u->h1.get? b=some u:=fun b u e=>kp34 b u (by rw [<- hH3];exact Heap.get?_push_of_some _ e)
 have IY:=sM (C:=h3.objs.size) (s3:={ s2 with heap:=h3 }) L I2 T st2 f2 I3 I4 (by show s2.heap.objs.size<=h3.objs.size;omega) rfl rfl kp34 hns
 have fD:H2 s2.heap.objs.size=none:=I2.hok.fresh (Nat.le_refl _)
 have lt2:∀ b∈fp,b<s2.heap.objs.size:=fun b hb=>by obtain ⟨o,e,_⟩:=T.obj _ _ st2 b hb;exact Heap.lt_size e
 have st4:tn 0 h1:=T.keep _ _ _ st2 fun b _ o e=>kp24 b o e
 have stat:∀ {pn:List (Addr×Obj)} {H':Hp},pn=[]->(∀ b∈fp,H' b=none)->∀ b∈fp,Ma (Cz X scope N h3.objs.size { s2 with heap:=h3 } (upd H2 s2.heap.objs.size (.lst [])) fp) pn H' b:=fun hp hn b hb=>by
  subst hp
  exact ⟨hn b hb,(IY.ok.exf b hb).1,IY.ok.exfs b hb,.inl hb,(IY.ok.exf b hb).2,fun p hp=>absurd (show p∈([]:List (Addr×Obj)) from hp) (by simp)⟩
 obtain ⟨W,⟨m0,w0⟩,turn⟩:=rd _ fD
 have loop:codeAny (model X.prog X.w) X.A (.compLoop (.ListComp elt [⟨tgt,iter,ifs,0⟩] scope pos) 0 (.ref it) (.ref s2.heap.objs.size) (compEnvC scope (Dc X.env scope.names []) h3.objs.size X.env)) (RR (.ref s2.heap.objs.size) h3.objs.size)
   { s2 with heap:=h1,toks:=s2.toks+([]:List (Str×Value)).length }:=by
  refine cZ (fun n s'=>∃ i H',Inv (Cz X scope N h3.objs.size { s2 with heap:=h3 } (upd H2 s2.heap.objs.size (.lst [])) fp) [] (none::none::frV σ ix) H' s'/\tn i s'.heap/\(∀ b∈fp,H' b=none)/\W i n H') ?_ m0
   ⟨0,_,IY,st4,fun b hb=>by rw [Al (Nat.ne_of_lt (lt2 b hb))];exact (f2 b hb).1,w0⟩
  rintro n s5 ⟨i,H5,I5,st5,fr5,w5⟩
  rcases turn i n H5 w5 with ⟨stop,q⟩ | ⟨go,step⟩
  ·refine thn (T.done (Cz X scope N h3.objs.size { s2 with heap:=h3 } (upd H2 s2.heap.objs.size (.lst [])) fp) rfl rfl rfl hc i [] s5 _ H5 (fun _ _=>False) I5 (stat rfl fr5) st5 stop) fun r s6 ⟨hr,I6⟩=>?_
   subst hr
   obtain ⟨m6,hn6,_⟩:=I6.loc
   have u1:Un (frs X.stack) fp H2 (upd H2 s2.heap.objs.size (.lst [])) s2.heap h3:=Un.laid (fun b u e=>by rw [<- hH3];exact Heap.get?_push_of_some _ e) (Nat.le_refl _) fD
   have back:Inv X pins σ H5 s6:=I2.call' (ch:=fp) (I6.os.trans rfl) (u1.trans I6.base) I6.hok I6.bare fun b hb=>⟨(f2 b hb).2.2.2.1,(f2 b hb).2.1,(f2 b hb).2.2.2.2.1,(f2 b hb).2.2.2.2.2⟩
   exact fin _ _ H5 s6 m6 back (by omega) I6.free hn6 q
  ·refine thn (T.item (Cz X scope N h3.objs.size { s2 with heap:=h3 } (upd H2 s2.heap.objs.size (.lst [])) fp) rfl rfl rfl hc i [] s5 _ H5 (fun _ _=>False) I5 (stat rfl fr5) st5 go) fun r s6 ⟨u,hr,h6⟩=>?_
   subst hr
   refine thn h6 fun _ s7 ⟨y,H7,I7,r7,y7,st7,fr7⟩=>?_
   have I7':=I7.pinned (stat rfl fr7) (T.obj _ _ st7)
   have hg:PG (Cz X scope N h3.objs.size { s2 with heap:=h3 } (upd H2 s2.heap.objs.size (.lst [])) fp) tgt (mX X.K 2 (Mt (Fl 0) (Mt (Fl 1) mS))):=by
    rw [htg]
    exact Sj hc (Dw (Bn L.nd L.hd (.inl (lookup_relabel_local L.loc)) (.inr (lookup_relabel_local L.loc))) (Dw (Bn L.nd L.hd2 (.inl (lookup_relabel_local L.loc2)) (.inr (lookup_relabel_local L.loc2))) Me))
   obtain ⟨ta,y1,y2,ey,hTu,hst⟩:=step y _ y7
   refine thn (hg _ s7 _ H7 y u (fun σ' H'=>σ'=some y1::some y2::frV σ ix/\H'=H7) I7' r7 ⟨ta,[y1,y2],ey,hTu,rfl,y1,[y2],rfl,y2,[],rfl,rfl,rfl,rfl⟩) fun _ s8 ⟨σ8,H8,I8,e8,e8'⟩=>?_
   subst e8 e8'
   refine thn (hif _ _ _ _ s8 _ _ _ I8 hst) fun ok s9 ⟨H9,I9,q9⟩=>?_
   have again:∀ {sz:Shared} {Hz:Hp} {m':Nat},Inv (Cz X scope N h3.objs.size { s2 with heap:=h3 } (upd H2 s2.heap.objs.size (.lst [])) fp) ([]++Nv fp s7.heap) (some y1::some y2::frV σ ix) Hz sz->m'<n->W (i+1) m' Hz ->
     ∃ m,m<n/\∃ i H',Inv (Cz X scope N h3.objs.size { s2 with heap:=h3 } (upd H2 s2.heap.objs.size (.lst [])) fp) [] (none::none::frV σ ix) H' sz/\tn i sz.heap/\(∀ b∈fp,H' b=none)/\W i m H':=fun {sz Hz m'} Iz hm wz=>by
    refine ⟨m',hm,i+1,Hz,Iz.unpinned.weak (by simp) (fun j v e=>?_),T.keep _ _ _ st7 fun b hb o e=>(Iz.pin (b,o) (List.mem_append_right _ (List.mem_append_right _ (E6 hb e)))).1,fun b hb=>?_,wz⟩
    ·cases j with
     | zero=>cases e
     | succ j =>
      cases j with
      | zero=>cases e
      | succ j=>exact e
    ·obtain ⟨o,e,d⟩:=T.obj _ _ st7 b hb
     exact (Iz.pin (b,o) (List.mem_append_right _ (List.mem_append_right _ (E6 hb e)))).2.1
   cases ok with
   | false =>
    obtain ⟨m',hm,wz⟩:=q9
    exact again I9 hm wz
   | true =>
    refine thn (he _ _ _ _ s9 _ _ _ I9 q9) fun xv s10 ⟨z,H10,I10,r10,ys,hD,hl,m',hm,wz⟩=>?_
    refine thn (De _ s10 _ H10 (.ref s2.heap.objs.size) [z] (.ref s2.heap.objs.size) [xv] (fun _ Hz=>Hz=upd H10 s2.heap.objs.size (.lst (ys++[z]))) I10 rfl (.cons r10 .nil) ⟨_,ys,z,rfl,rfl,hD,hl,rfl⟩) fun _ s11 ⟨_,H11,I11,_,q11⟩=>?_
    subst q11
    exact again I11 hm wz
 exact codeAny_compStart_list loop (T.self X.A 0 _ _ _ st4 loop)
theorem sN {wi:TI}(hc:X.calm=true)(L:Gj X.N X.env.scope scope x1 x2 N ix)(hi:PI X (.Tuple [.Name x1 px,.Name x2 px2] kk ppos) iter wi)(hif:∀ C s H fp,PIf (Cz X scope N C s H fp) ifs tc)(he:∀ C s H fp,PE (Cz X scope N C s H fp) elt te)
  (hs:∀ z,foldedSetIterable iter X.env z=pure z:=by intro _;rfl):PE X (.ListComp elt [⟨.Tuple [.Name x1 px,.Name x2 px2] kk ppos,iter,ifs,0⟩] scope pos) (sZ X.K wi ix tc te):=by
 intro pins s σ H Q I h
 have hfree:∀ y∈scope.names,y.2=.free->∃ c,X.env.cells.lookup y.1=some c:=fun y hy hf=>I.ok.has y.1 (.inl (L.free y hy hf))
 rw [eval_ListComp]
 refine wpAny_comprehension_free (use:=none) rfl hs (Gr hfree) L.kind L.names (thn (hi pins s σ H _ I h) fun v s1 h1=>thn h1 fun itv s2 h2=>?_)
 obtain ⟨it,fp,tn,J,H2,e,I2,T,st2,f2,rd⟩:=h2
 subst e
 refine eR (RR:=fun acc C=>compPost (model X.prog X.w) X.A X.xe none _ acc C) rfl hc L I2 T st2 f2 (fun C s H=>hif C s H fp) (fun C s H=>he C s H fp) rd fun D C H' s' m I' hC hf hn q=>?_
 refine ⟨m,hn,fun h' hsb=>⟨.ref D,H',?_,rfl,q⟩⟩
 have l2:=I2.lt
 refine I'.turned (t':=s'.toks) (it:=C) (fun b o hb e=>hsb.extBut b o hb e) hf (Nat.ne_of_gt (Nat.lt_of_lt_of_le l2 hC)) (.inr (Nat.le_trans I2.sz hC)) (fun y c e=>?_) fun p hp=>?_
 ·obtain ⟨v,hv⟩:=I2.cell y c e
  exact Nat.ne_of_lt (Nat.lt_of_lt_of_le hv.lt hC)
 ·exact Nat.ne_of_lt (Nat.lt_of_lt_of_le (Heap.lt_size (I2.pin p hp).1) hC)
theorem Tk {wi:TI}{i:Nat}{y:Str}{py spos:Pos}(hc:X.calm=true)(L:Gj X.N X.env.scope scope x1 x2 N ix)(hN:X.N.Nodup)(hy:X.N[i]?=some y)(hl:X.env.scope.names.lookup y=some .local)
  (hi:PI X (.Tuple [.Name x1 px,.Name x2 px2] kk ppos) iter wi)(hif:∀ C s H fp,PIf (Cz X scope N C s H fp) ifs tc)(he:∀ C s H fp,PE (Cz X scope N C s H fp) elt te)
  (hsw:swapsWith (.ListComp elt [⟨.Tuple [.Name x1 px,.Name x2 px2] kk ppos,iter,ifs,0⟩] scope pos) (some (.Name y py)) spos.line X.env=pure true:=by rfl)
  (hs:∀ z,foldedSetIterable iter X.env z=pure z:=by intro _;rfl):PS X (.Assign [.Name y py] (.ListComp elt [⟨.Tuple [.Name x1 px,.Name x2 px2] kk ppos,iter,ifs,0⟩] scope pos) spos) (iI (sZ X.K wi ix tc te) (Fl i)):=by
 intro pins s σ H D I h
 have hfree:∀ y∈scope.names,y.2=.free->∃ c,X.env.cells.lookup y.1=some c:=fun y hy hf=>I.ok.has y.1 (.inl (L.free y hy hf))
 rw [exec_Assign_Name_used _ _ _ _ hsw]
 refine wpAny_bind (wpAny_standAt (wpAny_bind ?_))
 show wpAny _ X.A (do let _ <- comprehension (.ListComp elt [⟨.Tuple [.Name x1 px,.Name x2 px2] kk ppos,iter,ifs,0⟩] scope pos) scope X.env _ (newList []) false (eval iter X.env) (some (assign (.Name y py) X.env))) _ _ s
 refine wpAny_bind (thn (Q:=fun _ s'=>SP X pins D .next s') (wpAny_comprehension_free (use:=some (assign (.Name y py) X.env)) rfl hs (Gr hfree) L.kind L.names (thn (hi pins s σ H _ I h) fun v s1 h1=>thn h1 fun itv s2 h2=>?_)) fun _ s' hq=>wpAny_pure (wpAny_pure hq))
 obtain ⟨it,fp,tn,J,H2,e,I2,T,st2,f2,rd⟩:=h2
 subst e
 refine eR (RR:=fun acc C=>compPost (model X.prog X.w) X.A X.xe (some (assign (.Name y py) X.env)) _ acc C) rfl hc L I2 T st2 f2 (fun C s H=>hif C s H fp) (fun C s H=>he C s H fp) rd fun Da C H' s' m I' hC hf hn q=>?_
 have l2:=I2.lt
 have nC:C≠X.env.locals:=Nat.ne_of_gt (Nat.lt_of_lt_of_le l2 hC)
 have nF:C∉X.fs:=I2.nofs hC
 obtain ⟨oC,es,ep,hget,hdat,hrest⟩:=id hn
 have Ip:Inv X (pins++[(C,oC)]) σ H' s':=I'.pins_of fun p hp=>(List.mem_append.mp hp).elim (fun z=>I'.pin p (List.mem_append_right _ z)) fun z=>by
  have e:p=(C,oC):=by simpa using z
  subst e
  exact ⟨hget,hf,nC,nF,fun v z=>by rw [hdat] at z;cases z⟩
 have hg:PG X (.Name y py) (Fl i):=Bn hN hy (.inl hl) (.inr hl)
 show wpAny _ X.A (assign (.Name y py) X.env (.ref Da)) _ _ s'
 refine thn (hg _ s' σ H' (.ref Da) (.ref Da) D.nx Ip rfl q) fun _ s'' ⟨σ'',H'',I'',q''⟩=>?_
 obtain ⟨g1,g2,_⟩:=I''.pin (C,oC) (List.mem_append_right _ (List.mem_append_right _ (by simp)))
 refine ⟨m,⟨oC,es,ep,g1,hdat,hrest⟩,fun h' hsb=>⟨σ'',H'',?_,q''⟩⟩
 refine I''.unpinned.turned (t':=s''.toks) (it:=C) (fun b o hb e=>hsb.extBut b o hb e) g2 nC (.inr (Nat.le_trans I2.sz hC)) (fun y c e=>?_) fun p hp=>?_
 ·obtain ⟨v,hv⟩:=I2.cell y c e
  exact Nat.ne_of_lt (Nat.lt_of_lt_of_le hv.lt hC)
 ·exact Nat.ne_of_lt (Nat.lt_of_lt_of_le (Heap.lt_size (I2.pin p hp).1) hC)
end
theorem sR {K:PySem.W.Frag}{tA:TA}{σ:St}{H:Hp}{R:It->Hp->Prop}(h:tA σ H fun vs H1=>∃ a b,vs=[.ref a,.ref b]/\(∃ xs,SqL K H1 a xs)/\(∃ ys,SqL K H1 b ys)/\R (Itz K a b) H1):uZ K tA σ H R:=h
theorem qF {K:PySem.W.Frag}{tA:TA}{σ:St}{H:Hp}{R:It->Hp->Prop}(h:tA σ H fun vs H1=>∃ a,vs=[.ref a]/\(∃ xs,SqL K H1 a xs)/\R (Ite K a) H1):qJ K tA σ H R:=h
theorem uQ {K:PySem.W.Frag}{σ:St}{H:Hp}{Q:VK}{wi:TI}{ix:List Nat}{tc:TT}{te:TE}(h:wi σ H fun J H1=>Rc K J H1 (frV σ ix) tc te Q):sZ K wi ix tc te σ H Q:=h
theorem dI {K:PySem.W.Frag}{σ:St}{H:Hp}{R:St->Hp->Prop}{a:Addr}{x y:V}{i j:Nat}(hs:SqT K H a [x,y])(h:R ((σ.set i (some x)).set j (some y)) H):mX K 2 (Mt (Fl i) (Mt (Fl j) mS)) (.ref a) σ H R :=
 ⟨a,[x,y],rfl,hs,rfl,x,[y],rfl,y,[],rfl,rfl,h⟩
theorem R9 {K:PySem.W.Frag}{a:Addr}{xs:List V}{i1 i2:Nat}{tb:TS}{D:Hb}{σ:St}{H:Hp}(Pv:Nat->St->Hp->Prop)(h0:Pv 0 σ H)(hl:∀ i σ H,i<=xs.length->Pv i σ H->SqL K H a xs)
  (step:∀ i x σ H t,xs[i]?=some x->Pv i σ H->H t=none->tb { D with nx:=Pv (i+1),ct:=Pv (i+1),bk:=D.nx } ((σ.set i1 (some (.int i))).set i2 (some x)) (upd H t (.tup [.int i,x])))
  (fin:∀ σ H,Pv xs.length σ H->D.nx σ H):pV (Ite K a) (mX K 2 (Mt (Fl i1) (Mt (Fl i2) mS))) tb D σ H:=by
 refine ⟨fun i m σ H=>i<=xs.length/\m=xs.length-i/\Pv i σ H,⟨_,Nat.zero_le _,rfl,h0⟩,?_⟩
 rintro i m σ H ⟨hi,rfl,hp⟩
 by_cases h:i=xs.length
 ·exact .inl ⟨⟨xs,hl i σ H hi hp,h⟩,fin σ H (h▸hp)⟩
 ·have hlt:i<xs.length:=Nat.lt_of_le_of_ne hi h
  refine .inr ⟨⟨xs,xs[i],hl i σ H hi hp,by simp⟩,Pv (i+1),fun σ' H' q=>⟨xs.length-(i+1),by omega,hlt,rfl,q⟩,fun v H' hy=>?_⟩
  obtain ⟨t,x,hn,rfl,hx,rfl⟩:=hy
  exact dI (SqT.of Ac) (step i x σ H t (hx xs (hl i σ H hi hp)) hp hn)
def qA (z:Str):It :=
 ⟨fun i _=>i<z.cps.size,fun i H v H'=>∃ t c,H t=none/\v=.ref t/\z.cps[i]?=some c/\H'=upd H t (.tup [.int i,.str (sgn c)]),fun i _=>i=z.cps.size⟩
theorem Zo {P:Program}{w:World}{K:PySem.W.Frag}{elts:List Expr}{k:Nat}{pos:Pos}{e it:Addr}{z:Str}{ty:String}{t:Tok}(hne:e≠it)
  (D:∀ A':Around,A'.handled=none->Draws P w A' it [it] z.cps.size (fun i v=>∃ c u,z.cps[i]?=some c/\v=.str ⟨#[c]⟩ u) (fun i h=>h.IsStrIter it ty z t i)) :
  Ni P w K (.Tuple elts k pos) (qA z) [e,it] e (fun i h=>(∃ old,IsEnum h e it i old)/\h.IsStrIter it ty z t i) where
 mem:=by simp
 obj:=fun i h st c hc=>by
  obtain ⟨⟨old,he⟩,⟨o1,e1,c1,d1⟩⟩:=st
  simp only [List.mem_cons,List.not_mem_nil,or_false] at hc
  rcases hc with rfl | rfl
  ·exact ⟨_,he,fun v z=>by cases z⟩
  ·exact ⟨_,e1,fun v z=>by rw [d1] at z;cases z⟩
 keep:=fun i h h' st kk=>by
  obtain ⟨⟨old,he⟩,⟨o,ho,r⟩⟩:=st
  exact ⟨⟨old,kk _ (by simp) _ he⟩,⟨o,kk _ (by simp) o ho,r⟩⟩
 item:=by
  intro X hP hw hK hc i pins s σ H E I hf st hg
  subst hP hw hK
  have W:=WalksT.enumerateD (D X.A.in1 (I.ok.hd hc)) e hne (by simpa using hne) (by simp)
  refine W.item i s _ _ hg st fun T vals h' tk hv hT hTu mid kk=>?_
  obtain ⟨t1,x,⟨c,u,hc',rfl⟩,rfl⟩:=hv
  have nT:=W.apart i T h' mid
  refine ⟨.ref T,rfl,W.go elts k pos i T { s with heap:=h',toks:=tk } _ _ mid fun h'' st'' kk2=>?_⟩
  have hTu2:h''.IsTuple T ([Value.int (i:Int) t1,Value.str ⟨#[c]⟩ u]:List Value).toArray:=by
   obtain ⟨o,e,r⟩:=hTu
   exact ⟨o,kk2 T o nT e,r⟩
  have I2:Inv X pins σ (upd H T (.tup [.int i,.str (sgn c)])) { s with heap:=h'',toks:=tk }:=I.turnT (t':=tk) (fun b o hb e=>kk2 b o hb (kk b o hb e)) (fun b hb=>hf b hb) hT hTu2 (.cons ⟨t1,rfl⟩ (.cons ⟨u,rfl⟩ .nil)) (show 2<=sizeLine by decide)
  refine ⟨.ref T,_,I2,rfl,⟨T,c,I.hok.fresh hT,rfl,hc',rfl⟩,st'',fun b hb=>?_⟩
  have hlt:b<s.heap.objs.size:=by
   obtain ⟨⟨old,s1⟩,⟨o5,s5,_⟩⟩:=id st
   simp only [List.mem_cons,List.not_mem_nil,or_false] at hb
   rcases hb with rfl | rfl
   ·exact Heap.lt_size s1
   ·exact Heap.lt_size s5
  rw [Al (Nat.ne_of_lt (Nat.lt_of_lt_of_le hlt hT))]
  exact (hf b hb).1
 done:=by
  intro X hP hw hK hc i pins s σ H E I hf st hg
  subst hP hw hK
  have W:=WalksT.enumerateD (D X.A.in1 (I.ok.hd hc)) e hne (by simpa using hne) (by simp)
  have hi:i=z.cps.size:=hg
  refine W.done s _ _ (by rw [<- hi];exact st) fun h' tk kk=>⟨rfl,?_⟩
  exact I.turnW (t':=tk) kk fun b hb=>hf b hb
 self:=fun _ _ _ _ _ st h=>wpAny_pyIter_enum (Classical.choose_spec st.1) h
section
variable {X:Cx} {elts:List Expr} {k:Nat} {tpos:Pos}
def hZ (ta:TA):TI:=fun σ H R=>ta σ H fun vs H1=>∃ z,vs=[.str z]/\R (qA z) H1
theorem nA {a:Expr}{ta:TA}{p pos:Pos}(hg:Gl X "enumerate")(hm:X.mg "enumerate"=none)(ha:PA X [a] ta)(hs:starEach [a] X.env=[(false,eval a X.env)]:=by rfl) :
  PI X (.Tuple elts k tpos) (.Call (.Name "enumerate" p) [a] [] pos) (hZ ta):=by
 intro pins s σ H R I h
 refine Call_ (G7 I hg hm N4 (PyProof.Rows.callWith_type1 (thn (ha pos pins s σ H _ I h) fun us s1 ⟨vs,H1,I1,r1,q1⟩=>?_) hs rfl))
 obtain ⟨z,e,q⟩:=q1
 subst e
 obtain ⟨u,rfl,⟨t,rfl⟩⟩:=Gg r1
 refine call_enumerate_str fun h' g1 g2 hsz kk=>?_
 refine wpAny_pyIter_enum (s:={ s1 with heap:=h' }) g1 ?_
 have fin:∀ ty:String,h'.IsStrIter s1.heap.objs.size ty z t 0->(∀ A':Around,A'.handled=none->Draws X.prog X.w A' s1.heap.objs.size [s1.heap.objs.size] z.cps.size (fun i v=>∃ c u,z.cps[i]?=some c/\v=.str ⟨#[c]⟩ u) (fun i h=>h.IsStrIter s1.heap.objs.size ty z t i)) ->
   PIE X pins σ (.Tuple elts k tpos) R (.ref (s1.heap.objs.size+1)) { s1 with heap:=h' }:=fun ty g2 D=>by
  refine ⟨s1.heap.objs.size+1,[s1.heap.objs.size+1,s1.heap.objs.size],_,_,H1,rfl,I1.kept (t':=s1.toks) kk,Zo (rA _) D,⟨⟨_,g1⟩,g2⟩,fun c hc=>?_,q⟩
  have hle:s1.heap.objs.size<=c:=by
   simp only [List.mem_cons,List.not_mem_nil,or_false] at hc
   exact qT hc
  exact I1.fpOk hle (I1.hok.fresh hle)
 by_cases ha:z.cps.all (· < 128)=true
 ·have e:strIterType z="str_ascii_iterator":=by unfold strIterType;rw [if_pos ha]
  exact fin _ (e▸g2) fun A' hA=>Draws.strAscii hA _ z t
 ·have e:strIterType z="str_iterator":=by unfold strIterType;rw [if_neg ha]
  exact fin _ (e▸g2) fun A' hA=>Draws.strWide hA _ z t
end
theorem jK {tA:TA}{σ:St}{H:Hp}{R:It->Hp->Prop}(h:tA σ H fun vs H1=>∃ z,vs=[.str z]/\R (qA z) H1):hZ tA σ H R:=h
theorem gI {K:PySem.W.Frag}{z:Str}{i1 i2:Nat}{tb:TS}{D:Hb}{σ:St}{H:Hp}(Pv:Nat->St->Hp->Prop)(h0:Pv 0 σ H)
  (step:∀ i c σ H t,z.cps[i]?=some c->Pv i σ H->H t=none->tb { D with nx:=Pv (i+1),ct:=Pv (i+1),bk:=D.nx } ((σ.set i1 (some (.int i))).set i2 (some (.str (sgn c)))) (upd H t (.tup [.int i,.str (sgn c)])))
  (fin:∀ σ H,Pv z.cps.size σ H->D.nx σ H):pV (qA z) (mX K 2 (Mt (Fl i1) (Mt (Fl i2) mS))) tb D σ H:=by
 refine ⟨fun i m σ H=>i<=z.cps.size/\m=z.cps.size-i/\Pv i σ H,⟨_,Nat.zero_le _,rfl,h0⟩,?_⟩
 rintro i m σ H ⟨hi,rfl,hp⟩
 by_cases h:i=z.cps.size
 ·exact .inl ⟨h,fin σ H (h▸hp)⟩
 ·have hlt:i<z.cps.size:=Nat.lt_of_le_of_ne hi h
  refine .inr ⟨hlt,Pv (i+1),fun σ' H' q=>⟨z.cps.size-(i+1),by omega,hlt,rfl,q⟩,fun v H' hy=>?_⟩
  obtain ⟨t,c,hn,rfl,hx,rfl⟩:=hy
  exact dI (SqT.of Ac) (step i c σ H t hx hp hn)
structure Mth (P:Program) (w:World) (K:PySem.W.Frag) (mg:Str->Option Value) (base:Heap) (C:Addr) (m:Str) (k:Nat) (ps:List Str) (sp:Sp):Prop where
 ex:∃ (f:Addr) (fd:FuncData),Ax P w K mg base CX0 k f fd ps sp/\Dk K fd ps []/\fC K C m f
 cl:Cls K C
structure Mkr (P:Program) (w:World) (K:PySem.W.Frag) (mg:Str->Option Value) (base:Heap) (name:Str) (C:Addr) (k:Nat) (ps:List Str) (sp:Sp):Prop where
 ex:∃ (f:Addr) (fd:FuncData),Ax P w K mg base CX0 k f fd ps sp/\Dk K fd ps []/\Mk K C f/\mg name=some (.ref C)
section
variable {X:Cx} {k:Nat} {C:Addr} {ps:List Str} {sp:Sp} {name m:Str} {p pos apos:Pos} {e o:Expr} {es:List Expr} {ta:TE} {t:TA} {pl:Sem Bool}
theorem jC (M:Mkr X.prog X.w X.K X.mg X.base name C k ps sp)(hr:B2 (k+1) X.A)(ha:PA X (e::es) t)(hg:Gl X name:=by rfl)(hdb:(name==("__debug__":Str))=false:=by decide)
  (he:starEach (e::es) X.env=(false,eval e X.env)::starEach es X.env:=by rfl)(hpl:(backTo pos (starEach es X.env)).any (·.1)=false:=by rfl):PE X (.Call (.Name name p) (e::es) [] pos) (Yk C sp [] E0 t):=by
 obtain ⟨f,fd,F,b,M,hm⟩:=M.ex
 exact dO M F hr hg hm b .nil Xn ha hdb he hpl
theorem Fh (M:Mth X.prog X.w X.K X.mg X.base C m k ps sp)(hr:B2 k X.A)(ho:PE X o ta)(ha:PA X (e::es) t)
  (hst:starEach (e::es) X.env=(false,eval e X.env)::starEach es X.env:=by rfl)(hpl:(backTo pos (starEach es X.env)).any (·.1)=false:=by rfl)
  (ht:eval (.Call (.Attribute o m apos) (e::es) [] pos) X.env=(do
   let ov <- eval o X.env
   standAt apos.atName
   let (f,first) <- holding [ov] (getMethod ov m pl)
   callWith pos f first (backTo pos (starEach (e::es) X.env)) (backToKw pos (keywordEach [] X.env))):=by rfl) :
  PE X (.Call (.Attribute o m apos) (e::es) [] pos) (R8 C m sp [] E0 ta t):=by
 obtain ⟨f,fd,F,b,hm⟩:=M.ex
 exact eJ ho M.cl hm F hr b .nil Xn ha hst hpl ht
theorem P4 (M:Mth X.prog X.w X.K X.mg X.base C m k ps sp)(hr:B2 k X.A)(ho:PE X o ta)
  (ht:eval (.Call (.Attribute o m apos) [] [] pos) X.env=(do
   let ov <- eval o X.env
   standAt apos.atName
   let (f,first) <- holding [ov] (getMethod ov m pl)
   callWith pos f first (backTo pos (starEach [] X.env)) (backToKw pos (keywordEach [] X.env))):=by rfl) :
  PE X (.Call (.Attribute o m apos) [] [] pos) (R8 C m sp [] E0 ta Xe):=by
 obtain ⟨f,fd,F,b,hm⟩:=M.ex
 exact kQ ho M.cl hm F hr b .nil Xn ht
end
section
variable {σ:St} {H:Hp} {D:Hb} {Q:VK} {te ta tv:TE} {tA:TA} {K:PySem.W.Frag}
theorem vB {f:Str}(h:te σ H fun x H1=>∃ a C dx fs v,x=.ref a/\H1 a=some (.ins C dx fs)/\Cls K C/\Br K C f/\fs.lookup f=some v/\Q v H1):vX K te f σ H Q:=h
theorem mB {a C dx:Addr}{fs:List (Str×V)}{f:Str}{v:V}(h:H a=some (.ins C dx fs))(c:Cls K C)(n:Br K C f)(l:fs.lookup f=some v)(q:Q v H) :
  ∃ a' C' dx' fs' v',V.ref a=.ref a'/\H a'=some (.ins C' dx' fs')/\Cls K C'/\Br K C' f/\fs'.lookup f=some v'/\Q v' H:=⟨a,C,dx,fs,v,rfl,h,c,n,l,q⟩
theorem sK {f:Str}(h:tv σ H fun y H1=>ta σ H1 fun x H2=>∃ a C dx fs,x=.ref a/\H2 a=some (.ins C dx fs)/\Cls K C/\Br K C f/\fs.length<1000/\D.nx σ (upd H2 a (.ins C dx (Fj f y fs)))):wK K ta tv f D σ H:=h
theorem C8 {a C dx:Addr}{fs:List (Str×V)}{f:Str}{R:Hp->Prop}{y:V}(h:H a=some (.ins C dx fs))(c:Cls K C)(n:Br K C f)(l:fs.length<1000)(q:R (upd H a (.ins C dx (Fj f y fs)))) :
  ∃ a' C' dx' fs',V.ref a=.ref a'/\H a'=some (.ins C' dx' fs')/\Cls K C'/\Br K C' f/\fs'.length<1000/\R (upd H a' (.ins C' dx' (Fj f y fs'))):=⟨a,C,dx,fs,rfl,h,c,n,l,q⟩
theorem tS {C:Addr}{sp:Sp}{E:XK}(h:tA σ H fun vs H1=>∀ x dx,H1 x=none->H1 dx=none->dx≠x->sp (.ref x::(vs++[])) (upd (upd H1 dx (.own x)) x (.ins C dx [])) (fun v H2=>v=.non/\Q (.ref x) H2) E):Yk C sp [] E tA σ H Q:=h
theorem tL {C:Addr}{m:Str}{sp:Sp}{E:XK}(h:ta σ H fun x H1=>∃ a dx fs,x=.ref a/\H1 a=some (.ins C dx fs)/\fs.lookup m=none/\tA σ H1 fun vs H2=>sp (x::(vs++[])) H2 Q E):R8 C m sp [] E ta tA σ H Q:=h
end
section
variable {X:Cx}
def Mz (z:Str)(c:Nat):Nat:=z.cps.toList.count c
theorem Td (c:Nat):∀ l:List Nat,PyProof.Rows.cnt c l=(l.count c:Nat)
 | []=>rfl
 | n::r=>by
  rw [PyProof.Rows.cnt_cons,Td c r,List.count_cons]
  by_cases h:n=c
  ·subst h;simp;omega
  ·simp [h]
def tY:V->List V->Hp->VK->Prop:=fun x vs H Q=>∃ z c,x=.str z/\vs=[.str (sgn c)]/\Q (.int (Mz z c:Nat)) H
theorem Sc:MtM X "str.count" tY:=by
 intro pins s σ H x vs v us Q I rx rv h
 obtain ⟨z,c,rfl,rfl,q⟩:=h
 obtain ⟨t,rfl⟩:=rx
 obtain ⟨u,rfl,ru⟩:=rv.one
 obtain ⟨t',rfl⟩:=ru
 have e:Txt.count z (sgn c)=(Mz z c:Nat):=(PyProof.Rows.count_cnt z c).trans (Td c _)
 refine SC.count ?_
 rw [e]
 exact ⟨.int (Mz z c:Nat),H,I.tok _,⟨_,rfl⟩,q⟩
def xD (K:PySem.W.Frag):List V->Hp->VK->Prop:=fun xs H Q=>∃ (p:Addr) (ns:List Int),xs=[.ref p]/\SqL K H p (ns.map V.int)/\Q (.int ns.sum) H
theorem jJ (hc:X.calm=true):Dj X (.builtin "sum") (xD X.K):=by
 intro pins s σ H xs us Q I r h
 obtain ⟨p,ns,rfl,hp,q⟩:=h
 obtain ⟨u,rfl,ru⟩:=Gg r
 cases ru
 obtain ⟨its,r,pl,_⟩:=I.list hp
 have hi:=Rt r
 obtain ⟨ys,e⟩:=hi.allInts.items
 have hl:=pl.isList
 have hs:(numsOf its).sum=ns.sum:=by rw [hi.numsOf]
 rw [e] at hl
 refine sum_intListG (I.ok.hd hc) hl fun h' tk t' hk=>?_
 refine ⟨.int ns.sum,H,I.kept hk,⟨t',?_⟩,q⟩
 rw [preSum_eq,List.take_of_length_le (by simp),<- hs]
 have e2:=nums_intItems ys
 rw [<- e] at e2
 rw [show its=its.toArray.toList from rfl,e2]
end
namespace IB
open PySem.NumText PySem.Calls
def bits (cs:List Nat):Prop:=∀ c∈cs,c=48\/c=49
def v2 (cs:List Nat):Nat:=cs.foldl (fun a c=>a*2+(c-48)) 0
theorem X7 {c:Nat}(ds:Array Nat)(b:Bool)(h:c=48\/c=49):step 2 (ds,b) c=some (ds.push (c-48),true):=by rcases h with rfl | rfl<;>rfl
theorem Rr:∀ (cs:List Nat) (ds:Array Nat),bits cs->cs.foldlM (step 2) (ds,true)=some (cs.foldl (fun acc c=>acc.push (c-48)) ds,true)
 | [],ds,_=>rfl
 | c::cs,ds,h=>by
  rw [List.foldlM_cons,X7 ds true (h c List.mem_cons_self)]
  exact Rr cs _ fun d hd=>h d (List.mem_cons_of_mem _ hd)
theorem Xd {cs:List Nat}(h:bits cs)(hne:cs≠[]):digits? 2 cs=some (cs.foldl (fun acc c=>acc.push (c-48)) #[]):=by
 cases cs with
 | nil=>exact absurd rfl hne
 | cons c cs =>
  unfold digits?
  rw [List.foldlM_cons,X7 #[] false (h c List.mem_cons_self)]
  show ((cs.foldlM (step 2) (#[].push (c-48),true)).bind _)=_
  rw [Rr cs _ fun d hd=>h d (List.mem_cons_of_mem _ hd)]
  rfl
theorem Rx:∀ (cs:List Nat) (ds:Array Nat),(cs.foldl (fun acc c=>acc.push (c-48)) ds).foldl (fun acc d=>acc*2+d) 0=cs.foldl (fun acc c=>acc*2+(c-48)) (ds.foldl (fun acc d=>acc*2+d) 0)
 | [],ds=>rfl
 | c::cs,ds=>by
  rw [List.foldl_cons,Rx cs,List.foldl_cons,Array.foldl_push]
theorem Ts {cs:List Nat}(h:bits cs):cs.dropWhile blank=cs:=by
 cases cs with
 | nil=>rfl
 | cons c cs =>
  rw [List.dropWhile_cons,if_neg]
  rcases h c List.mem_cons_self with rfl | rfl<;>decide
theorem gC {cs:List Nat}(h:bits cs):sign cs=(false,cs):=by
 cases cs with
 | nil=>rfl
 | cons c cs=>rcases h c List.mem_cons_self with rfl | rfl<;>rfl
theorem Y3 {cs:List Nat}(h:bits cs):based 2 cs=(2,false,cs):=by
 have hp:prefix? cs=none:=by
  match cs,h with
  | [],_=>rfl
  | [c],h=>rcases h c List.mem_cons_self with rfl | rfl<;>rfl
  | c::d::r,h =>
   rcases h c List.mem_cons_self with rfl | rfl
   ·rcases h d (List.mem_cons_of_mem _ List.mem_cons_self) with rfl | rfl<;>rfl
   ·rfl
 unfold based
 rw [hp]
 rfl
theorem gZ {cs:List Nat}(h:bits cs)(hne:cs≠[]):(int_private% "readNumeral") 0 2 cs=(int_private% "Numeral.value") (v2 cs:Nat):=by
 refine (readNumeral_eq 0 2 cs).trans ?_
 have hr:bits cs.reverse:=fun c hc=>h c (List.mem_reverse.mp hc)
 rw [Ts h,gC h]
 dsimp only
 rw [Y3 h]
 dsimp only
 rw [Ts hr,List.reverse_reverse,Xd h hne]
 have e:(cs.foldl (fun acc c=>acc.push (c-48)) #[]).foldl (fun acc d=>acc*2+d) 0=v2 cs:=Rx cs #[]
 unfold judge
 dsimp only
 rw [e]
 rfl
theorem oA {M : Model}{A : Around}{E : Value->Shared->Prop}{s : Shared}{Q : Value->Shared->Prop}{v : Value}{text : List Nat}{n : Int}
    (hs : (text.takeWhile (· != 0)).length <= 640)(hr : (int_private% "readNumeral") 0 2 (text.takeWhile (· != 0)) = (int_private% "Numeral.value") n)
    (ha : ((text.takeWhile (· != 0)).length == text.length) = true)(h : Q (.int n s.toks) { s with toks := s.toks + 1 }) :
    wpAny M A ((int_private% "intFromText") v text 2) Q E s := by
  obtain ⟨hp, g, d, tk, os⟩ := s
  repeat (any_goals (first
    | assumption
    | (with_reducible refine wpAny_ite_true (decide_eq_true hs) ?_)
    | (with_reducible refine wpAny_ite_true (decide_eq_true ha) ?_)
    | wp_step))
  all_goals (try rw [hr])
  all_goals (try dsimp only)
  repeat (any_goals (first
    | assumption
    | (with_reducible refine wpAny_ite_true (decide_eq_true hs) ?_)
    | (with_reducible refine wpAny_ite_true (decide_eq_true ha) ?_)
    | wp_step))
theorem typeCall_int_2 (a b:Value):checkTypeCall "int" ⟨[a,b],[]⟩=pure ():=by kernel_rfl
theorem newCall_int_2 (a b:Value):checkBuiltinCall "int.__new__" ⟨[.type "int",a,b],[]⟩=pure ():=by kernel_rfl
structure Hid (p:Prop):Prop where
 out:p
theorem Ve {x:Str}(h:bits x.cps.toList):(if x.cps.all (· < 128) then x.cps.toList else Unicode.numberText x.cps.toList)=x.cps.toList:=by
 rw [if_pos]
 rw [Array.all_eq_true']
 intro c hc
 have:=h c (by simpa using hc)
 rcases this with rfl | rfl<;>decide
theorem Hk {cs:List Nat}(h:bits cs):cs.takeWhile (· != 0)=cs:=takeWhile_all fun c hc=>by rcases h c hc with rfl | rfl<;>decide
set_option maxHeartbeats 4000000 in
theorem gives_bits {x : Str}{u v : Tok}(hl : x.length <= 640)(hb : bits x.cps.toList)(hne : x.cps.toList ≠ []) : Gives (Builtin.«int.__new__» ⟨[.type "int", .str x u, .int 2 v], []⟩) (.int (v2 x.cps.toList : Nat)) :=
  .of_wp fun M A E s Q h => by
    obtain ⟨hp, g, d, tk, os⟩ := s
    have f1 := F.conv_sub_int
    have f2 := F.madeHere_int
    have f6 : typeOf (.str x u) = pure (.type "str") := rfl
    have hs : ((x.cps.toList).takeWhile (· != 0)).length <= 640 := by rw [Hk hb]; simpa [Str.length] using hl
    have hr := gZ hb hne
    rw [<- Hk hb] at hr
    rw [Hk hb] at hr
    have hr : (int_private% "readNumeral") 0 2 ((x.cps.toList).takeWhile (· != 0)) = (int_private% "Numeral.value") (v2 x.cps.toList : Nat) := by rw [Hk hb]; exact hr
    have ha : (((x.cps.toList).takeWhile (· != 0)).length == (x.cps.toList).length) = true := by rw [Hk hb]; simp
    have ht := Ve hb
    have hk := Hid.mk (And.intro hs (And.intro hr (And.intro ha ht)))
    clear hs hr hl ha ht hne
    repeat (any_goals (first
      | assumption
      | ((with_reducible show wpAny _ _ ((int_private% "intFromText") _ _ _) _ _ _); rw [hk.out.2.2.2]; refine oA hk.out.1 hk.out.2.1 hk.out.2.2.1 ?_)
      | wp_step))
    all_goals first | exact ⟨_, rfl, h⟩ | skip
end IB
section
variable {X:Cx}
def vE:List V->Hp->VK->Prop:=fun xs H Q=>∃ z,xs=[.str z,.int 2]/\z.length<=640/\IB.bits z.cps.toList/\z.cps.toList≠[]/\Q (.int (IB.v2 z.cps.toList:Nat)) H
theorem Sl:Dj X (.type "int") vE:=by
 intro pins s σ H xs us Q I r h
 obtain ⟨z,rfl,hl,hb,hne,q⟩:=h
 obtain ⟨u,w',rfl,ru,rw'⟩:=Mc r
 obtain ⟨t,rfl⟩:=ru
 obtain ⟨t',rfl⟩:=rw'
 exact callType_new F.called_int F.newNe_int (IB.typeCall_int_2 _ _) (IB.newCall_int_2 _ _) (fun obj=>F.args_object_init_3 obj _ _) F.entry_int_new (IB.gives_bits hl hb hne).meets (show (Made.int _).post _ s from ⟨rfl,.int (IB.v2 z.cps.toList:Nat),H,I.tok _,⟨_,rfl⟩,q⟩)
end
theorem Zh (n:Nat):Builtin.Str.strSliceIndices none none (-1) n=(List.range n).map fun k=>n-1-k:=by
 unfold Builtin.Str.strSliceIndices
 dsimp only
 rw [if_neg (by decide),if_neg (by decide)]
 unfold sliceRange
 dsimp only
 rw [if_neg (by decide)]
 have e:(if ((n:Int)-1 > -1) then ((n:Int)-1 - -1 - -1-1)/(- -1) else 0).toNat=n:=by
  split
  ·simp
  ·omega
 rw [e]
 refine List.map_congr_left fun k hk=>?_
 have:=List.mem_range.mp hk
 omega
theorem Tr (l:List Nat):∀ n,n<=l.length->((List.range n).map fun k=>n-1-k).filterMap (l[·]?)=(l.take n).reverse
 | 0,_=>by simp
 | n+1,h=>by
  have hl:n<l.length:=h
  rw [List.range_succ_eq_map,List.map_cons,List.map_map,List.filterMap_cons]
  have e:((fun k=>n+1-1-k) ∘ Nat.succ)=fun k=>n-1-k:=by
   funext k
   show n+1-1-(k+1)=n-1-k
   omega
  rw [e,show n+1-1-0=n by omega,List.getElem?_eq_getElem hl]
  dsimp only
  rw [Tr l n (by omega),List.take_add_one,List.getElem?_eq_getElem hl,Option.toList_some,List.reverse_append]
  rfl
section
variable {X:Cx} {e:Expr} {te:TE} {p1 p2 p3 pos:Pos} {j:Nat}
theorem Kk (z:Str):(Sy z).length=z.length:=by
 show z.cps.toList.reverse.toArray.size=z.cps.size
 simp
theorem pU {x1}(he:PE X e te):PE X (.Subscript e (.Slice none none (some (.UnaryOp .USub (.Constant (.int 1) x1 p1) p2)) p3) pos) (wM te):=by
 intro pins s σ H Q I h
 refine Subscript_ (thn (he pins s σ H _ I h) fun v s1 ⟨x,H1,I1,r1,q1⟩=>?_)
 obtain ⟨z,rfl,hz,q⟩:=q1
 obtain ⟨t,rfl⟩:=r1
 refine wpAny_Slice ?_
 rw [evalPart_none]
 refine wpAny_pure (wpAny_pure ?_)
 rw [evalPart_some]
 have hm:PE X (.UnaryOp .USub (.Constant (.int 1) x1 p1) p2) (tUn (rU fun i=>.int (-i)) (tC (.int 1))):=Dy Ch Af
 refine thn (hm pins s1 σ H1 (fun y H2=>y=.int (-1)/\H2=H1) I1 ⟨1,rfl,rfl,rfl⟩) fun w s2 ⟨y,H2,I2,r2,e2,e3⟩=>?_
 subst e2 e3
 obtain ⟨t2,rfl⟩:=r2
 have I4:Inv X pins σ H2 { s2 with heap:=s2.heap.push { cls:=.type "slice",data:=.fields #[.none,.none,.int (-1) t2] } }:=I2.kept (t':=s2.toks) fun b ob q=>Heap.get?_push_of_some _ q
 have hs:(s2.heap.push { cls:=.type "slice",data:=.fields #[.none,.none,.int (-1) t2] }).IsSlice s2.heap.objs.size none none (some (-1,t2)):=⟨_,Heap.get?_push_size _ rfl,rfl,rfl⟩
 refine tail_any (ops:=[.ref s2.heap.objs.size,.str z t]) (typeIs_str _ _ _) PySem.F.slot_str_getitem.lookup ?_ (by with_unfolding_all rfl)
 refine wpAny_getItem_str_slice hs rfl ?_
 have em:sliceMade z t none none (some (-1,t2))=.str (Sy z):=by
  unfold sliceMade
  rw [if_neg (by simp)]
  show Made.str ⟨((Builtin.Str.strSliceIndices none none (-1) z.length).filterMap (z.cps[·]?)).toArray⟩=_
  rw [Zh]
  have:=Tr z.cps.toList z.cps.toList.length (Nat.le_refl _)
  have e1:z.cps.toList.length=z.length:=by simp [Str.length]
  rw [e1] at this
  have e2:(fun i:Nat=>z.cps[i]?)=fun i:Nat=>z.cps.toList[i]?:=by funext i;simp
  rw [e2,this,List.take_of_length_le (by simp [Str.length])]
  rfl
 rw [em]
 refine ⟨?_,.str (Sy z),H2,I4.tok _,⟨_,rfl⟩,q⟩
 show (Sy z).length<=_
 rw [Kk]
 exact hz
end
theorem vG {te:TE}{σ:St}{H:Hp}{Q:VK}(h:te σ H fun x H1=>∃ z,x=.str z/\z.length<=sizeLine/\Q (.str (Sy z)) H1):wM te σ H Q:=h
inductive Cr (K:PySem.W.Frag) (H:Hp):Nat->V->V->Prop where
 | flat {n:Nat} {x:V} (h:Db x=true):Cr K H n x x
 | tup {n:Nat} {a b:Addr} {xs ys:List V} (h1:SqT K H a xs) (h2:SqT K H b ys) (hl:xs.length=ys.length) (h:∀ (j:Nat) (x y:V),xs[j]?=some x->ys[j]?=some y->Cr K H n x y):Cr K H (n+1) (.ref a) (.ref b)
 | lst {n:Nat} {a b:Addr} {xs ys:List V} (h1:SqL K H a xs) (h2:SqL K H b ys) (hl:xs.length=ys.length) (h:∀ (j:Nat) (x y:V),xs[j]?=some x->ys[j]?=some y->Cr K H n x y):Cr K H (n+1) (.ref a) (.ref b)
theorem lV {x:V}(h:Db x=true):eqV x x=true:=by
 cases x<;>first | rfl | (simp [eqV];done) | cases h
theorem Cr.flats {K:PySem.W.Frag}{H:Hp}{n:Nat}{xs:List V}(h:xs.all Db=true):∀ (j:Nat) (x y:V),xs[j]?=some x->xs[j]?=some y->Cr K H n x y:=fun j x y h1 h2=>by
 rw [h1] at h2
 cases h2
 exact .flat (List.all_eq_true.mp h x (List.mem_of_getElem? h1))
theorem Cr.tups {K:PySem.W.Frag}{H:Hp}{n:Nat}{a b:Addr}{xs:List V}(h1:SqT K H a xs)(h2:SqT K H b xs)(h:xs.all Db=true):Cr K H (n+1) (.ref a) (.ref b):=.tup h1 h2 rfl (Cr.flats h)
theorem Hm (ns:List Int):(ns.map V.int).all Db=true:=by simp [List.all_eq_true,Db]
section
variable {X:Cx} {pins:List (Addr×Obj)} {σ:St} {H:Hp} {s:Shared}
theorem Hi {n:Nat}{e:Nat->Bool}(h:∀ j,e j=true):(List.range n).all e=true:=by simp [h]
mutual
theorem Cr.eqAt (I:Inv X pins σ H s):∀ {n:Nat} {x y:V} {A:Around} {u v:Value},A.units+n<cLine->Cr X.K H n x y->Bc x u->Bc y v->SeqAt.EqAt A s u v true
 | _,_,_,A,u,v,hu,.flat h,ru,rv=>by
  have:=Zf (A:=A) (s:=s) ru rv h h
  rw [lV h] at this
  exact this
 | n+1,.ref a,.ref b,A,u,v,hu,.tup (xs:=xs) (ys:=ys) h1 h2 hl h,ru,rv=>by
  cases ru;cases rv
  by_cases hab:a=b
  ·subst hab;exact SeqAt.EqAt.same _
  ·obtain ⟨is,r1,p1,_⟩:=I.tuple h1
   obtain ⟨js,r2,p2,_⟩:=I.tuple h2
   have l1:=r1.length;have l2:=r2.length
   have:=SeqAt.RcAt.tuples (A:=A) (e:=fun _=>true) p1 p2 (by omega) fun j a1 a2=>Cr.items I (by show A.units+1+n<cLine;omega) h r1 r2 j (by simpa using a1) (by simpa using a2)
   refine SeqAt.EqAt.of_refs hab ?_
   rw [Hi fun _=>rfl] at this
   simpa [<- l1,<- l2,hl] using this
 | n+1,.ref a,.ref b,A,u,v,hu,.lst (xs:=xs) (ys:=ys) h1 h2 hl h,ru,rv=>by
  cases ru;cases rv
  by_cases hab:a=b
  ·subst hab;exact SeqAt.EqAt.same _
  ·obtain ⟨is,r1,p1,_⟩:=I.list h1
   obtain ⟨js,r2,p2,_⟩:=I.list h2
   have l1:=r1.length;have l2:=r2.length
   have:=SeqAt.RcAt.lists (A:=A) (e:=fun _=>true) p1.isList p2.isList (by simp;omega) (by omega) fun j a1 a2=>Cr.items I (by show A.units+1+n<cLine;omega) h r1 r2 j (by simpa using a1) (by simpa using a2)
   refine SeqAt.EqAt.of_refs hab ?_
   rw [Hi fun _=>rfl] at this
   exact this
theorem Cr.items (I:Inv X pins σ H s){n:Nat}{A:Around}{xs ys:List V}{us vs:List Value}(hu:A.units+n<cLine)(h:∀ (j:Nat) (x y:V),xs[j]?=some x->ys[j]?=some y->Cr X.K H n x y)(r1:A0 xs us)(r2:A0 ys vs)(j:Nat)(h1:j<us.length)(h2:j<vs.length) :
  SeqAt.EqAt A s us[j] vs[j] true:=by
 have l1:=r1.length;have l2:=r2.length
 obtain ⟨x,ex⟩:∃ x,xs[j]?=some x:=⟨_,List.getElem?_eq_getElem (by omega)⟩
 obtain ⟨y,ey⟩:∃ y,ys[j]?=some y:=⟨_,List.getElem?_eq_getElem (by omega)⟩
 obtain ⟨u,eu,ru⟩:=r1.get ex
 obtain ⟨v,ev,rv⟩:=r2.get ey
 rw [List.getElem?_eq_getElem h1] at eu
 rw [List.getElem?_eq_getElem h2] at ev
 cases eu;cases ev
 exact Cr.eqAt I hu (h j x y ex ey) ru rv
end
end
def eC (K:PySem.W.Frag)(r:Bool):R2:=fun x y H Q=>∃ a b,x=.ref a/\y=.ref b/\Cr K H 60 x y/\Q (.bl r) H
section
variable {X:Cx}
theorem xM (hu:X.A.units+60<cLine):OpR X (compareOp .Eq) (eC X.K true):=by
 intro pins s σ H x y v u Q I rx ry h
 obtain ⟨a,b,rfl,rfl,hs,q⟩:=h
 cases rx;cases ry
 cases hs with
 | flat h=>cases h
 | @tup n _ _ xs ys h1 h2 hl h =>
  obtain ⟨is,r1,p1,_⟩:=I.tuple h1
  obtain ⟨js,r2,p2,_⟩:=I.tuple h2
  have l1:=r1.length;have l2:=r2.length
  have:=SeqAt.RcAt.tuples (A:=X.A) (e:=fun _=>true) p1 p2 (by omega) fun j a1 a2=>Cr.items I (by show X.A.units+1+59<cLine;omega) h r1 r2 j (by simpa using a1) (by simpa using a2)
  rw [Hi fun _=>rfl] at this
  refine this _ _ _ _ ⟨.bl true,H,I,?_,q⟩
  simp [Bc,<- l1,<- l2,hl]
 | @lst n _ _ xs ys h1 h2 hl h =>
  obtain ⟨is,r1,p1,_⟩:=I.list h1
  obtain ⟨js,r2,p2,_⟩:=I.list h2
  have l1:=r1.length;have l2:=r2.length
  have:=SeqAt.RcAt.lists (A:=X.A) (e:=fun _=>true) p1.isList p2.isList (by simp;omega) (by omega) fun j a1 a2=>Cr.items I (by show X.A.units+1+59<cLine;omega) h r1 r2 j (by simpa using a1) (by simpa using a2)
  rw [Hi fun _=>rfl] at this
  exact this _ _ _ _ ⟨.bl true,H,I,rfl,q⟩
theorem Zj (hu:X.A.units+60<cLine):OpR X (compareOp .NotEq) (eC X.K false):=by
 intro pins s σ H x y v u Q I rx ry h
 obtain ⟨a,b,rfl,rfl,hs,q⟩:=h
 cases rx;cases ry
 cases hs with
 | flat h=>cases h
 | @tup n _ _ xs ys h1 h2 hl h =>
  obtain ⟨is,r1,p1,_⟩:=I.tuple h1
  obtain ⟨js,r2,p2,_⟩:=I.tuple h2
  have l1:=r1.length;have l2:=r2.length
  have:=SeqAt.RcNeAt.tuples (A:=X.A) (e:=fun _=>true) p1 p2 (by omega) fun j a1 a2=>Cr.items I (by show X.A.units+1+59<cLine;omega) h r1 r2 j (by simpa using a1) (by simpa using a2)
  rw [Hi fun _=>rfl] at this
  refine this _ _ _ _ ⟨.bl false,H,I,?_,q⟩
  simp [Bc,<- l1,<- l2,hl]
 | @lst n _ _ xs ys h1 h2 hl h =>
  obtain ⟨is,r1,p1,_⟩:=I.list h1
  obtain ⟨js,r2,p2,_⟩:=I.list h2
  have l1:=r1.length;have l2:=r2.length
  have:=SeqAt.RcNeAt.lists (A:=X.A) (e:=fun _=>true) p1.isList p2.isList (by simp;omega) (by omega) fun j a1 a2=>Cr.items I (by show X.A.units+1+59<cLine;omega) h r1 r2 j (by simpa using a1) (by simpa using a2)
  rw [Hi fun _=>rfl] at this
  exact this _ _ _ _ ⟨.bl false,H,I,rfl,q⟩
end
theorem Zs {K:PySem.W.Frag}{H:Hp}{Q:VK}{a b:Addr}{r:Bool}(h:Cr K H 60 (.ref a) (.ref b))(q:Q (.bl r) H):eC K r (.ref a) (.ref b) H Q:=⟨a,b,rfl,rfl,h,q⟩
theorem pL {A:Around}{k:Nat}(hr:B2 k A):A.units+60<cLine:=by have:=hr.units;omega
def eqL (xs ys:List V):Bool:=decide (xs.length=ys.length)&&(List.range xs.length).all fun j=>eqV (xs.getD j .non) (ys.getD j .non)
def wG (K:PySem.W.Frag)(n:Bool):R2:=fun x y H Q=>∃ a b xs ys,x=.ref a/\y=.ref b/\SqL K H a xs/\SqL K H b ys/\xs.all Db=true/\ys.all Db=true/\Q (.bl (n != eqL xs ys)) H
section
variable {X:Cx} {pins:List (Addr×Obj)} {σ:St} {H:Hp} {s:Shared}
theorem gU {A:Around}{xs ys:List V}{us vs:List Value}(f1:xs.all Db=true)(f2:ys.all Db=true)(r1:A0 xs us)(r2:A0 ys vs)(j:Nat)(h1:j<us.length)(h2:j<vs.length) :
  SeqAt.EqAt A s us[j] vs[j] (eqV (xs.getD j .non) (ys.getD j .non)):=by
 have l1:=r1.length;have l2:=r2.length
 have e1:xs[j]?=some (xs[j]'(by omega)):=List.getElem?_eq_getElem _
 have e2:ys[j]?=some (ys[j]'(by omega)):=List.getElem?_eq_getElem _
 obtain ⟨u,eu,ru⟩:=r1.get e1
 obtain ⟨v,ev,rv⟩:=r2.get e2
 rw [List.getElem?_eq_getElem h1] at eu
 rw [List.getElem?_eq_getElem h2] at ev
 cases eu;cases ev
 simp only [List.getD,e1,e2,Option.getD_some]
 exact Zf ru rv (List.all_eq_true.mp f1 _ (List.mem_of_getElem? e1)) (List.all_eq_true.mp f2 _ (List.mem_of_getElem? e2))
end
section
variable {X:Cx}
theorem tT (hu:X.A.units+60<cLine):OpR X (compareOp .Eq) (wG X.K false):=by
 intro pins s σ H x y v u Q I rx ry h
 obtain ⟨a,b,xs,ys,rfl,rfl,h1,h2,f1,f2,q⟩:=h
 cases rx;cases ry
 obtain ⟨is,r1,p1,_⟩:=I.list h1
 obtain ⟨js,r2,p2,_⟩:=I.list h2
 have l1:=r1.length;have l2:=r2.length
 by_cases hl:xs.length=ys.length
 ·have:=SeqAt.RcAt.lists (A:=X.A) (e:=fun j=>eqV (xs.getD j .non) (ys.getD j .non)) p1.isList p2.isList (by simp;omega) (by omega) fun j a1 a2=>gU (s:=s) f1 f2 r1 r2 j (by simpa using a1) (by simpa using a2)
  refine this _ _ _ _ ⟨.bl (false != eqL xs ys),H,I,?_,q⟩
  unfold eqL
  rw [decide_eq_true hl]
  simp [Bc,<- l1]
 ·have:=SeqAt.RcAt.lists_lengths (A:=X.A) p1.isList p2.isList (by simp;omega) (by omega)
  refine this _ _ _ _ ⟨.bl (false != eqL xs ys),H,I,?_,q⟩
  unfold eqL
  rw [decide_eq_false hl]
  simp [Bc]
end
theorem mI (ns ms:List Int):eqL (ns.map V.int) (ms.map V.int)=decide (ns=ms):=by
 unfold eqL
 rw [List.length_map,List.length_map]
 by_cases hl:ns.length=ms.length
 ·rw [decide_eq_true hl,Bool.true_and]
  by_cases h:ns=ms
  ·subst h
   rw [decide_eq_true rfl,List.all_eq_true]
   intro j hj
   have hj:j<ns.length:=List.mem_range.mp hj
   simp [List.getD,hj,eqV]
  ·rw [decide_eq_false h]
   refine Bool.eq_false_iff.mpr fun hc=>h (List.ext_getElem hl fun j h1 h2=>?_)
   have:=List.all_eq_true.mp hc j (List.mem_range.mpr h1)
   simp [List.getD,h1,h2,eqV] at this
   exact this
 ·rw [decide_eq_false hl,Bool.false_and,decide_eq_false]
  intro e
  exact hl (by rw [e])
theorem qM {K:PySem.W.Frag}{H:Hp}{Q:VK}{a b:Addr}{ns ms:List Int}(h1:SqL K H a (ns.map V.int))(h2:SqL K H b (ms.map V.int))(q:Q (.bl (decide (ns=ms))) H):wG K false (.ref a) (.ref b) H Q:=by
 refine ⟨a,b,_,_,rfl,rfl,h1,h2,Hm _,Hm _,?_⟩
 rw [mI]
 cases hd:decide (ns=ms)<;>(rw [hd] at q;exact q)
section
variable {X:Cx} {tg:Expr}
def sJ:V->List V->Hp->VK->Prop:=fun x vs H Q=>∃ (l:Addr) (ns:List Int) (k:Int) (j:Nat),x=.ref l/\vs=[.int k]/\H l=some (.lst (ns.map V.int))/\ns[j]?=some k/\(∀ i:Nat,i<j->ns[i]?≠some k)/\Q (.int (j:Nat)) H
theorem Wz:MtM X "list.index" sJ:=by
 intro pins s σ H x vs v us Q I rx rv h
 obtain ⟨l,ns,k,j,rfl,rfl,hH,hj,hno,q⟩:=h
 cases rx
 obtain ⟨u,rfl,t,rfl⟩:=Gg rv
 obtain ⟨z,its,n,r,hl,e⟩:=I.lstM hH
 have fl:=Hm ns
 have hjl:=(List.getElem?_eq_some_iff.mp hj).1
 have hln:ns.length=its.length:=by rw [<- hl,List.length_map]
 have at':∀ i (hi:i<its.length),eqU (.int k) its[i]=decide (ns[i]?=some k):=fun i hi=>by
  have e1:(ns.map V.int)[i]?=some (.int (ns[i]'(by omega))):=by rw [List.getElem?_map,List.getElem?_eq_getElem (by omega)];rfl
  obtain ⟨u,eu,ru⟩:=r.get e1
  rw [List.getElem?_eq_getElem hi] at eu
  cases eu
  rw [R6 ru rfl,List.getElem?_eq_getElem (by omega)]
  show (ns[i]==k)=decide (some ns[i]=some k)
  by_cases h:ns[i]=k
  ·rw [decide_eq_true (congrArg some h)]
   simpa using h
  ·rw [decide_eq_false fun z=>h (Option.some.inj z)]
   simpa using h
 have sl:=Id
 refine call_meets F.slot_list_index ⟨_,e,rfl⟩ F.entry_list_index (F.args_list_index_2 _ _)
  (SeqAt.list_indexAt l its.toArray n none #[] (.int k t) (eqU (.int k)) j (by simp;omega) (by rw [List.length_map] at z;omega) ?_ ?_) ⟨e,fun y hy=>Hh (x:=.int k) (v:=.int k t) ⟨t,rfl⟩ rfl r fl y (by simpa using hy),?_⟩
 ·show eqU (.int k) its[j]=true
  rw [at' j (by omega),decide_eq_true hj]
 ·intro i hi hlt
  show eqU (.int k) its[i]=false
  rw [at' i (by simpa using hi),decide_eq_false (hno i hlt)]
 ·exact ⟨.int j,H,I.tok _,⟨_,rfl⟩,q⟩
end
section
variable {prog:Program} {w:World} {A:Around} {E:Value->Shared->Prop} {s:Shared}
theorem Kz {t sl:Addr}{items:Array Value}{vl vu:Value}{lo hi:Option Int}{Q:Value->Shared->Prop}(ht:IsTup s.heap t items)(hs:s.heap.IsSliceOf sl vl vu .none)(pl:IsPart vl lo)(pu:IsPart vu hi)
  (h1:HT.sIx items.size 0 lo=0)(h2:HT.sIx items.size items.size hi=items.size)(h:Q (.ref t) s):wpAny (model prog w) A (getItem (.ref t) (.ref sl)) Q E s:=by
 obtain ⟨os,hos,hcs,hds⟩:=id hs
 have hTs:s.TypeIs (.ref sl) "slice":=⟨os,hos,hcs⟩
 unfold getItem
 try with_reducible refine wpAny_holding ?_
 first | refine wpAny_bind (wpAny_pure ?_) | skip
 refine wpAny_bind (wpAny_sequenceKey ht.typeIs (by decide) ?_)
 refine wpAny_bind (wpAny_callSpecial?_slot (name:=Str.ofString "__getitem__") ht.typeIs PyProof.Rows.slot_tuple_getitem
  (wpAny_call_entry PyProof.Rows.slot_tuple_getitem ht.typeIs entry_tuple_getitem ?_ (args_tuple_getitem _ _)))
 show wpAny _ _ (Builtin.Tuple.tupleItemsOf (.ref t) >>= _) _ _ s
 refine wpAny_bind (tupleItemsOf_ ht ?_)
 refine wpAny_bind (wpAny_typeOf hTs ?_)
 rw [if_pos (by decide)]
 refine wpAny_bind (HT.sliceApplied_gen hs pl pu ?_)
 show wpAny _ _ (if (((HT.sIx items.size 0 lo:Nat):Int)==0&&(1:Int)==1&&(HT.sIx items.size items.size hi-HT.sIx items.size 0 lo)==items.size)=true then _ else _) _ _ s
 rw [if_pos (by rw [h1,h2];simp)]
 refine wpAny_bind (wpAny_bind (wpAny_typeOf ht.typeIs (wpAny_pure ?_)))
 rw [if_pos (by decide)]
 refine wpAny_bind (wpAny_rule ?_)
 exact wpAny_bind (wpAny_pure (wpAny_pure ⟨_,rfl,wpAny_pure h⟩))
end
section
variable {X:Cx}
def wN (K:PySem.W.Frag):V->Option Int->Option Int->Hp->VK->Prop:=fun x lo hi H Q=>∃ a xs,x=.ref a/\SqT K H a xs/\∀ p H',Ak H H'->SqT K H' p (Lr xs lo hi)->Q (.ref p) H'
theorem U1:SlR X (wN X.K):=by
 intro pins s σ H x v vl vu lo hi sl Q I rx hs pl pu h
 obtain ⟨a,xs,rfl,hx,q⟩:=h
 by_cases hw:HT.sIx xs.length 0 lo=0/\HT.sIx xs.length xs.length hi=xs.length
 ·cases rx
  obtain ⟨its,r,ht,hz⟩:=I.tuple hx
  have hlen:its.toArray.size=xs.length:=by rw [List.size_toArray];exact r.length.symm
  refine ⟨"tuple",_,PyProof.Rows.slot_tuple_getitem.lookup,ht.typeIs,?_⟩
  refine Kz ht hs pl pu (by rw [hlen];exact hw.1) (by rw [hlen];exact hw.2) ⟨.ref a,H,I,rfl,q a H (Ak.refl _) ?_⟩
  have:Lr xs lo hi=xs:=by
   unfold Lr
   rw [hw.1,hw.2]
   simp
  rw [this]
  exact hx
 ·exact sY pins s σ H _ v vl vu lo hi sl Q I rx hs pl pu ⟨a,xs,rfl,hx,hw,fun p hp=>q p _ (Ah hp) (SqT.of Ac)⟩
theorem Ba {x:Str}{i:Int}{pos:Pos}(hg:Gl X x)(hm:∃ t,X.mg x=some (.int i t))(hd:(x==("__debug__":Str))=false:=by decide):PE X (.Name x pos) (tC (.int i)):=by
 obtain ⟨t,h⟩:=hm
 exact Bz hg h ⟨t,rfl⟩ hd
end
section
variable {σ:St} {H:Hp} {D:Hb} {Q:VK} {te:TE} {QB:Bool->Hp->Prop} {tA:TA}
theorem vW {K:PySem.W.Frag}{T:String}{r:V->List V->Hp->VK->Prop}(h:te σ H fun x H1=>tyV K T x H1/\r x [] H1 Q):vH K T r te σ H Q:=h
theorem qI {z:Str}{lo hi:Option Int}(h1:z.length<=sizeLine)(h:Q (.str (Vw z lo hi)) H):uU (.str z) lo hi H Q:=⟨z,rfl,h1,h⟩
end
theorem vY {A B:Prop}(h:B):if (!true)=true then A else B:=by
 rw [if_neg (by decide)]
 exact h
theorem vV {A B:Prop}(h:A):if (!false)=true then A else B:=by
 rw [if_pos (by decide)]
 exact h
def SameBut (x:Addr)(H H':Hp):Prop:=∀ b o,b≠x->H b=some o->H' b=some o
theorem Ak.but {H H':Hp}{x:Addr}(h:Ak H H'):SameBut x H H':=fun b o _ e=>h b o e
theorem SameBut.trans {H H1 H2:Hp}{x:Addr}(a:SameBut x H H1)(b:SameBut x H1 H2):SameBut x H H2:=fun c o n h=>b c o n (a c o n h)
def mZ (H:Hp)(x:Addr):Prop:=∀ u,¬ Rd H x (.tup u)/\¬ Rd H x (.lst u)
theorem Ea {H:Hp}{x C dx:Addr}{fs:List (Str×V)}(h:H x=some (.ins C dx fs)):mZ H x:=fun u=>by
 constructor<;>(rintro (e | ⟨o,e⟩)<;>(rw [h] at e;cases e))
theorem A7 {H:Hp}{x:Addr}{o:HO}:SameBut x H (upd H x o):=fun b u n e=>by rw [Al n];exact e
theorem lH {J:It}{H1:Hp}{fr:St}{tc:TT}{te:TE}{Q:VK}(n:Nat)(item:Nat->V)(Pv:Nat->List V->Hp->Prop)(h0:∀ H,Ak H1 H->Pv 0 [] H)
  (stab:∀ i ys H D xs o,H D=some (.lst xs)->Pv i ys H->Pv i ys (upd H D o))(hz:∀ i ys H,i<n->Pv i ys H->ys.length<sizeLine)
  (hgo:∀ i H,i<n->Ak H1 H->J.go i H)(hy:∀ i H x H',i<n->Ak H1 H->J.yld i H x H'->x=item i/\H'=H)(hst:∀ H,Ak H1 H->J.stop n H)
  (turn:∀ i ys H (A:VK) (R:Hp->Prop),i<n->Ak H1 H->Pv i ys H->(∀ y H',Ak H H'->Pv (i+1) (ys++[y]) H'->A y H')->tc (some (item i)::fr) H fun b H3=>if b=true then te (some (item i)::fr) H3 A else R H3)
  (fin:∀ D ys H,H1 D=none->Ak H1 H->Pv n ys H->H D=some (.lst ys)->Q (.ref D) H):Ry J H1 fr tc te Q:=by
 intro D hD
 refine ⟨fun i m H=>i<=n/\m=n-i/\Ak H1 H/\∃ ys,H D=some (.lst ys)/\Pv i ys H,⟨n,Nat.zero_le _,rfl,Ah hD,[],Ac,h0 _ (Ah hD)⟩,?_⟩
 rintro i m H ⟨hi,rfl,sm,ys,hl,hp⟩
 by_cases h:i=n
 ·subst h
  exact .inl ⟨hst H sm,fin D ys H hD sm hp hl⟩
 ·have hlt:i<n:=Nat.lt_of_le_of_ne hi h
  refine .inr ⟨hgo i H hlt sm,fun x H' hyl=>?_⟩
  obtain ⟨rfl,rfl⟩:=hy i H x H' hlt sm hyl
  refine turn i ys H' _ _ hlt sm hp (fun y H4 s4 hp4=>?_)
  refine ⟨ys,s4 _ _ hl,hz i ys _ hlt hp,n-(i+1),by omega,by omega,rfl,fun b u e=>?_,ys++[y],Ac,stab _ _ _ _ _ _ (s4 _ _ hl) hp4⟩
  rw [Al (Aq e hD)]
  exact s4 _ _ (sm _ _ e)
theorem fU {lo st:Int}{n:Nat}{H1:Hp}{fr:St}{tc:TT}{te:TE}{Q:VK}(Pv:Nat->List V->Hp->Prop)(h0:∀ H,Ak H1 H->Pv 0 [] H)
  (stab:∀ i ys H D xs o,H D=some (.lst xs)->Pv i ys H->Pv i ys (upd H D o))(hz:∀ i ys H,i<n->Pv i ys H->ys.length<sizeLine)
  (turn:∀ (i:Nat) ys H (A:VK) (R:Hp->Prop),i<n->Ak H1 H->Pv i ys H->(∀ y H',Ak H H'->Pv (i+1) (ys++[y]) H'->A y H')->tc (some (.int (lo+i*st))::fr) H fun b H3=>if b=true then te (some (.int (lo+i*st))::fr) H3 A else R H3)
  (fin:∀ D ys H,H1 D=none->Ak H1 H->Pv n ys H->H D=some (.lst ys)->Q (.ref D) H):Ry (kS lo st n) H1 fr tc te Q :=
 lH n (fun i=>.int (lo+i*st)) Pv h0 stab hz (fun i H hi _=>hi) (fun i H x H' _ _ h=>⟨h.2,h.1⟩) (fun H _=>Nat.le_refl n) turn fin
theorem oF {X:Cx}{sc:Scope}{N:List Str}{C:Addr}{s0:Shared}{H0:Hp}{fp:List Addr}{scope:Scope}{x:Str}{N2:List Str}{ix:List Nat}{px pos:Pos}{elt iter:Expr}{ifs:List Expr}{tc:TT}{te:TE}{wi:TI}
  (hc:X.calm=true)(L:∀ sc₀,Bq N sc₀ scope x N2 ix)(hi:PI (Cz X sc N C s0 H0 fp) (.Name x px) iter wi)
  (hif:∀ C' s' H' fp',PIf (Cz (Cz X sc N C s0 H0 fp) scope N2 C' s' H' fp') ifs tc)(he:∀ C' s' H' fp',PE (Cz (Cz X sc N C s0 H0 fp) scope N2 C' s' H' fp') elt te)
  (hs:∀ z,foldedSetIterable iter (Cz X sc N C s0 H0 fp).env z=pure z:=by intro _;rfl):PE (Cz X sc N C s0 H0 fp) (.ListComp elt [⟨.Name x px,iter,ifs,0⟩] scope pos) (tLc wi ix tc te) :=
 Oa (X:=Cz X sc N C s0 H0 fp) hc (L _) hi hif he hs
theorem pM (K:PySem.W.Frag){X:Cx}{tg l:Expr}{tl:TE}(hl:PE X l tl)(h:X.K=K:=by rfl):PI X tg l (uH K tl):=by
 subst h
 exact Z2 hl
theorem gJ (K:PySem.W.Frag){X:Cx}(hc:X.calm=true)(h:X.K=K:=by rfl):Dj X (.builtin "sum") (xD K):=by
 subst h
 exact jJ hc
theorem jG (K:PySem.W.Frag){X:Cx}(h:X.K=K:=by rfl):SlR X (wN K):=by
 subst h
 exact U1
theorem wV:bootBuiltins "abs"=some (.builtin "abs"):=by decide +kernel
def Vd (ns:List Int)(m:Int):Prop:=m∈ns/\∀ a∈ns,m<=a
def cS (ns:List Int)(m:Int):Prop:=m∈ns/\∀ a∈ns,a<=m
section
variable {X:Cx}
def qK (K:PySem.W.Frag):List V->Hp->VK->Prop:=fun xs H Q=>∃ (p:Addr) (ns:List Int),xs=[.ref p]/\SqL K H p (ns.map V.int)/\ns≠[]/\∀ m,Vd ns m->Q (.int m) H
def rJ (K:PySem.W.Frag):List V->Hp->VK->Prop:=fun xs H Q=>∃ (p:Addr) (ns:List Int),xs=[.ref p]/\SqL K H p (ns.map V.int)/\ns≠[]/\∀ m,cS ns m->Q (.int m) H
theorem eS {pins:List (Addr×Obj)}{s:Shared}{σ:St}{H:Hp}{p:Addr}{ns:List Int}(I:Inv X pins σ H s)(hp:SqL X.K H p (ns.map V.int)):∃ ys:Array (Int×Tok),s.heap.IsList p (intItems ys)/\ns=ys.toList.map (·.1):=by
 obtain ⟨its,r,pl,_⟩:=I.list hp
 have hi:=Rt r
 obtain ⟨ys,e⟩:=hi.allInts.items
 have hl:=pl.isList
 rw [e] at hl
 exact ⟨ys,hl,by rw [<- hi.numsOf,<- nums_intItems,<- e]⟩
theorem mU {ys:Array (Int×Tok)}{v:Value}(hz:0<ys.size)(hv:(intItems ys)[argBest (fun i j=>decide (numAt ys i<numAt ys j)) (ys.size-1)]?=some v):∃ m t,v=.int m t/\Vd (ys.toList.map (·.1)) m:=by
 obtain ⟨t,rfl⟩:=intItems_at hv
 obtain ⟨h1,h2⟩:=argBest_lt (numAt ys) (ys.size-1)
 refine ⟨_,t,rfl,?_,fun a ha=>?_⟩
 ·rw [numAt_eq]
  exact getD_mem (by rw [List.length_map,Array.length_toList];omega)
 ·obtain ⟨j,hj,rfl⟩:=mem_getD ha
  rw [List.length_map,Array.length_toList] at hj
  rw [<- numAt_eq]
  exact h2 j (by omega)
theorem oY {ys:Array (Int×Tok)}{v:Value}(hz:0<ys.size)(hv:(intItems ys)[argBest (fun i j=>decide (numAt ys i>numAt ys j)) (ys.size-1)]?=some v):∃ m t,v=.int m t/\cS (ys.toList.map (·.1)) m:=by
 obtain ⟨t,rfl⟩:=intItems_at hv
 obtain ⟨h1,h2⟩:=argBest_gt (numAt ys) (ys.size-1)
 refine ⟨_,t,rfl,?_,fun a ha=>?_⟩
 ·rw [numAt_eq]
  exact getD_mem (by rw [List.length_map,Array.length_toList];omega)
 ·obtain ⟨j,hj,rfl⟩:=mem_getD ha
  rw [List.length_map,Array.length_toList] at hj
  rw [<- numAt_eq]
  exact h2 j (by omega)
theorem Ru {ns:List Int}{ys:Array (Int×Tok)}(e:ns=ys.toList.map (·.1))(h:ns≠[]):0<ys.size:=by
 rcases Nat.eq_zero_or_pos ys.size with z | z
 ·exfalso
  apply h
  rw [e,List.eq_nil_of_length_eq_zero (l:=ys.toList) (by rw [Array.length_toList];exact z)]
  rfl
 ·exact z
theorem S3 (hc:X.calm=true):Dj X (.builtin "min") (qK X.K):=by
 intro pins s σ H xs us Q I r h
 obtain ⟨p,ns,rfl,hp,hne,q⟩:=h
 obtain ⟨u,rfl,ru⟩:=Gg r
 cases ru
 obtain ⟨ys,hl,e⟩:=eS I hp
 have hz:=Ru e hne
 refine min_intList (I.ok.hd hc) hl hz fun v h' tk hv hk=>?_
 obtain ⟨m,t,rfl,hm⟩:=mU hz hv
 exact ⟨.int m,H,I.kept hk,⟨t,rfl⟩,q m (e▸hm)⟩
theorem gT (hc:X.calm=true):Dj X (.builtin "max") (rJ X.K):=by
 intro pins s σ H xs us Q I r h
 obtain ⟨p,ns,rfl,hp,hne,q⟩:=h
 obtain ⟨u,rfl,ru⟩:=Gg r
 cases ru
 obtain ⟨ys,hl,e⟩:=eS I hp
 have hz:=Ru e hne
 refine max_intList (I.ok.hd hc) hl hz fun v h' tk hv hk=>?_
 obtain ⟨m,t,rfl,hm⟩:=oY hz hv
 exact ⟨.int m,H,I.kept hk,⟨t,rfl⟩,q m (e▸hm)⟩
end
theorem qB {z:Str}{g:TG}{tb:TS}{D:Hb}{σ:St}{H:Hp}(Pv:Nat->St->Hp->Prop)(h0:Pv 0 σ H)
  (hs:∀ (i c:Nat) σ H,z.cps[i]?=some c->Pv i σ H->g (.str (sgn c)) σ H fun σ2 H2=>tb { D with nx:=Pv (i+1),ct:=Pv (i+1),bk:=D.nx } σ2 H2)(hd:∀ σ H,Pv z.cps.size σ H->D.nx σ H):pV (Its z) g tb D σ H:=by
 refine ⟨fun i m σ H=>i<=z.cps.size/\m=z.cps.size-i/\Pv i σ H,⟨_,Nat.zero_le _,rfl,h0⟩,?_⟩
 rintro i m σ H ⟨hi,rfl,hP⟩
 by_cases h:i=z.cps.size
 ·subst h
  exact .inl ⟨Nat.le_refl _,hd σ H hP⟩
 ·have hlt:i<z.cps.size:=Nat.lt_of_le_of_ne hi h
  refine .inr ⟨hlt,Pv (i+1),fun σ' H' hN=>⟨z.cps.size-(i+1),by omega,hlt,rfl,hN⟩,fun x H' hy=>?_⟩
  obtain ⟨rfl,c,hc,rfl⟩:=hy
  exact hs i c σ _ hc hP
end L2
end
section
namespace TW
def val:List Bool->Nat
 | []=>0
 | b::r=>b.toNat+2*val r
def plc:Nat->List Bool->List Nat
 | _,[]=>[]
 | k,b::r=>if b then k::plc (k+1) r else plc (k+1) r
theorem iV:∀ l:List Bool,val l<2 ^ l.length
 | []=>by simp [val]
 | b::r=>by
  have:=iV r
  simp only [val,List.length_cons,Nat.pow_succ]
  have hb:b.toNat<=1:=Bool.toNat_le b
  omega
theorem Wx (b:Bool):∀ (l:List Bool) (k:Nat),plc k (l++[b])=plc k l++(if b then [k+l.length] else [])
 | [],k=>by cases b<;>simp [plc]
 | a::r,k=>by
  cases a<;>simp [plc,Wx b r,Nat.add_assoc,Nat.add_comm 1]
theorem P8:∀ (l:List Bool) (k:Nat),plc (k+1) l=(plc k l).map (·+1)
 | [],k=>rfl
 | a::r,k=>by cases a<;>simp [plc,P8 r]
theorem Pu:∀ (l:List Bool) (k:Nat),(plc k l).length=l.count true
 | [],k=>rfl
 | a::r,k=>by cases a<;>simp [plc,Pu r]
def pc (n:Nat):Nat:=if n=0 then 0 else n%2+pc (n/2)
termination_by n
decreasing_by omega
theorem O8:pc 0=0:=by rw [pc];rfl
theorem F2 (n:Nat):pc n=n%2+pc (n/2):=by
 by_cases h:n=0
 ·subst h;simp [O8]
 ·rw [pc,if_neg h]
theorem Ln:∀ l:List Bool,pc (val l)=l.count true
 | []=>by simp [val,O8]
 | b::r=>by
  rw [F2]
  have e1:val (b::r)%2=b.toNat:=by simp only [val];have:=Bool.toNat_le b;omega
  have e2:val (b::r)/2=val r:=by simp only [val];have:=Bool.toNat_le b;omega
  rw [e1,e2,Ln r]
  cases b<;>simp [List.count_cons,Nat.add_comm]
theorem xJ (n:Nat):pc n=pc (n%16)+pc (n/16):=by
 have a:pc n=n%2+(n/2%2+(n/4%2+(n/8%2+pc (n/16)))):=by
  rw [F2 n,F2 (n/2),F2 (n/2/2),F2 (n/2/2/2)]
  simp only [Nat.div_div_eq_div_mul]
 have b:pc (n%16)=n%16%2+(n%16/2%2+(n%16/4%2+(n%16/8%2+pc (n%16/16)))):=by
  rw [F2 (n%16),F2 (n%16/2),F2 (n%16/2/2),F2 (n%16/2/2/2)]
  simp only [Nat.div_div_eq_div_mul]
 have c:pc (n%16/16)=0:=by
  rw [show n%16/16=0 by omega,O8]
 have d1:n%16%2=n%2:=by omega
 have d2:n%16/2%2=n/2%2:=by omega
 have d3:n%16/4%2=n/4%2:=by omega
 have d4:n%16/8%2=n/8%2:=by omega
 rw [a,b,c,d1,d2,d3,d4]
 omega
def Tf:List Nat:=[0,1,1,2,1,2,2,3,1,2,2,3,2,3,3,4]
theorem jX:∀ r:Nat,r<16->Tf[r]?=some (pc r):=by
 have h:∀ b0 b1 b2 b3:Bool,Tf[val [b0,b1,b2,b3]]?=some ([b0,b1,b2,b3].count true):=by decide
 intro r hr
 have e:r=val [r.testBit 0,r.testBit 1,r.testBit 2,r.testBit 3]:=by
  have:∀ r:Fin 16,r.val=val [r.val.testBit 0,r.val.testBit 1,r.val.testBit 2,r.val.testBit 3]:=by decide
  exact this ⟨r,hr⟩
 rw [e,h,Ln]
def nth (n k:Nat):Option Nat :=
 if n=0 then none else if n%2=1 then (if k=0 then some 0 else (nth (n/2) (k-1)).map (·+1)) else (nth (n/2) k).map (·+1)
termination_by n
decreasing_by all_goals omega
theorem Ro (k:Nat):nth 0 k=none:=by rw [nth];rfl
theorem W3 (b:Bool)(m k:Nat):nth (b.toNat+2*m) k=if b then (if k=0 then some 0 else (nth m (k-1)).map (·+1)) else (nth m k).map (·+1):=by
 cases b with
 | false =>
  by_cases h:m=0
  ·subst h;simp [Ro]
  ·rw [nth,if_neg (by simp only [Bool.toNat_false];omega),if_neg (by simp only [Bool.toNat_false];omega)]
   simp only [Bool.toNat_false,Nat.zero_add,Bool.false_eq_true,if_false]
   rw [show 2*m/2=m by omega]
 | true =>
  rw [nth,if_neg (by simp only [Bool.toNat_true];omega),if_pos (by simp only [Bool.toNat_true];omega)]
  have e:(true.toNat+2*m)/2=m:=by simp only [Bool.toNat_true];omega
  rw [e];simp
theorem Wp:∀ (l:List Bool) (k:Nat),nth (val l) k=(plc 0 l)[k]?
 | [],k=>by simp [val,plc,Ro]
 | b::r,k=>by
  simp only [val,W3]
  cases b with
  | false=>simp [plc,P8,Wp r]
  | true =>
   cases k with
   | zero=>simp [plc]
   | succ k=>simp [plc,P8,Wp r]
def X0 (r:Nat):List Nat:=(List.range 4).filter fun p=>decide (r/2 ^ p%2=1)
theorem oE:∀ r:Nat,r<16->(X0 r).length=pc r:=by
 have h:∀ b0 b1 b2 b3:Bool,(X0 (val [b0,b1,b2,b3])).length=([b0,b1,b2,b3].count true):=by decide
 intro r hr
 have e:r=val [r.testBit 0,r.testBit 1,r.testBit 2,r.testBit 3]:=by
  have:∀ r:Fin 16,r.val=val [r.val.testBit 0,r.val.testBit 1,r.val.testBit 2,r.val.testBit 3]:=by decide
  exact this ⟨r,hr⟩
 rw [e,h,Ln]
theorem wO (n k:Nat):nth n k=if k<pc (n%16) then (X0 (n%16))[k]? else (nth (n/16) (k-pc (n%16))).map (·+4):=by
 obtain ⟨b0,b1,b2,b3,q,e⟩:∃ (b0 b1 b2 b3:Bool) (q:Nat),n=b0.toNat+2*(b1.toNat+2*(b2.toNat+2*(b3.toNat+2*q))):=by
  refine ⟨decide (n%2=1),decide (n/2%2=1),decide (n/4%2=1),decide (n/8%2=1),n/16,?_⟩
  have f:∀ m:Nat,(decide (m%2=1)).toNat=m%2:=fun m=>by
   by_cases h:m%2=1
   ·rw [decide_eq_true h,h];rfl
   ·rw [decide_eq_false h];show 0=m%2;omega
  rw [f,f,f,f];omega
 have e1:n%16=val [b0,b1,b2,b3]:=by
  simp only [val]
  have:=Bool.toNat_le b0;have:=Bool.toNat_le b1;have:=Bool.toNat_le b2;have:=Bool.toNat_le b3
  omega
 have e2:n/16=q:=by
  have:=Bool.toNat_le b0;have:=Bool.toNat_le b1;have:=Bool.toNat_le b2;have:=Bool.toNat_le b3
  omega
 rw [e1,e2,Ln,e]
 simp only [W3]
 cases b0<;>cases b1<;>cases b2<;>cases b3 <;>
  (rcases k with _ | _ | _ | _ | k<;>simp [X0,val,List.range,List.range.loop,List.filter,Option.map_map,Function.comp_def]<;>try omega)
end TW
end
section
namespace TW
def A1 (l:List Bool)(j:Nat):List Bool:=(l.drop (32*j)).take 32
def Bp (n:Nat):Nat:=(n+31)/32
def wordsOf (l:List Bool):List Nat:=(List.range (Bp l.length)).map fun j=>val (A1 l j)
def cnt (l:List Bool)(k:Nat):Nat:=(l.take k).count true
theorem eA (l:List Bool)(a b:Nat):cnt l (a+b)=cnt l a+((l.drop a).take b).count true:=by
 unfold cnt
 rw [List.take_add,List.count_append]
theorem Pd (l:List Bool){k:Nat}(h:l.length<=k):cnt l k=l.count true:=by
 unfold cnt
 rw [List.take_of_length_le h]
theorem Yn (l:List Bool)(j:Nat):cnt l (32*(j+1))=cnt l (32*j)+pc (val (A1 l j)):=by
 rw [Ln,show 32*(j+1)=32*j+32 by omega,eA]
 rfl
theorem Tt (l:List Bool)(a:Nat):∀ k:Nat,((List.range k).map fun i=>pc (val (A1 l (a+i)))).sum+cnt l (32*a)=cnt l (32*(a+k))
 | 0=>by simp
 | k+1=>by
  rw [List.range_succ,List.map_append,List.sum_append,List.map_singleton,List.sum_singleton]
  have:=Tt l a k
  have e:=Yn l (a+k)
  rw [show a+(k+1)=a+k+1 by omega,e]
  omega
theorem Wv (n:Nat):n<=32*Bp n:=by unfold Bp;omega
theorem Xy {n j:Nat}(h:j<Bp n):32*j<n:=by unfold Bp at h;omega
theorem gS (l:List Bool)(b:Nat)(k:Nat)(hk:k=min 8 (Bp l.length-8*b)):((List.range k).map fun i=>pc (val (A1 l (8*b+i)))).sum+cnt l (256*b)=cnt l (256*(b+1)):=by
 have h:=Tt l (8*b) k
 rw [show 32*(8*b)=256*b by omega] at h
 rw [h]
 by_cases hh:8<=Bp l.length-8*b
 ·rw [show k=8 by omega,show 32*(8*b+8)=256*(b+1) by omega]
 ·have:=Wv l.length
  rw [Pd l (k:=32*(8*b+k)) (by omega),Pd l (k:=256*(b+1)) (by omega)]
theorem dS:∀ (l:List Bool) (a:Nat),(l.reverse.foldl (fun acc b=>acc*2+b.toNat) a)=a*2 ^ l.length+val l
 | [],a=>by simp [val]
 | b::r,a=>by
  rw [List.reverse_cons,List.foldl_append,dS r a]
  simp only [List.foldl_cons,List.foldl_nil,val,List.length_cons,Nat.pow_succ]
  rw [Nat.add_mul,Nat.mul_assoc]
  omega
end TW
end
section
namespace TW
theorem Wo:∀ (w:List Bool) (k:Nat),val w/2 ^ k%2=(w.getD k false).toNat
 | [],k=>by simp [val]
 | b::r,0=>by
  cases b<;>simp [val]<;>omega
 | b::r,k+1=>by
  have ih:=Wo r k
  have e:val (b::r)/2 ^ (k+1)=val r/2 ^ k:=by
   rw [Nat.pow_succ,Nat.mul_comm (2 ^ k) 2,<- Nat.div_div_eq_div_mul]
   congr 1
   cases b<;>simp [val]<;>omega
  rw [e,ih]
  simp
theorem N9 (l:List Bool)(j:Nat){p:Nat}(hp:p<32):(A1 l j).getD p false=l.getD (32*j+p) false:=by
 unfold A1
 simp only [List.getD_eq_getElem?_getD,List.getElem?_take,List.getElem?_drop,hp,if_true]
def L8 (n:Nat):List Bool:=(List.range 32).map fun p=>decide (n/2 ^ p%2=1)
theorem gX (b:Bool):decide (b.toNat=1)=b:=by cases b<;>rfl
theorem fP (l:List Bool)(j:Nat):L8 (val (A1 l j))=(List.range 32).map fun p=>l.getD (32*j+p) false:=by
 unfold L8
 refine List.map_congr_left fun p hp=>?_
 rw [Wo,gX,N9 l j (List.mem_range.mp hp)]
theorem My {α:Type}(d:Nat)(f:Nat->α):∀ m:Nat,((List.range m).map fun j=>(List.range d).map fun p=>f (d*j+p)).flatten=(List.range (d*m)).map f
 | 0=>by simp
 | m+1=>by
  rw [List.range_succ,List.map_append,List.flatten_append,My d f m,Nat.mul_succ,List.range_add,List.map_append]
  simp [Function.comp_def]
def cU (r:Nat):List Bool:=(List.range 4).map fun k=>decide (r/2 ^ k%2=1)
theorem iJ (n j:Nat):cU (n/2 ^ (4*j)%16)=(List.range 4).map fun k=>decide (n/2 ^ (4*j+k)%2=1):=by
 unfold cU
 refine List.map_congr_left fun k hk=>?_
 have hk:=List.mem_range.mp hk
 rw [Nat.pow_add,<- Nat.div_div_eq_div_mul]
 generalize n/2 ^ (4*j)=m
 congr 1
 have:k=0\/k=1\/k=2\/k=3:=by omega
 rcases this with rfl | rfl | rfl | rfl<;>simp only [Nat.reducePow]<;>simp only [eq_iff_iff]<;>omega
theorem Rp (n:Nat):((List.range 8).map fun j=>cU (n/2 ^ (4*j)%16)).flatten=L8 n:=by
 have e:((List.range 8).map fun j=>cU (n/2 ^ (4*j)%16))=(List.range 8).map fun j=>(List.range 4).map fun k=>decide (n/2 ^ (4*j+k)%2=1):=List.map_congr_left fun j _=>iJ n j
 rw [e]
 exact My 4 (fun p=>decide (n/2 ^ p%2=1)) 8
theorem Pz (l:List Bool)(a m:Nat):((List.range m).map fun i=>L8 (val (A1 l (a+i)))).flatten=(List.range (32*m)).map fun p=>l.getD (32*a+p) false:=by
 have e:((List.range m).map fun i=>L8 (val (A1 l (a+i))))=(List.range m).map fun j=>(List.range 32).map fun p=>l.getD (32*a+(32*j+p)) false:=List.map_congr_left fun j _=>by
  rw [fP]
  refine List.map_congr_left fun p _=>?_
  congr 1
  omega
 rw [e]
 exact My 32 (fun p=>l.getD (32*a+p) false) m
theorem nD (l:List Bool)(a m low c:Nat)(h0:32*a<=low)(h1:low+c<=l.length)(h2:low+c<=32*(a+m)) :
  (((List.range (32*m)).map fun p=>l.getD (32*a+p) false).drop (low-32*a)).take c=(l.drop low).take c:=by
 refine List.ext_getElem? fun i=>?_
 rw [List.getElem?_take,List.getElem?_take]
 by_cases hi:i<c
 ·rw [if_pos hi,if_pos hi,List.getElem?_drop,List.getElem?_drop,List.getElem?_map,List.getElem?_range (by omega)]
  rw [List.getElem?_eq_getElem (show low+i<l.length by omega)]
  simp only [Option.map_some,List.getD_eq_getElem?_getD]
  rw [show 32*a+(low-32*a+i)=low+i by omega,List.getElem?_eq_getElem (show low+i<l.length by omega)]
  rfl
 ·rw [if_neg hi,if_neg hi]
theorem Tn (l:List Bool)(a k:Nat):((wordsOf l).drop a).take k=(List.range (min k (Bp l.length-a))).map fun i=>val (A1 l (a+i)):=by
 refine List.ext_getElem? fun i=>?_
 unfold wordsOf
 rw [List.getElem?_take,List.getElem?_map]
 by_cases hi:i<k
 ·rw [if_pos hi,List.getElem?_drop,List.getElem?_map]
  by_cases h2:a+i<Bp l.length
  ·rw [List.getElem?_range h2,List.getElem?_range (by omega)]
   rfl
  ·rw [List.getElem?_eq_none (by rw [List.length_range];omega),List.getElem?_eq_none (by rw [List.length_range];omega)]
   rfl
 ·rw [if_neg hi,List.getElem?_eq_none (by rw [List.length_range];omega)]
  rfl
end TW
end
section
namespace TW
theorem lO (f:Nat->Bool)(n:Nat):[n].filter f=if f n then [n] else []:=by
 cases h:f n<;>simp [List.filter,h]
def occ (b:Bool)(l:List Bool)(n:Nat):List Nat:=(List.range n).filter fun i=>l.getD i false==b
theorem Rh (b:Bool)(l:List Bool)(n:Nat):occ b l (n+1)=occ b l n++if l.getD n false==b then [n] else []:=by
 unfold occ
 rw [List.range_succ,List.filter_append,lO]
theorem Pb (b:Bool)(l:List Bool)(n:Nat):∀ d:Nat,occ b l (n+d)=occ b l n++((List.range d).filter fun p=>l.getD (n+p) false==b).map (n + ·)
 | 0=>by simp
 | d+1=>by
  rw [show n+(d+1)=n+d+1 by omega,Rh,Pb b l n d,List.range_succ,List.filter_append,List.map_append,List.append_assoc,lO]
  congr 2
  cases l.getD (n+d) false==b<;>rfl
theorem eV {b:Bool}{l:List Bool}{n m i:Nat}(h:n<=m)(hi:i<(occ b l n).length):(occ b l m)[i]?=(occ b l n)[i]?:=by
 obtain ⟨d,rfl⟩:=Nat.le.dest h
 rw [Pb,List.getElem?_append_left hi]
theorem uC {b:Bool}{l:List Bool}{n m:Nat}(h:n<=m):(occ b l n).length<=(occ b l m).length:=by
 obtain ⟨d,rfl⟩:=Nat.le.dest h
 rw [Pb,List.length_append]
 omega
theorem O4 (l:List Bool):∀ n:Nat,(occ true l n).length=cnt l n/\(occ false l n).length+cnt l n=n
 | 0=>by simp [occ,cnt]
 | n+1=>by
  obtain ⟨h1,h2⟩:=O4 l n
  have e:cnt l (n+1)=cnt l n+(l.getD n false).toNat:=by
   unfold cnt
   rw [List.take_add_one,List.count_append,List.getD_eq_getElem?_getD]
   cases hx:l[n]? with
   | none=>simp
   | some b=>cases b<;>simp
  rw [Rh,Rh,e]
  cases l.getD n false<;>simp<;>omega
def Kt (b:Bool)(l:List Bool)(j:Nat):List Nat:=(List.range 32).filter fun p=>l.getD (32*j+p) false==b
theorem Px (b:Bool)(l:List Bool)(j:Nat):occ b l (32*(j+1))=occ b l (32*j)++(Kt b l j).map (32*j + ·):=by
 rw [show 32*(j+1)=32*j+32 by omega,Pb]
 rfl
theorem N0 (f:Nat->Bool):∀ n:Nat,plc 0 ((List.range n).map f)=(List.range n).filter f
 | 0=>rfl
 | n+1=>by
  rw [List.range_succ,List.map_append,List.map_singleton,Wx,N0 f n,List.filter_append,List.length_map,List.length_range,lO,Nat.zero_add]
theorem U7 (w:List Bool)(k:Nat):(val w).testBit k=w.getD k false:=by
 rw [Nat.testBit_eq_decide_div_mod_eq,Wo]
 cases w.getD k false<;>rfl
def Mp (b:Bool):Nat:=if b then 0 else 4294967295
theorem Kq (b:Bool)(l:List Bool)(j:Nat):val (A1 l j) ^^^ Mp b=val ((List.range 32).map fun p=>l.getD (32*j+p) false==b):=by
 refine Nat.eq_of_testBit_eq fun i=>?_
 rw [Nat.testBit_xor,U7,U7]
 have hf:(Mp b).testBit i=(!b&&decide (i<32)):=by
  cases b
  ·show (2 ^ 32-1).testBit i=_
   rw [Nat.testBit_two_pow_sub_one]
   rfl
  ·show (0:Nat).testBit i=_
   rw [Nat.zero_testBit]
   rfl
 rw [hf]
 by_cases hi:i<32
 ·rw [N9 l j hi,List.getD_eq_getElem?_getD (l:=List.map _ _),List.getElem?_map,List.getElem?_range hi]
  show _=(l.getD (32*j+i) false==b)
  rw [decide_eq_true hi]
  cases l.getD (32*j+i) false<;>cases b<;>rfl
 ·rw [decide_eq_false hi,List.getD_eq_getElem?_getD,List.getElem?_eq_none (by unfold A1;rw [List.length_take];omega),List.getD_eq_getElem?_getD,List.getElem?_eq_none (by rw [List.length_map,List.length_range];omega)]
  simp
theorem W6 (b:Bool)(l:List Bool)(j k:Nat):nth (val (A1 l j) ^^^ Mp b) k=(Kt b l j)[k]?:=by
 rw [Kq,Wp,N0]
 rfl
theorem oZ (b:Bool)(l:List Bool)(j:Nat):pc (val (A1 l j) ^^^ Mp b)=(Kt b l j).length:=by
 rw [Kq,Ln,<- Pu _ 0,N0]
 rfl
theorem lM (w:List Bool)(k:Nat):val w%2 ^ k=val (w.take k):=by
 refine Nat.eq_of_testBit_eq fun i=>?_
 rw [Nat.testBit_mod_two_pow,U7,U7,List.getD_eq_getElem?_getD,List.getD_eq_getElem?_getD,List.getElem?_take]
 by_cases hi:i<k<;>simp [hi]
end TW
end
section
namespace TW
end TW
end
section
namespace TW
def dAt (ds:List Nat)(k:Nat):Nat:=ds.getD k 0
def opn (ds:List Nat):Nat->Nat
 | 0=>0
 | k+1=>dAt ds k+1
def way (ds:List Nat):Nat->List Int
 | 0=>[-1]
 | k+1=>(way ds k).take (dAt ds k+1)++[(k:Int)]
def Dok (ds:List Nat):Prop:=∀ k,k<ds.length->dAt ds k<=opn ds k
def eld (ds:List Nat)(k:Nat):Int:=(way ds k).getD (dAt ds k) 0
def Az (ds:List Nat):List Int:=(List.range ds.length).map (eld ds)
theorem Cu {ds:List Nat}(h:Dok ds):∀ k,k<=ds.length->(way ds k).length=opn ds k+1
 | 0,_=>rfl
 | k+1,hk=>by
  show ((way ds k).take (dAt ds k+1)++[(k:Int)]).length=dAt ds k+1+1
  have:=Cu h k (by omega)
  have:=h k (by omega)
  rw [List.length_append,List.length_take]
  simp only [List.length_cons,List.length_nil]
  omega
theorem Fe {ds:List Nat}(h:Dok ds):∀ k,k<=ds.length->(way ds k)[0]?=some (-1)
 | 0,_=>rfl
 | k+1,hk=>by
  show ((way ds k).take (dAt ds k+1)++[(k:Int)])[0]?=some (-1)
  have e:=Fe h k (by omega)
  have hl:=Cu h k (by omega)
  rw [List.getElem?_append_left (by rw [List.length_take];omega),List.getElem?_take_of_lt (by omega)]
  exact e
theorem Le {ds:List Nat}(h:Dok ds):∀ (k j:Nat) (x:Int),k<=ds.length->(way ds k)[j+1]?=some x->∃ v:Nat,x=(v:Int)/\v<k/\dAt ds v=j
 | 0,j,x,_,e=>by cases e
 | k+1,j,x,hk,e=>by
  have e:((way ds k).take (dAt ds k+1)++[(k:Int)])[j+1]?=some x:=e
  have hl:=Cu h k (by omega)
  have hd:=h k (by omega)
  have hl2:((way ds k).take (dAt ds k+1)).length=dAt ds k+1:=by rw [List.length_take];omega
  by_cases hj:j+1<dAt ds k+1
  ·rw [List.getElem?_append_left (by omega),List.getElem?_take_of_lt hj] at e
   obtain ⟨v,hv,hlt,hdv⟩:=Le h k j x (by omega) e
   exact ⟨v,hv,by omega,hdv⟩
  ·rw [List.getElem?_append_right (by omega),hl2] at e
   have e0:j+1-(dAt ds k+1)=0:=by
    have:=(List.getElem?_eq_some_iff.mp e).1
    simp only [List.length_cons,List.length_nil] at this
    omega
   rw [e0] at e
   have e:=Option.some.inj e
   exact ⟨k,e.symm,by omega,by omega⟩
theorem Lj {ds:List Nat}(h:Dok ds):∀ (k i j:Nat) (x y:Int),k<=ds.length->i<j->(way ds k)[i]?=some x->(way ds k)[j]?=some y->x<y
 | 0,i,j,x,y,_,hij,e1,e2=>by
  have:=(List.getElem?_eq_some_iff.mp e2).1
  simp only [way,List.length_cons,List.length_nil] at this
  omega
 | k+1,i,j,x,y,hk,hij,e1,e2=>by
  have hl:=Cu h k (by omega)
  have hd:=h k (by omega)
  have hl2:((way ds k).take (dAt ds k+1)).length=dAt ds k+1:=by rw [List.length_take];omega
  have e2':((way ds k).take (dAt ds k+1)++[(k:Int)])[j]?=some y:=e2
  have e1':((way ds k).take (dAt ds k+1)++[(k:Int)])[i]?=some x:=e1
  by_cases hj:j<dAt ds k+1
  ·rw [List.getElem?_append_left (by omega),List.getElem?_take_of_lt hj] at e2'
   rw [List.getElem?_append_left (by omega),List.getElem?_take_of_lt (by omega)] at e1'
   exact Lj h k i j x y (by omega) hij e1' e2'
  ·rw [List.getElem?_append_right (by omega),hl2] at e2'
   have e0:j-(dAt ds k+1)=0:=by
    have:=(List.getElem?_eq_some_iff.mp e2').1
    simp only [List.length_cons,List.length_nil] at this
    omega
   rw [e0] at e2'
   have ey:=Option.some.inj e2'
   rw [List.getElem?_append_left (by omega),List.getElem?_take_of_lt (by omega)] at e1'
   cases i with
   | zero =>
    rw [Fe h k (by omega)] at e1'
    have:=Option.some.inj e1'
    omega
   | succ i =>
    obtain ⟨v,hv,hlt,_⟩:=Le h k i x (by omega) e1'
    omega
theorem Jy {ds:List Nat}(h:Dok ds){k:Nat}(hk:k<ds.length):(way ds k)[dAt ds k]?=some (eld ds k):=by
 have hl:=Cu h k (by omega)
 have hd:=h k hk
 unfold eld List.getD
 rw [List.getElem?_eq_getElem (by omega)]
 rfl
theorem Uk {ds:List Nat}(h:Dok ds){k:Nat}(hk:k<ds.length)(e:eld ds k=-1):dAt ds k=0:=by
 have ha:=Jy h hk
 cases hd:dAt ds k with
 | zero=>rfl
 | succ j =>
  rw [hd] at ha
  obtain ⟨v,hv,_⟩:=Le h k j _ (by omega) ha
  omega
theorem Hs {ds:List Nat}(h:Dok ds){k:Nat}(hk:k<ds.length)(e:eld ds k≠-1):∃ v:Nat,eld ds k=(v:Int)/\v<k/\dAt ds k=dAt ds v+1:=by
 have ha:=Jy h hk
 cases hd:dAt ds k with
 | zero =>
  rw [hd,Fe h k (by omega)] at ha
  exact absurd (Option.some.inj ha).symm e
 | succ j =>
  rw [hd] at ha
  obtain ⟨v,hv,hlt,hdv⟩:=Le h k j _ (by omega) ha
  exact ⟨v,hv,hlt,by omega⟩
theorem kU {ds:List Nat}(h:Dok ds){k:Nat}(hk:k<ds.length):-1<=eld ds k:=by
 by_cases e:eld ds k=-1
 ·omega
 ·obtain ⟨v,hv,_⟩:=Hs h hk e
  omega
theorem Bv (ds:List Nat):(Az ds).length=ds.length:=by unfold Az;rw [List.length_map,List.length_range]
theorem Hu {ds:List Nat}{k:Nat}(hk:k<ds.length):(Az ds)[k]?=some (eld ds k):=by
 unfold Az
 rw [List.getElem?_map,List.getElem?_range hk]
 rfl
theorem mP {ds es:List Nat}(h1:Dok ds)(h2:Dok es)(e:Az ds=Az es):ds=es:=by
 have hl:ds.length=es.length:=by rw [<- Bv ds,<- Bv es,e]
 have key:∀ k,k<ds.length->dAt ds k=dAt es k:=by
  intro k
  induction k using Nat.strongRecOn with
  | _ k ih =>
   intro hk
   have ek:eld ds k=eld es k:=by
    have a:=Hu hk
    have b:=Hu (ds:=es) (k:=k) (by omega)
    rw [e] at a
    rw [a] at b
    exact Option.some.inj b
   by_cases ht:eld ds k=-1
   ·rw [Uk h1 hk ht,Uk h2 (by omega) (by rw [<- ek];exact ht)]
   ·obtain ⟨v,hv,hlt,hd⟩:=Hs h1 hk ht
    obtain ⟨u,hu,hlu,hd2⟩:=Hs h2 (k:=k) (by omega) (by rw [<- ek];exact ht)
    have:v=u:=by omega
    subst this
    rw [hd,hd2,ih v hlt (by omega)]
 refine List.ext_getElem hl fun k a b=>?_
 have:=key k a
 unfold dAt at this
 simpa [List.getD,a,b] using this
def Vs:Nat->List Bool->Prop
 | h,[]=>h=0
 | h,false::s=>0<h/\Vs (h-1) s
 | h,true::s=>Vs (h+1) s
end TW
end
section
namespace TW
end TW
end
section
namespace L2
open PySem PySem.Spec PyProof.Rows
def Kd {α:Type}:Sem α->Prop
 | .pure _=>True
 | .raise _=>True
 | .unsupported _=>True
 | .finish _=>True
 | .rule _ k=>Kd (k ())
 | .at _ k=>Kd (k ())
 | .load _ _ k=>∀ o,Kd (k o)
 | .update _ _ f k=>(∀ o,(f o).dict=o.dict/\(f o).isFreed=o.isFreed)/\Kd (k ())
 | .alloc _ k=>∀ a,Kd (k a)
 | .loadIfAlive _ k=>∀ o,Kd (k o)
 | .point _ k=>Kd (k ())
 | .fresh k=>∀ t,Kd (k t)
 | .ask k=>∀ x,Kd (k x)
 | .stack k=>∀ x,Kd (k x)
 | .handled _ k=>∀ x,Kd (k x)
 | .thread k=>∀ x,Kd (k x)
 | _=>False
theorem Kd.bind {α β:Type}{m:Sem α}{f:α->Sem β}(h:Kd m)(hf:∀ a,Kd (f a)):Kd (m >>= f):=by
 show Kd (m.bind f)
 induction m<;>first | exact hf _ | exact h.elim | exact trivial | skip
 all_goals (rename_i ih;first | exact ih _ h | exact fun o=>ih o (h o) | exact ⟨h.1,ih _ h.2⟩)
def Jg (h h':Heap):Prop:=∀ b o,h.get? b=some o->∃ o',h'.get? b=some o'/\o'.dict=o.dict
theorem Jg.refl (h:Heap):Jg h h:=fun _ o e=>⟨o,e,rfl⟩
theorem Jg.trans {h1 h2 h3:Heap}(a:Jg h1 h2)(b:Jg h2 h3):Jg h1 h3:=fun x o e=>by
 obtain ⟨o1,e1,d1⟩:=a x o e
 obtain ⟨o2,e2,d2⟩:=b x o1 e1
 exact ⟨o2,e2,d2.trans d1⟩
theorem Zq (h:Heap)(o:Obj):Jg h (h.push o):=fun _ u e=>⟨u,Heap.get?_push_of_some _ e,rfl⟩
theorem fX {h:Heap}{a:Addr}{f:Obj->Obj}(hf:∀ o,(f o).dict=o.dict/\(f o).isFreed=o.isFreed):Jg h (h.update a f):=fun b o e=>by
 by_cases hb:b=a
 ·subst hb
  have fr:=(Heap.get?_some_iff.mp e).2
  exact ⟨f o,Heap.get?_update_self f e (by rw [(hf o).2];exact fr),(hf o).1⟩
 ·exact ⟨o,(Heap.get?_update_other _ _ (Ne.symm hb)).trans e,rfl⟩
theorem wS {α:Type}{M:Model}{Γ:PySem.Ctx}{m:Sem α}:∀ {Q:α->Pos->Shared->Prop} {E:Value->Pos->Shared->Prop} {p:Pos} {s:Shared},Kd m->Sem.wp M Γ m Q E p s->Sem.wp M Γ m (fun a p' s'=>Q a p' s'/\Jg s.heap s'.heap) E p s:=by
 induction m with
 | pure x=>exact fun _ h=>⟨h,Jg.refl _⟩
 | raise v=>exact fun _ h=>h
 | unsupported=>exact fun _ h=>h
 | finish=>exact fun _ h=>h
 | rule _ k ih=>exact fun q h=>ih _ q h
 | «at» _ k ih=>exact fun q h=>ih _ q h
 | load a _ k ih =>
  intro Q E p s q h
  obtain ⟨o,ho,h⟩:=h
  exact ⟨o,ho,ih o (q o) h⟩
 | update a _ f k ih =>
  intro Q E p s q h
  obtain ⟨ha,h⟩:=h
  exact ⟨ha,Sem.wp_mono _ _ _ (fun _ _ _ z=>⟨z.1,(fX q.1).trans z.2⟩) (fun _ _ _ z=>z) _ _ (ih _ q.2 h)⟩
 | alloc o k ih =>
  intro Q E p s q h
  exact Sem.wp_mono _ _ _ (fun _ _ _ z=>⟨z.1,(Zq _ o).trans z.2⟩) (fun _ _ _ z=>z) _ _ (ih _ (q _) h)
 | loadIfAlive _ k ih=>exact fun q h=>ih _ (q _) h
 | point _ k ih=>exact fun q h=>ih _ q h
 | fresh k ih=>exact fun q h=>ih _ (q _) h
 | ask k ih=>exact fun q h=>ih _ (q _) h
 | stack k ih=>exact fun q h=>ih _ (q _) h
 | handled _ k ih=>exact fun q h=>ih _ (q _) h
 | thread k ih=>exact fun q h=>ih _ (q _) h
 | _=>exact fun q=>q.elim
theorem Nd {α:Type}{M:Model}{A:Around}{m:Sem α}{Q:α->Shared->Prop}{E:Value->Shared->Prop}{s:Shared}(q:Kd m)(h:wpAny M A m Q E s):wpAny M A m (fun a s'=>Q a s'/\Jg s.heap s'.heap) E s:=fun Γ p hΓ=>wS q (h Γ p hΓ)
theorem Vi (a:Addr):Kd (load a):=fun _=>trivial
theorem Xm (v:Value):Kd (fieldsOf v):=by
 unfold fieldsOf
 split
 ·exact Kd.bind (Vi _) fun o=>by split<;>exact trivial
 ·exact trivial
theorem Mg (v:Value)(i:Nat):Kd (field v i):=Kd.bind (Xm v) fun a=>by split<;>exact trivial
theorem pR (f:Array Value->Array Value)(o:Obj):(Obj.mapFields f o).dict=o.dict/\(Obj.mapFields f o).isFreed=o.isFreed:=by
 obtain ⟨c,d,dt,sl⟩:=o
 cases dt<;>exact ⟨rfl,rfl⟩
theorem Jv (v:Value)(i:Nat)(x:Value):Kd (setField v i x):=by
 unfold setField
 split
 ·unfold updateField
  refine Kd.bind (Vi _) fun o=>?_
  split
  ·split
   ·exact ⟨pR _,trivial⟩
   ·exact trivial
  ·exact trivial
 ·exact trivial
theorem Im (e:Value)(f:Option Addr):Kd (setFlight e f):=by
 unfold setFlight
 refine Kd.bind (Mg _ _) fun tb=>?_
 split
 ·exact Jv _ _ _
 ·exact trivial
theorem Yo:∀ l:List Env,Kd (readyFrames l)
 | []=>trivial
 | env::outer=>by
  unfold readyFrames
  split
  ·rename_i f hf
   refine Kd.bind (Vi _) fun o=>?_
   split
   ·exact trivial
   ·refine Kd.bind ?_ fun i=>Kd.bind ?_ fun b=>⟨fun o=>?_,Yo outer⟩
    ·unfold behindIsImport
     split
     ·exact trivial
     ·split
      ·exact trivial
      ·exact Kd.bind (Mg _ _) fun _=>trivial
    ·unfold keptBack
     split
     ·split
      ·exact trivial
      ·refine Kd.bind ?_ fun _=>trivial
       unfold underTheClaimsCaller
       exact fun _=>trivial
     ·exact trivial
    ·obtain ⟨c,d,dt,sl⟩:=o
     cases dt<;>exact ⟨rfl,rfl⟩
  ·exact trivial
theorem cR (env:Env):Kd (PySem.frameOf env):=by
 unfold PySem.frameOf
 refine Kd.bind (fun _=>trivial) fun l=>Kd.bind ?_ fun o=>?_
 ·unfold frameObject
  split
  ·exact trivial
  ·exact Kd.bind (Yo _) fun _=>trivial
 ·split<;>exact trivial
theorem nG (f:Addr)(b:Bool):Kd (entryPlaceOf f b):=by
 unfold entryPlaceOf
 refine Kd.bind (fun _=>trivial) fun l=>?_
 split<;>exact trivial
theorem iQ (a b c d e:Value)(l:List Value):Kd (EntryCells.newEntry a b c d e l):=by
 unfold EntryCells.newEntry newFields
 generalize ([a,b,c,d,e]++if l.isEmpty=true then List.replicate 6 Value.none else l).toArray=vs
 unfold newObj
 dsimp only
 have as_is:Kd (newObjAsIs (.type "traceback") (.fields vs) none):=Kd.bind (m:=alloc _) (fun _=>trivial) fun _=>trivial
 split
 ·exact Kd.bind (m:=unsupported _) trivial fun _=>as_is
 ·exact as_is
theorem eP (e:Value)(env:Env):Kd (noteFrame e env):=by
 unfold noteFrame
 have jp:∀ (f:Addr) (head:Value),Kd (do
   let a <- PySem.frameOf env
   let b <- entryPlaceOf f (head != Value.none)
   let c <- EntryCells.newEntry head a Value.none (rawInt ↑f) Value.none b
   setField e 1 c):=fun f head=>Kd.bind (cR _) fun _=>Kd.bind (nG _ _) fun _=>Kd.bind (iQ _ _ _ _ _ _) fun _=>Jv _ _ _
 split
 ·refine Kd.bind (Mg _ _) fun head=>?_
  dsimp only
  split
  ·refine Kd.bind (Mg _ _) fun v=>?_
   split
   ·exact trivial
   ·exact Kd.bind (Jv _ _ _) fun _=>jp _ _
  ·exact jp _ _
 ·exact trivial
theorem K8 (e:Value)(env:Env):Kd (leaving env e):=Kd.bind (eP _ _) fun _=>Im _ _
def Oo (B:Heap)(l:List Env)(e:Addr)(cls a0:Value)(od:Option Addr)(h:Heap):Prop:=Heap.FlyingW B l e cls a0 h/\∃ o,h.get? e=some o/\o.dict=od
def qP (B:Heap)(l:List Env)(e:Addr)(cls a0:Value)(od:Option Addr)(L:Addr)(h:Heap):Prop:=Heap.HeldW B l e cls a0 L h/\∃ o,h.get? e=some o/\o.dict=od
theorem Oo.first {B h:Heap}{l:List Env}{e:Addr}{cls a0:Value}{od:Option Addr}(x:Oo B l e cls a0 od h):∃ oe vs,h.get? e=some oe/\oe.cls=cls/\oe.data=.fields vs/\oe.dict=od:=by
 obtain ⟨f,o,ho,hd⟩:=x
 obtain ⟨oe,vs,he,hc,hv,_⟩:=f.first
 rw [ho] at he
 cases he
 exact ⟨o,vs,ho,hc,hv,hd⟩
section
variable {M:Model} {A:Around} {E:Value->Shared->Prop} {s:Shared} {B:Heap} {env:Env} {outer l:List Env} {L e:Addr} {cls a0:Value} {od:Option Addr} {Q:Unit->Shared->Prop}
theorem Kn {h h':Heap}(k:Jg h h')(x:∃ o,h.get? e=some o/\o.dict=od):∃ o,h'.get? e=some o/\o.dict=od:=by
 obtain ⟨o,ho,hd⟩:=x
 obtain ⟨o2,ho2,hd2⟩:=k e o ho
 exact ⟨o2,ho2,hd2.trans hd⟩
theorem Z3 (hfr:A.frames=some (env::outer))(hf:env.frame=some L)(fl:Oo B (env::outer) e cls a0 od s.heap)(q:∀ h',Oo B outer e cls a0 od h'->s.heap.UpToSlots h'->Q () { s with heap:=h' }):wpAny M A (leaving env (.ref e)) Q E s:=by
 refine wpAny_mono (Nd (K8 _ _) (wpAny_leaves_onW (Q:=fun _ s'=>∃ h',s'={ s with heap:=h' }/\Heap.FlyingW B outer e cls a0 h'/\s.heap.UpToSlots h') hfr hf fl.1 fun h' f u=>⟨h',rfl,f,u⟩)) (fun _ s' z=>?_) fun _ _ z=>z
 obtain ⟨⟨h',rfl,f,u⟩,k⟩:=z
 exact q h' ⟨f,Kn k fl.2⟩ u
theorem gK (hfr:A.frames=some (env::outer))(hf:env.frame=some L)(fl:Oo B (env::outer) e cls a0 od s.heap)(q:∀ h',qP B (env::outer) e cls a0 od L h'->s.heap.UpToSlots h'->Q () { s with heap:=h' }):wpAny M A (noteFrame (.ref e) env) Q E s:=by
 refine wpAny_mono (Nd (eP _ _) (wpAny_looks_onW (Q:=fun _ s'=>∃ h',s'={ s with heap:=h' }/\Heap.HeldW B (env::outer) e cls a0 L h'/\s.heap.UpToSlots h') hfr hf fl.1 fun h' f u=>⟨h',rfl,f,u⟩)) (fun _ s' z=>?_) fun _ _ z=>z
 obtain ⟨⟨h',rfl,f,u⟩,k⟩:=z
 exact q h' ⟨f,Kn k fl.2⟩ u
theorem sI (hh:qP B l e cls a0 od L s.heap)(q:∀ h',Oo B l e cls a0 od h'->s.heap.UpToSlots h'->Q () { s with heap:=h' }):wpAny M A (setFlight (.ref e) none) Q E s:=by
 refine wpAny_mono (Nd (Im _ _) (wpAny_landsW (Q:=fun _ s'=>∃ h',s'={ s with heap:=h' }/\Heap.FlyingW B l e cls a0 h'/\s.heap.UpToSlots h') hh.1 fun h' f u=>⟨h',rfl,f,u⟩)) (fun _ s' z=>?_) fun _ _ z=>z
 obtain ⟨⟨h',rfl,f,u⟩,k⟩:=z
 exact q h' ⟨f,Kn k hh.2⟩ u
theorem tW (fl:Oo B l e cls a0 od s.heap)(q:∀ h',Oo B l e cls a0 od h'->s.heap.UpToSlots h'->Q () { s with heap:=h' }):wpAny M A (setFlight (.ref e) none) Q E s:=by
 refine wpAny_mono (Nd (Im _ _) (lands_againW (Q:=fun _ s'=>∃ h',s'={ s with heap:=h' }/\Heap.FlyingW B l e cls a0 h'/\s.heap.UpToSlots h') fl.1 fun h' f u=>⟨h',rfl,f,u⟩)) (fun _ s' z=>?_) fun _ _ z=>z
 obtain ⟨⟨h',rfl,f,u⟩,k⟩:=z
 exact q h' ⟨f,Kn k fl.2⟩ u
theorem T9 {h:Heap}{args:List Value}(hfr:A.frames=some (env::outer))(hf:env.frame=some L)(hkb:B.StaysIn h)(hl:h.FunFrames B (env::outer))(hx:Heap.MadeExcOf h s.heap e cls args)
  (q:∀ h' t,Oo B outer e cls (.ref t) none h'->s.heap.UpToSlots h'->Q () { s with heap:=h' }):wpAny M A (leaving env (.ref e)) Q E s:=by
 refine wpAny_mono (Nd (K8 _ _) (wpAny_leaves_madeW (Q:=fun _ s'=>∃ h' t,s'={ s with heap:=h' }/\Heap.FlyingW B outer e cls (.ref t) h'/\s.heap.UpToSlots h') hfr hf hkb hl hx fun h' t f _ _ u=>⟨h',t,rfl,f,u⟩)) (fun _ s' z=>?_) fun _ _ z=>z
 obtain ⟨⟨h',t,rfl,f,u⟩,k⟩:=z
 obtain ⟨_,he,_⟩:=hx.there
 exact q h' t ⟨f,Kn k ⟨_,he,rfl⟩⟩ u
end
structure vA (outer:List Env) (H':Hp) (h h':Heap) (e C:Addr) (od:Option Addr):Prop where
 new:h.get? e=none
 unt:H' e=none
 fly:∃ a0 B,Oo B outer e (.ref C) a0 od h'/\∀ b o,h'.get? b=some o->B.get? b=none->b=e\/b∈frs outer\/(h.get? b=none/\H' b=none)
theorem B3.there {P:Program}{w:World}{H:Hp}{h:Heap}{a:Addr}{o:HO}(x:B3 P w H h a o):∃ ob,h.get? a=some ob:=by
 cases o with
 | lst xs=>obtain ⟨_,_,_,_,e⟩:=x;exact ⟨_,e⟩
 | tup xs=>obtain ⟨_,_,_,o,e,_⟩:=x;exact ⟨_,e⟩
 | dK kvs=>obtain ⟨_,_,_,_,o,_,_,e,_⟩:=x;exact ⟨_,e⟩
 | dT kvs=>obtain ⟨_,_,_,_,o,_,_,e,_⟩:=x;exact ⟨_,e⟩
 | set S n=>obtain ⟨o,_,_,_,e,_⟩:=x;exact ⟨_,e⟩
 | ins C dx fs=>obtain ⟨_,_,_,e,_⟩:=x;exact ⟨_,e⟩
 | own y=>exact x
 | xd fs=>obtain ⟨_,⟨_,_,_,e,_⟩,_⟩:=x;exact ⟨_,e⟩
 | rng lo hi=>obtain ⟨_,_,_,e⟩:=x;exact ⟨_,e⟩
 | frz ob u=>obtain ⟨e,_⟩:=x;exact ⟨_,e⟩
 | tbl ps=>exact ⟨_,(show h.get? a=some _ from x)⟩
 | met f y=>exact ⟨_,(show h.get? a=some _ from x)⟩
 | ext φ=>obtain ⟨_,e,_⟩:=x;exact e
def CXE (P:Program)(w:World):CXT:=fun outer H s E ex s'=>∃ e C od H',ex=.ref e/\s'.os=s.os/\AllBare s'.gens/\Un (frs outer) [] H H' s.heap s'.heap/\HOk P w H' s'.heap/\(∀ b∈frs outer,H' b=none)/\vA outer H' s.heap s'.heap e C od/\E (.ref C) od H'
theorem eB {P:Program}{w:World}{H:Hp}{h h':Heap}{B:Heap}{outer:List Env}{e:Addr}{n:Heap}(ok:HOk P w H h)(st:B.StaysIn h')(he:H e=none)(hf:∀ b∈frs outer,H b=none)
  (hB:∀ b o,h.get? b=some o->B.get? b=none->b=e\/b∈frs outer\/(n.get? b=none/\H b=none))(hBh:∀ b o,B.get? b=some o->h.get? b=some o):HOk P w H h':=fun a u ea=>by
 have tr:∀ b v,H b=some v->∀ o,h.get? b=some o->h'.get? b=some o:=fun b v ev o eo=>by
  cases q:B.get? b with
  | some o' =>
   have:=hBh b o' q
   rw [eo] at this
   cases this
   exact st b o q
  | none =>
   rcases hB b o eo q with z | z | z
   ·rw [z,he] at ev;cases ev
   ·rw [hf b z] at ev;cases ev
   ·rw [z.2] at ev;cases ev
 refine (ok a u ea).stay (fun b o hb q=>?_) (fun _ q=>q) fun _ _ q=>q
 rcases hb with z | z
 ·subst z;exact tr b u ea o q
 ·exact tr b _ z o q
section
variable {P:Program} {w:World} {K:PySem.W.Frag} {mg:Str->Option Value} {base:Heap} {N:List Str} {qual:Str} {scope:Scope} {f:Addr} {cd:Value} {A:Around} {outer:List Env} {s₀:Shared} {H₀:Hp} {E:XK}
theorem Uy {pins:List (Addr×Obj)}{σ:St}{H H':Hp}{s:Shared}{e C:Addr}{od:Option Addr}{a0:Value}{B h1 h2:Heap}{g:Array GenState}{d:Drawn}{t:Nat}{CX:CXT}(I:Inv (Bu CX P w K mg base N qual scope f cd A outer s₀ H₀ E) pins σ H s)
  (un:Un (frs (Bu CX P w K mg base N qual scope f cd A outer s₀ H₀ E).stack) [] H H' s.heap h1)(hok:HOk P w H' h1)(hfr:∀ b∈frs (Bu CX P w K mg base N qual scope f cd A outer s₀ H₀ E).stack,H' b=none)(hg:AllBare g)
  (hn:s.heap.get? e=none)(hu:H' e=none)(hB:∀ b o,h1.get? b=some o->B.get? b=none->b=e\/b∈frs (Bu CX P w K mg base N qual scope f cd A outer s₀ H₀ E).stack\/(s.heap.get? b=none/\H' b=none))(hBh:B.StaysIn h1)
  (fl:Oo B outer e (.ref C) a0 od h2)(up:h1.UpToSlots h2)(q:E (.ref C) od H'):CXE P w outer H₀ s₀ E (.ref e) { s with heap:=h2,gens:=g,drawn:=d,toks:=t }:=by
 have hBst:B.StaysIn h2:=fl.1.1
 have st:∀ b,b∈frs (Bu CX P w K mg base N qual scope f cd A outer s₀ H₀ E).stack->b=s₀.heap.objs.size\/b∈frs outer:=fun b hb=>by
  rcases List.mem_cons.mp (I.stkSub b hb) with z | z
  ·exact .inl z
  ·exact .inr z
 have so:∀ b,b∈frs outer->b∈frs (Bu CX P w K mg base N qual scope f cd A outer s₀ H₀ E).stack:=fun b hb=>List.mem_cons_of_mem _ hb
 have neL:∀ b o,s₀.heap.get? b=some o->b≠s₀.heap.objs.size:=fun b o z=>Nat.ne_of_lt (Heap.lt_size z)
 have inS:∀ b o,s₀.heap.get? b=some o->∃ o',s.heap.get? b=some o':=fun b o z=>I.base.there b o z (by intro y;cases y)
 have in1:∀ b o,s.heap.get? b=some o->∃ o',h1.get? b=some o':=fun b o z=>un.there b o z (by simp)
 have fz:∀ b∈frs (Bu CX P w K mg base N qual scope f cd A outer s₀ H₀ E).stack,∀ o,h1.get? b=some o->∃ sl,h2.get? b=some { o with slots:=sl }:=fun b hb o z=>by
  refine up b o z fun vs y=>?_
  obtain ⟨_,o',ho',hd⟩:=I.stack.mem hb
  obtain ⟨sl,z2⟩:=un.any ho' (I.stkFree b hb) (by simp)
  rw [z] at z2
  cases z2
  exact hd vs y
 have keep1:∀ b o,s.heap.get? b=some o->h1.get? b=some o->b∉frs (Bu CX P w K mg base N qual scope f cd A outer s₀ H₀ E).stack->h2.get? b=some o:=fun b o z z1 nf=>by
  cases y:B.get? b with
  | some o' =>
   have:=hBh b o' y
   rw [z1] at this
   cases this
   exact hBst b o y
  | none =>
   rcases hB b o z1 y with r | r | r
   ·rw [r,hn] at z;cases z
   ·exact absurd r nf
   ·rw [r.1] at z;cases z
 refine ⟨e,C,od,H',rfl,I.os,hg,⟨fun b o z n nf _=>?_,fun b o z n nf _=>?_,fun b o z n _=>?_,fun b o z _=>?_,fun b xs z=>un.tups b xs (I.base.tups b xs z),fun b o u z=>un.frzs b o u (I.base.frzs b o u z),fun b ps z=>?_⟩,?_,fun b hb=>hfr b (so b hb),⟨?_,hu,a0,B,fl,fun b o z y=>?_⟩,q⟩
 ·have z1:=I.base.keep b o z n nf (by intro y;cases y)
  have n1:=I.base.free b o z n (by intro y;cases y)
  have nf1:b∉frs (Bu CX P w K mg base N qual scope f cd A outer s₀ H₀ E).stack:=fun y=>(st b y).elim (neL b o z) nf
  exact keep1 b o z1 (un.keep b o z1 n1 nf1 (by simp)) nf1
 ·obtain ⟨sl,z1⟩:=I.base.slot b o z n nf (by intro y;cases y)
  have n1:=I.base.free b o z n (by intro y;cases y)
  obtain ⟨sl2,z2⟩:=un.any z1 n1 (by simp)
  obtain ⟨sl3,z3⟩:=fz b (so b nf) _ z2
  exact ⟨sl3,z3⟩
 ·obtain ⟨o',z1⟩:=inS b o z
  exact un.free b o' z1 (I.base.free b o z n (by intro y;cases y)) (by simp)
 ·obtain ⟨o1,z1⟩:=inS b o z
  obtain ⟨o2,z2⟩:=in1 b o1 z1
  cases y:B.get? b with
  | some o'=>exact ⟨o',hBst b o' y⟩
  | none =>
   rcases hB b o2 z2 y with r | r | r
   ·rw [r,hn] at z1;cases z1
   ·obtain ⟨sl,z3⟩:=fz b r o2 z2
    exact ⟨_,z3⟩
   ·rw [r.1] at z1;cases z1
 ·obtain ⟨m1,e1⟩:=I.base.tbls b ps z
  obtain ⟨m2,e2⟩:=un.tbls b _ e1
  exact ⟨m1++m2,by rw [e2,Array.append_assoc]⟩
 ·exact eB (n:=s.heap) (e:=e) (outer:=(Bu CX P w K mg base N qual scope f cd A outer s₀ H₀ E).stack) hok hBst hu hfr hB hBh
 ·cases y:s₀.heap.get? e with
  | none=>rfl
  | some o =>
   obtain ⟨o',z⟩:=inS e o y
   rw [hn] at z;cases z
 ·cases y1:h1.get? b with
  | none =>
   refine .inr (.inr ⟨?_,?_⟩)
   ·cases y2:s₀.heap.get? b with
    | none=>rfl
    | some o0 =>
     obtain ⟨o1,z1⟩:=inS b o0 y2
     obtain ⟨o2,z2⟩:=in1 b o1 z1
     rw [y1] at z2;cases z2
   ·cases y2:H' b with
    | none=>rfl
    | some v =>
     have:=(hok b v y2).there
     obtain ⟨o2,z2⟩:=this
     rw [y1] at z2;cases z2
  | some o1 =>
   rcases hB b o1 y1 y with r | r | r
   ·exact .inl r
   ·rcases st b r with r2 | r2
    ·refine .inr (.inr ⟨?_,hfr b r⟩)
     cases y2:s₀.heap.get? b with
     | none=>rfl
     | some o0=>exact absurd r2 (neL b o0 y2)
    ·exact .inr (.inl r2)
   ·refine .inr (.inr ⟨?_,r.2⟩)
    cases y2:s₀.heap.get? b with
    | none=>rfl
    | some o0 =>
     obtain ⟨o1,z1⟩:=inS b o0 y2
     rw [r.1] at z1;cases z1
theorem Cb {CX:CXT}(hCX:CX=CXE P w):Fo (CXE P w) (Bu CX P w K mg base N qual scope f cd A outer s₀ H₀ E) E:=by
 subst hCX
 intro pins σ H s ex s' I h
 obtain ⟨e,C,od,H',rfl,ho,hg,un,hok,hfr,⟨hn,hu,a0,B,fl,hB⟩,q⟩:=h
 show wpAny (model P w) (A.deeper (envOfC qual scope s₀.heap.objs.size f cd)) (leaving (envOfC qual scope s₀.heap.objs.size f cd) (.ref e)) _ _ s'
 refine Z3 (L:=s₀.heap.objs.size) I.ok.frames rfl fl fun h2 fl2 up=>?_
 obtain ⟨hp,g,d,t,os⟩:=s'
 have ho:os=s.os:=ho
 subst ho
 exact Uy (s:=s) (g:=g) (d:=d) (t:=t) I un hok hfr hg hn hu hB fl.1.1 fl2 up q
theorem Z5 {CX:CXT}(hCX:CX=CXE P w){pins:List (Addr×Obj)}{σ:St}{H:Hp}{s:Shared}{e C:Addr}{h1:Heap}{vs:List Value}(I:Inv (Bu CX P w K mg base N qual scope f cd A outer s₀ H₀ E) pins σ H s)
  (mx:Heap.MadeExcOf s.heap h1 e (.ref C) vs)(q:E (.ref C) none H):(Bu CX P w K mg base N qual scope f cd A outer s₀ H₀ E).xe (.ref e) { s with heap:=h1 }:=by
 subst hCX
 show wpAny (model P w) (A.deeper (envOfC qual scope s₀.heap.objs.size f cd)) (leaving (envOfC qual scope s₀.heap.objs.size f cd) (.ref e)) _ _ _
 have hin:∀ env∈(Bu (CXE P w) P w K mg base N qual scope f cd A outer s₀ H₀ E).stack,∀ b,env.frame=some b->b∈frs (Bu (CXE P w) P w K mg base N qual scope f cd A outer s₀ H₀ E).stack:=fun env he b hb=>List.mem_filterMap.mpr ⟨env,he,hb⟩
 refine T9 (L:=s₀.heap.objs.size) (s:={ s with heap:=h1 }) (B:=hideAll s.heap (frs (Bu (CXE P w) P w K mg base N qual scope f cd A outer s₀ H₀ E).stack)) I.ok.frames rfl (fun b o z=>of_hideAll _ z) (PySem.W.funFrames_hide I.stack hin) mx fun h2 tt fl2 up=>?_
 have hBh:(hideAll s.heap (frs (Bu (CXE P w) P w K mg base N qual scope f cd A outer s₀ H₀ E).stack)).StaysIn h1:=fun b o z=>mx.keeps b o (of_hideAll _ z)
 refine Uy (s:=s) (g:=s.gens) (d:=s.drawn) (t:=s.toks) I (Un.kept mx.keeps) (I.hok.kept mx.keeps) I.stkFree I.bare mx.new ?_ (fun b o z y=>?_) hBh fl2 up q
 ·cases y:H e with
  | none=>rfl
  | some v =>
   obtain ⟨o,z⟩:=(I.hok e v y).there
   rw [mx.new] at z;cases z
 ·by_cases hf:b∈frs (Bu (CXE P w) P w K mg base N qual scope f cd A outer s₀ H₀ E).stack
  ·exact .inr (.inl hf)
  ·cases z2:s.heap.get? b with
   | some o2 =>
    rw [PySem.W.hideAll_get _ z2 hf] at y
    cases y
   | none =>
    refine .inr (.inr ⟨rfl,?_⟩)
    cases y2:H b with
    | none=>rfl
    | some v =>
     obtain ⟨o,z3⟩:=(I.hok b v y2).there
     rw [z2] at z3;cases z3
end
abbrev Dv:List Value:=[.type "ValueError",.type "Exception",.type "BaseException",.type "object"]
structure Exc (K:PySem.W.Frag) (mg:Str->Option Value) (x:Str) (C:Addr):Prop where
 at_:mg x=some (.ref C)
 ex:PySem.W.excIn K C Dv "ValueError.__new__"=true
theorem dL {K:PySem.W.Frag}{h:Heap}{C:Addr}{bB:List Value}{nid:String}(X:K.In h)(q:PySem.W.excIn K C bB nid=true) :
  ∃ bm N nm qn bs hdct sn sub ab col dd k0 k1 k2 k3 k5 mN,h.get? C=some (excClassObj nm qn C N bs bm hdct sn sub ab col dd k0 k1 k2 k3 k5 nid)/\h.Ns N mN/\mN "__init__"=none/\OwnTail h bB bm:=by
 unfold PySem.W.excIn at q
 split at q
 case h_2=>exact Bool.noConfusion q
 case h_1 d1 c1 l1 look =>
  split at q
  case h_2=>exact Bool.noConfusion q
  case h_1 C2 m2 r0 r1 r2 r3 nn r5 eqm eqs =>
   simp only [Bool.and_eq_true,beq_iff_eq,Bool.not_eq_true'] at q
   obtain ⟨⟨⟨⟨⟨w1,w2⟩,w3⟩,w4⟩,w5⟩,w6⟩:=q
   subst w1 w2
   obtain ⟨x1,x2,x3,x4,x5,x6,x7,x8,x9,x10,x11⟩:=c1
   dsimp only at eqm w3 w5 w6
   subst eqm w3
   have l2:l1=#[r0,r1,r2,r3,some (.builtin nn),r5]:=by
    have:=congrArg List.toArray eqs
    simpa using this
   subst l2
   exact ⟨m2,x4,x1,x5,x2,x6,x7,x8,x9,x10,d1,r0,r1,r2,r3,r5,h.nsMap x4,X _ _ look,.of_isNs (PySem.W.isNs_of_in X w5),PySem.W.nsMap_none_of_in X w5 w6,PySem.W.tail_of_in X w4⟩
theorem gY {h:Heap}{l:List Value}(t:OwnTail h Dv l):l.contains (.type "BaseException")=true:=by
 induction t with
 | base=>decide
 | own _ _ _ _ ih=>rw [List.contains_cons,ih,Bool.or_true]
def rP (C:Addr)(E:XK)(t:TA):TS:=fun _ σ H=>t σ H fun vs H1=>vs.length<=sizeLine/\E (.ref C) none H1
section
variable {P:Program} {w:World} {K:PySem.W.Frag} {mg:Str->Option Value} {base:Heap} {N:List Str} {qual:Str} {scope:Scope} {f:Addr} {cd:Value} {A:Around} {outer:List Env} {s₀:Shared} {H₀:Hp} {E:XK}
theorem Ym {x:Str}{C:Addr}{np cpos pos:Pos}{a:Expr}{as:List Expr}{t:TA}(X:Exc K mg x C)(hg:Gl (Bu (CXE P w) P w K mg base N qual scope f cd A outer s₀ H₀ E) x)(ha:PA (Bu (CXE P w) P w K mg base N qual scope f cd A outer s₀ H₀ E) (a::as) t)
  (hdb:(x==("__debug__":Str))=false:=by decide)
  (he:starEach (a::as) (Bu (CXE P w) P w K mg base N qual scope f cd A outer s₀ H₀ E).env=(false,eval a (Bu (CXE P w) P w K mg base N qual scope f cd A outer s₀ H₀ E).env)::starEach as (Bu (CXE P w) P w K mg base N qual scope f cd A outer s₀ H₀ E).env:=by rfl)
  (hpl:(backTo cpos (starEach as (Bu (CXE P w) P w K mg base N qual scope f cd A outer s₀ H₀ E).env)).any (·.1)=false:=by rfl) :
  PS (Bu (CXE P w) P w K mg base N qual scope f cd A outer s₀ H₀ E) (.Raise (some (.Call (.Name x np) (a::as) [] cpos)) none pos) (rP C E t):=by
 intro pins s σ H D I h
 obtain ⟨bm,Nn,nm,qn,bs,hdct,sn,sub,ab,col,dd,k0,k1,k2,k3,k5,mN,hC,hN,hni,hT⟩:=dL I.ok.mod.kin X.ex
 refine wpAny_Raise_call_subT (C:=C) (N:=Nn) (nm:=nm) (q:=qn) (bs:=bs) (bm:=bm) (hdct:=hdct) (sn:=sn) (sub:=sub) (ab:=ab) (col:=col) (dd:=dd) (k0:=k0) (k1:=k1) (k2:=k2) (k3:=k3) (k5:=k5) (mN:=mN) F.excBase_ValueError (gY hT) (I.ok.hd rfl) ?_ hni ?_
 ·rw [he]
  show ((false||(backTo cpos (starEach as _)).any (·.1)))=false
  rw [hpl]
  rfl
 ·refine Ei I hg X.at_ ⟨rfl,?_⟩ hdb
  have hs:=ha cpos pins s σ H _ I h
  rw [he] at hs ⊢
  refine Calls.evalArgs_plain (thn hs fun us s1 ⟨vs,H1,I1,r,hl,q⟩=>⟨rfl,?_,I1.bk _ _ hC,hN.keeps I1.bk,hT.keeps I1.bk,fun h1 e mx=>?_⟩)
  ·have:=r.length
   show us.length<=sizeLine
   omega
  ·exact Z5 rfl I1 mx q
end
def Cx.re (X:Cx)(A':Around)(c:Bool)(xe':Value->Shared->Prop):Cx:={ X with A:=A',calm:=c,xe:=xe' }
section
variable {X:Cx} {pins:List (Addr×Obj)} {σ:St} {H:Hp} {s:Shared} {A':Around} {c:Bool} {xe':Value->Shared->Prop}
theorem Inv.re (I:Inv X pins σ H s)(hf:A'.frames=some X.stack)(hh:c=true->A'.handled=none):Inv (X.re A' c xe') pins σ H s :=
 ⟨⟨I.ok.mod,I.ok.kind,I.ok.glob,I.ok.blt,I.ok.above,I.ok.inj,I.ok.has,I.ok.cab,hh,hf,I.ok.stk,I.ok.exf,I.ok.bs,I.ok.bsz,I.ok.noex,I.ok.exfs,I.ok.funs,I.ok.frf⟩,I.os,I.bare,I.base,I.loc,I.cell,I.free,I.freeC,I.pin,I.hok,I.len⟩
theorem Inv.unre (ok:X.Ok)(I:Inv (X.re A' c xe') pins σ H s):Inv X pins σ H s:=⟨ok,I.os,I.bare,I.base,I.loc,I.cell,I.free,I.freeC,I.pin,I.hok,I.len⟩
end
section
variable {X:Cx} {pins:List (Addr×Obj)} {σ:St} {H H':Hp} {s s':Shared} {e C:Addr} {B h1 h2:Heap}
theorem oX (I:Inv X pins σ H s)(un:Un (frs X.stack) [] H H' s.heap h1)(hB:∀ b o,h1.get? b=some o->B.get? b=none->b=e\/b∈frs X.stack\/(s.heap.get? b=none/\H' b=none))(hBh:B.StaysIn h1)(st:B.StaysIn h2)(up:h1.UpToSlots h2)
  (hn:s.heap.get? e=none):Un (frs X.stack) [] H H' s.heap h2:=by
 have fz:∀ b∈frs X.stack,∀ o,h1.get? b=some o->∃ sl,h2.get? b=some { o with slots:=sl }:=fun b hb o z=>by
  refine up b o z fun vs y=>?_
  obtain ⟨_,o',ho',hd⟩:=I.stack.mem hb
  obtain ⟨sl,z2⟩:=un.any ho' (I.stkFree b hb) (by simp)
  rw [z] at z2
  cases z2
  exact hd vs y
 refine ⟨fun b o z n nf nx=>?_,fun b o z n nf nx=>?_,un.free,fun b o z nx=>?_,un.tups,un.frzs,un.tbls⟩
 ·have z1:=un.keep b o z n nf nx
  cases y:B.get? b with
  | some o' =>
   have:=hBh b o' y
   rw [z1] at this
   cases this
   exact st b o y
  | none =>
   rcases hB b o z1 y with r | r | r
   ·rw [r,hn] at z;cases z
   ·exact absurd r nf
   ·rw [r.1] at z;cases z
 ·obtain ⟨sl,z1⟩:=un.slot b o z n nf nx
  obtain ⟨sl2,z2⟩:=fz b nf _ z1
  exact ⟨sl2,z2⟩
 ·obtain ⟨o1,z1⟩:=un.there b o z nx
  cases y:B.get? b with
  | some o'=>exact ⟨o',st b o' y⟩
  | none =>
   rcases hB b o1 z1 y with r | r | r
   ·rw [r,hn] at z;cases z
   ·obtain ⟨sl,z3⟩:=fz b r o1 z1
    exact ⟨_,z3⟩
   ·rw [r.1] at z;cases z
def Ty (e C:Addr)(od:Option Addr)(h:Heap):Prop:=∃ o vs,h.get? e=some o/\o.cls=.ref C/\o.data=.fields vs/\o.dict=od
def K9 (e C:Addr)(od:Option Addr):HO:=.ext (Ty e C od)
theorem W9 {od:Option Addr}{h1 h2:Heap}(x:Ty e C od h1)(k:∀ o,h1.get? e=some o->h2.get? e=some o):Ty e C od h2:=let ⟨o,vs,e1,r⟩:=x;⟨o,vs,k o e1,r⟩
theorem Inv.track {od:Option Addr}(I0:Inv X pins σ H s)(hex:X.ex=[])(hn0:s.heap.get? e=none)(I:Inv X pins σ H' s')(hu:H' e=none)(he:Ty e C od s'.heap):Inv X pins σ (upd H' e (K9 e C od)) s':=by
 have nl:X.env.locals≠e:=fun z=>by
  obtain ⟨m,⟨o,_,_,ho,_⟩,_⟩:=I0.loc
  rw [z,hn0] at ho;cases ho
 have nc:∀ x c,X.env.cells.lookup x=some c->c≠e:=fun x c q z=>by
  obtain ⟨v,o,ho,_⟩:=I0.cell x c q
  rw [z,hn0] at ho;cases ho
 have np:∀ p∈X.pn++pins,p.1≠e:=fun p hp z=>by
  have:=(I0.pin p hp).1
  rw [z,hn0] at this;cases this
 have n0:∀ b o,X.s₀.heap.get? b=some o->b≠e:=fun b o q z=>by
  subst z
  obtain ⟨o',q'⟩:=I0.base.there b o q (by rw [hex];simp)
  rw [hn0] at q';cases q'
 have nt:∀ {b:Addr} {u:HO},H' b=some u->b≠e:=fun q=>Aq q hu
 refine ⟨I.ok,I.os,I.bare,⟨I.base.keep,I.base.slot,fun b o q n nx=>?_,I.base.there,fun b xs q=>?_,fun b o u q=>?_,fun b ps q=>?_⟩,I.loc,I.cell,?_,fun x c q=>?_,fun p hp=>?_,fun b u q=>?_,I.len⟩
 ·rw [Al (n0 b o q)];exact I.base.free b o q n nx
 ·have:=I.base.tups b xs q;rw [Al (nt this)];exact this
 ·have:=I.base.frzs b o u q;rw [Al (nt this)];exact this
 ·obtain ⟨m,q'⟩:=I.base.tbls b ps q;exact ⟨m,by rw [Al (nt q')];exact q'⟩
 ·rw [Al nl];exact I.free
 ·rw [Al (nc x c q)];exact I.freeC x c q
 ·obtain ⟨q1,q2,q3⟩:=I.pin p hp
  exact ⟨q1,by rw [Al (np p hp)];exact q2,q3⟩
 ·by_cases hb:b=e
  ·subst hb
   rw [Ac] at q
   cases q
   obtain ⟨o,vs,he1,r⟩:=id he
   exact ⟨he,⟨o,he1⟩,fun h1 h2 x k=>W9 x k⟩
  ·rw [Al hb] at q
   exact (I.hok b u q).stay (fun _ _ _ z=>z) (fun c z=>by rw [Al (nt z)];exact z) fun c xs z=>by rw [Al (nt z)];exact z
theorem Kr {M:Model}{A:Around}{E:Value->Shared->Prop}{n:Str}{i:Nat}{pos:Pos}{Q:Unit->Shared->Prop}(I:Inv X pins σ H s)(hN:X.N.Nodup)(hi:X.N[i]?=some n)(hl:X.env.kindOf n=some .local)
  (h:∀ s',Inv X pins (σ.set i none) H s'->Q () s'):wpAny M A (do bindName X.env n .none;unbindBehindTheSuite X.env n pos) Q E s:=by
 obtain ⟨m,hn,hlk⟩:=id I.loc
 have hcls:(X.env.scope.kind==.class||(X.env.scope.kind==.module&&X.env.locals != X.env.globals))=false:=by rw [I.ok.kind];rfl
 have hiσ:i<σ.length:=by rw [I.len];exact (List.getElem?_eq_some_iff.mp hi).1
 have cne:=I.cne
 refine wpAny_nameGoes_keeps hl hn hcls fun h' v hn' hs=>?_
 have old:∀ b o,X.s₀.heap.get? b=some o->b≠X.env.locals:=fun b o q=>Nat.ne_of_lt (Nat.lt_of_lt_of_le (Heap.lt_size q) I.ok.above)
 refine h _ ⟨I.ok,I.os,I.bare,⟨fun b o q n nf nx=>?_,fun b o q n nf nx=>?_,I.base.free,fun b o q nx=>?_,I.base.tups,I.base.frzs,I.base.tbls⟩,⟨_,hn',fun j y v' e1 e2 e3=>?_⟩,fun y c q=>?_,I.free,I.freeC,fun p hp=>?_,fun b u q=>?_,by simpa using I.len⟩
 ·exact (hs.2 b (old b o q)).trans (I.base.keep b o q n nf nx)
 ·obtain ⟨sl,z⟩:=I.base.slot b o q n nf nx
  exact ⟨sl,(hs.2 b (old b o q)).trans z⟩
 ·obtain ⟨o',z⟩:=I.base.there b o q nx
  exact ⟨o',(hs.2 b (old b o q)).trans z⟩
 ·by_cases hj:j=i
  ·subst hj
   rw [List.getElem?_set_self hiσ] at e2
   cases e2
  ·rw [List.getElem?_set_ne (Ne.symm hj)] at e2
   obtain ⟨u',r',q⟩:=hlk j y v' e1 e2 e3
   refine ⟨u',r',?_⟩
   rcases q with ⟨k,z⟩ | ⟨k,c,z,z2⟩
   ·refine .inl ⟨k,?_⟩
    have:y≠n:=fun w=>hj (Rg hN e1 (w▸hi))
    simp [this,z]
   ·exact .inr ⟨k,c,z,z2.sameBut hs (cne y c z)⟩
 ·obtain ⟨w',z⟩:=I.cell y c q
  exact ⟨w',z.sameBut hs (cne y c q)⟩
 ·obtain ⟨q1,q2,q3,q4,q5⟩:=I.pin p hp
  exact ⟨(hs.2 p.1 q3).trans q1,q2,q3,q4,q5⟩
 ·refine (I.hok b u q).stay (fun c w' hc z=>(hs.2 c ?_).trans z) (fun _ z=>z) fun _ _ z=>z
  rintro rfl
  rcases hc with hc | hc
  ·rw [<- hc,I.free] at q;cases q
  ·rw [I.free] at hc;cases hc
end
def fA (X:Cx)(pins:List (Addr×Obj))(σ:St)(st:List Stmt)(t:TS):Prop:=∀ (s:Shared) (H:Hp) (D:Hb),Inv X pins σ H s->t D σ H->wpAny (model X.prog X.w) X.A (execs st X.env) (SP X pins D) X.xe s
def oU (X:Cx)(pins:List (Addr×Obj))(σ:St)(st:Stmt)(t:TS):Prop:=∀ (s:Shared) (H:Hp) (D:Hb),Inv X pins σ H s->t D σ H->wpAny (model X.prog X.w) X.A (exec st X.env) (SP X pins D) X.xe s
def pT (X:Cx)(pins:List (Addr×Obj))(σ:St)(e:Expr)(t:TE):Prop:=∀ (s:Shared) (H:Hp) (Q:VK),Inv X pins σ H s->t σ H Q->wpAny (model X.prog X.w) X.A (eval e X.env) (EP X pins σ Q) X.xe s
def U0 (CX:CXT)(X:Cx)(pins:List (Addr×Obj))(σ:St)(E:XK):Prop:=∀ (H:Hp) (s:Shared) (e:Value) (s':Shared),Inv X pins σ H s->CX X.stack H s E e s'->X.xe e s'
section
variable {X:Cx} {pins:List (Addr×Obj)} {σ:St} {pos:Pos} {e:Expr} {te:TE} {t u:TS}
theorem PE.at (h:PE X e te):pT X pins σ e te:=fun s H Q I q=>h pins s σ H Q I q
theorem PS.at {st:Stmt}(h:PS X st t):oU X pins σ st t:=fun s H D I q=>h pins s σ H D I q
theorem Bl (he:pT X pins σ e te)(hs:swapsWith e none pos.line X.env=pure false:=by rfl):oU X pins σ (.Expr e pos) (lJ te):=by
 intro s H D I h
 exact wpAny_Expr_any (thn (he s H _ I h) fun v s1 ⟨x,H1,I1,r1,q1⟩=>⟨σ,H1,I1,q1⟩) I.quiet hs
theorem Cm {c:Expr}{a b:List Stmt}{tc:TT}(hc:PT X c tc)(ha:fA X pins σ a t)(hb:fA X pins σ b u):oU X pins σ (.If c a b pos) (tX tc t u):=by
 intro s H D I h
 refine wpAny_If (thn (hc pins s σ H _ I h) fun d s1 ⟨H1,I1,q1⟩=>?_)
 cases d with
 | true=>exact ha s1 H1 D I1 (by simpa using q1)
 | false=>exact hb s1 H1 D I1 (by simpa using q1)
theorem Av {st:Stmt}(h1:oU X pins σ st t):fA X pins σ [st] t:=by
 intro s H D I h
 refine wpAny_execs_cons (thn (h1 s H D I h) fun f s1 q=>?_)
 cases f with
 | next=>exact wpAny_execs_nil q
 | brk=>exact q
 | cont=>exact q
 | ret v=>exact q
end
theorem sT {P:Program}{w:World}{X:Cx}:Fo (CXE P w) X E0:=fun _ _ _ _ _ _ _ h=>by
 obtain ⟨_,_,_,_,_,_,_,_,_,_,_,z⟩:=h
 exact z.elim
structure Yu (P:Program) (w:World) (K:PySem.W.Frag) (mg:Str->Option Value) (base:Heap) (name:Str) (k:Nat) (ps:List Str) (sp:Sp):Prop where
 ex:∃ (f:Addr) (fd:FuncData),Ax P w K mg base (CXE P w) k f fd ps sp/\Dk K fd ps []/\mg name=some (.ref f)/\PySem.W.keepIn K (.ref f)=true
structure Fi (P:Program) (w:World) (K:PySem.W.Frag) (mg:Str->Option Value) (base:Heap) (C:Addr) (m:Str) (k:Nat) (ps:List Str) (sp:Sp):Prop where
 ex:∃ (f:Addr) (fd:FuncData),Ax P w K mg base (CXE P w) k f fd ps sp/\Dk K fd ps []/\fC K C m f
 cl:Cls K C
structure kO (P:Program) (w:World) (K:PySem.W.Frag) (mg:Str->Option Value) (base:Heap) (name:Str) (C:Addr) (k:Nat) (ps:List Str) (sp:Sp):Prop where
 ex:∃ (f:Addr) (fd:FuncData),Ax P w K mg base (CXE P w) k f fd ps sp/\Dk K fd ps []/\Mk K C f/\mg name=some (.ref C)
section
variable {X:Cx} {k:Nat} {C:Addr} {ps:List Str} {sp:Sp} {name m:Str} {p pos apos:Pos} {e o:Expr} {es:List Expr} {ta:TE} {t:TA} {pl:Sem Bool} {E:XK} {pins:List (Addr×Obj)} {σ:St} {CX:CXT} {f:Addr} {fd:FuncData}
theorem Lg (C:Yu X.prog X.w X.K X.mg X.base name k ps sp)(hr:B2 k X.A)(hx:Fo (CXE X.prog X.w) X E)(ha:PA X (e::es) t)(hg:Gl X name:=by rfl)(hdb:(name==("__debug__":Str))=false:=by decide)
  (he:starEach (e::es) X.env=(false,eval e X.env)::starEach es X.env:=by rfl)(hpl:(backTo pos (starEach es X.env)).any (·.1)=false:=by rfl):PE X (.Call (.Name name p) (e::es) [] pos) (T5 sp [] E t):=by
 obtain ⟨f,fd,F,b,hm,hk⟩:=C.ex
 exact eY F hr hg hm hk b .nil hx ha hdb he hpl
theorem rX (M:kO X.prog X.w X.K X.mg X.base name C k ps sp)(hr:B2 (k+1) X.A)(hx:Fo (CXE X.prog X.w) X E)(ha:PA X (e::es) t)(hg:Gl X name:=by rfl)(hdb:(name==("__debug__":Str))=false:=by decide)
  (he:starEach (e::es) X.env=(false,eval e X.env)::starEach es X.env:=by rfl)(hpl:(backTo pos (starEach es X.env)).any (·.1)=false:=by rfl):PE X (.Call (.Name name p) (e::es) [] pos) (Yk C sp [] E t):=by
 obtain ⟨f,fd,F,b,M,hm⟩:=M.ex
 exact dO M F hr hg hm b .nil hx ha hdb he hpl
theorem G9 (M:Fi X.prog X.w X.K X.mg X.base C m k ps sp)(hr:B2 k X.A)(hx:Fo (CXE X.prog X.w) X E)(ho:PE X o ta)(ha:PA X (e::es) t)
  (hst:starEach (e::es) X.env=(false,eval e X.env)::starEach es X.env:=by rfl)(hpl:(backTo pos (starEach es X.env)).any (·.1)=false:=by rfl)
  (ht:eval (.Call (.Attribute o m apos) (e::es) [] pos) X.env=(do
   let ov <- eval o X.env
   standAt apos.atName
   let (f,first) <- holding [ov] (getMethod ov m pl)
   callWith pos f first (backTo pos (starEach (e::es) X.env)) (backToKw pos (keywordEach [] X.env))):=by rfl) :
  PE X (.Call (.Attribute o m apos) (e::es) [] pos) (R8 C m sp [] E ta t):=by
 obtain ⟨f,fd,F,b,hm⟩:=M.ex
 exact eJ ho M.cl hm F hr b .nil hx ha hst hpl ht
theorem sG {H:Hp}{s:Shared}{Q:VK}{us:List Value}{vs:List V}(F:Ax X.prog X.w X.K X.mg X.base CX k f fd ps sp)(hr:B2 k X.A)(hb:Dk X.K fd ps [])(hx:U0 CX X pins σ E)(I:Inv X pins σ H s)(r:A0 vs us)(h:sp (vs++[]) H Q E) :
  wpAny (model X.prog X.w) X.A (call (.ref f) us) (EP X pins σ Q) X.xe s:=by
 have r2:A0 (vs++[]) (us++[]):=r.append .nil
 have hl:(us++[]).length=ps.length:=by rw [<- r2.length];exact F.len _ _ _ _ h
 refine wpAny_call (codeAny_mono (F.run X.A X.stack s H ⟨us,[]⟩ (us++[]) (vs++[]) Q E hr I.env0 (hb s us I.kIn hl) r2 h) fun r s' hq=>?_)
 cases r with
 | error e=>exact hx H s e s' I hq
 | ok fl =>
  cases fl with
  | ret u=>exact I.after hq
  | next=>exact hq.elim
  | brk=>exact hq.elim
  | cont=>exact hq.elim
theorem Cc (M:Fi X.prog X.w X.K X.mg X.base C m k ps sp)(hr:B2 k X.A)(hx:U0 (CXE X.prog X.w) X pins σ E)(ho:PE X o ta)(ha:PA X (e::es) t)
  (hst:starEach (e::es) X.env=(false,eval e X.env)::starEach es X.env:=by rfl)(hpl:(backTo pos (starEach es X.env)).any (·.1)=false:=by rfl)
  (ht:eval (.Call (.Attribute o m apos) (e::es) [] pos) X.env=(do
   let ov <- eval o X.env
   standAt apos.atName
   let (f,first) <- holding [ov] (getMethod ov m pl)
   callWith pos f first (backTo pos (starEach (e::es) X.env)) (backToKw pos (keywordEach [] X.env))):=by rfl) :
  pT X pins σ (.Call (.Attribute o m apos) (e::es) [] pos) (R8 C m sp [] E ta t):=by
 obtain ⟨f,fd,F,b,hm⟩:=M.ex
 intro s H Q I h
 refine PySem.W.methodCall_KW (pl:=pl) (thn (ho pins s σ H _ I h) fun u s1 ⟨x,H1,I1,rx,a,dx,fs,ex,ea,l,q⟩=>?_) ht
 subst ex
 obtain rfl:u=Value.ref a:=rx
 refine Jb I1 ea M.cl hm l ?_
 refine callWith_K (first:=[.ref a]) (h₀:=X.base) I.ok.mod.kin hm.kp (thn (ha pos pins s1 σ H1 _ I1 q) fun us s2 ⟨vs,H2,I2,r,q2⟩=>⟨I2.kIn,?_⟩) hst hpl
 exact sG (us:=.ref a::us) (vs:=.ref a::vs) F hr b hx I2 (.cons rfl r) q2
end
section
variable {X:Cx} {k:Nat} {C:Addr} {ps:List Str} {sp:Sp} {name:Str} {p pos:Pos} {e:Expr} {es:List Expr} {t:TA} {E:XK} {pins:List (Addr×Obj)} {σ:St}
theorem iX (M:kO X.prog X.w X.K X.mg X.base name C k ps sp)(hr:B2 (k+1) X.A)(hx:U0 (CXE X.prog X.w) X pins σ E)(ha:PA X (e::es) t)(hg:Gl X name:=by rfl)(hdb:(name==("__debug__":Str))=false:=by decide)
  (he:starEach (e::es) X.env=(false,eval e X.env)::starEach es X.env:=by rfl)(hpl:(backTo pos (starEach es X.env)).any (·.1)=false:=by rfl):pT X pins σ (.Call (.Name name p) (e::es) [] pos) (Yk C sp [] E t):=by
 obtain ⟨f,fd,F,hb,M,hm⟩:=M.ex
 intro s0 H0 Q I0 h0
 refine wpAny_Call_Name_kw (Ei I0 hg hm ?_ hdb)
 refine callWith_K (h₀:=X.base) I0.ok.mod.kin M.kp (thn (ha pos pins s0 σ H0 _ I0 h0) fun us s vs'=>?_) he hpl
 obtain ⟨vs,H,I,r,h⟩:=vs'
 refine ⟨I.kIn,?_⟩
 have hq:=h (s.heap.objs.size+1) s.heap.objs.size (I.hok.fresh (Nat.le_succ _)) (I.hok.fresh (Nat.le_refl _)) (Nat.ne_of_lt (Nat.lt_succ_self _))
 have I2:=Inv.made (C:=C) I
 have r2:A0 (V.ref (s.heap.objs.size+1)::(vs++[])) (Value.ref (s.heap.objs.size+1)::(us++[])):=.cons rfl (r.append .nil)
 have hl:(Value.ref (s.heap.objs.size+1)::us++[]).length=ps.length:=by
  have e:=r2.length
  rw [F.len _ _ _ _ hq] at e
  exact e.symm
 refine wpAny_call (Wq (f:=f) I.kIn M.makes M.init (beq_iff_eq.mp M.fn) (codeAny_mono (F.run _ X.stack _ _ ⟨Value.ref (s.heap.objs.size+1)::us,[]⟩ (Value.ref (s.heap.objs.size+1)::(us++[])) _ _ E (hr.make C us []) (I2.env0.make C us []) (by have z:=hb _ (Value.ref (s.heap.objs.size+1)::us) I2.kIn hl;rwa [List.cons_append] at z) r2 hq) fun r s' hq'=>?_))
 cases r with
 | error e=>exact hx _ _ e s' I2 hq'
 | ok fl =>
  cases fl with
  | ret u =>
   obtain ⟨v,H',I3,rv,ev,q3⟩:=I2.after hq'
   subst ev
   exact ⟨rv,⟨V.ref (s.heap.objs.size+1),H',I3,rfl,q3⟩⟩
  | next=>exact hq'.elim
  | brk=>exact hq'.elim
  | cont=>exact hq'.elim
end
def qY (X:Cx)(E:XK)(pins:List (Addr×Obj))(σ:St):Value->Shared->Prop:=fun ex s1=>∃ H0 s0,Inv X pins σ H0 s0/\CXE X.prog X.w X.stack H0 s0 E ex s1
theorem Bs {X:Cx}{E:XK}{pins:List (Addr×Obj)}{σ:St}:U0 (CXE X.prog X.w) (X.wish (qY X E pins σ)) pins σ E:=fun H s e s' I h=>⟨H,s,I.unwish,h⟩
def xL (K:PySem.W.Frag)(i:Nat)(C0:Value)(tb:XK->TS)(th:TS):TS:=fun D σ H=>∃ E:XK,tb E D σ H/\∀ C od H' e,E (.ref C) od H'->H' e=none->exmOne K (.ref C) C0=some true /\
 th { nx:=fun σ' H2=>D.nx (σ'.set i none) H2,rt:=D.rt,bk:=fun σ' H2=>D.bk (σ'.set i none) H2,ct:=fun σ' H2=>D.ct (σ'.set i none) H2 } (σ.set i (some (.ref e))) (upd H' e (K9 e C od))
section
variable {X:Cx} {i:Nat} {n x:Str} {C0:Value} {np hpos pos:Pos} {body suite:List Stmt} {b0:Stmt} {tb:XK->TS} {th:TS}
theorem Od {A:Around}{v:Option Value}:(A.mark v).frames=A.frames:=rfl
theorem kB (hst:X.stack=X.env::X.outer)(hfr:X.env.frame=some X.env.locals)(hex:X.ex=[])(hN:X.N.Nodup)(hi:X.N[i]?=some n)(hl:X.env.kindOf n=some .local)(hg:Gl X x)(hm:X.mg x=some C0)
  (hb:∀ E pins σ,fA (X.wish (qY X E pins σ)) pins σ body (tb E))(hs:∀ e,PSs (X.re (X.A.mark (some (.ref e))) false fun _ _=>False) (b0::suite) th)(hdb:(x==("__debug__":Str))=false:=by decide) :
  PS X (.Try body [.ExceptHandler (some (.Name x np)) (some n) (b0::suite) hpos] [] [] pos) (xL X.K i C0 tb th):=by
 intro pins s σ H D I h
 obtain ⟨E,hb1,hh⟩:=h
 refine wpAny_Try_except (wpAny_mono (hb E pins σ s H D (I.wish _) hb1) (fun f s1 q=>?_) fun ex s1 q=>?_)
 ·have q:=q.unwish
  cases f with
  | next=>exact wpAny_execs_nil q
  | brk=>exact q
  | cont=>exact q
  | ret v=>exact q
 ·obtain ⟨H0,s0,I0,e,C,od,H',rfl,ho,hgn,un,hok,hfree,⟨hn,hu,a0,B,fl,hB⟩,hE⟩:=q
  have fl':=fl
  rw [hst] at fl'
  refine gK (by rw [I.ok.frames,hst]) hfr fl' fun h4 held4 up4=>?_
  refine sI held4 fun h5 fl5 up5=>?_
  have inv:∀ h6,B.StaysIn h6->s1.heap.UpToSlots h6->Inv X pins σ H' { s1 with heap:=h6 }:=fun h6 st up =>
   I0.call' (s':={ s1 with heap:=h6 }) (ch:=[]) ho (oX I0 un hB fl.1.1 st up hn) (eB (n:=s0.heap) (e:=e) (outer:=X.stack) hok st hu hfree hB fl.1.1) hgn (fun b z=>absurd z (by simp))
  have I5:=inv h5 fl5.1.1 (up4.trans up5)
  refine wpAny_handleBy_cons (codeAny_handlers_test ?_) (by intro q;cases q)
  refine Ei (X:=X.re (X.A.mark (some (.ref e))) false fun _ _=>False) (I5.re (by rw [Od];exact I.ok.frames) (by intro z;cases z)) hg hm ?_ hdb
  obtain ⟨hx,hth⟩:=hh C od H' e hE hu
  have LT:PySem.W.Looks (model X.prog X.w) h5 (typeOf (.ref e)) (.ref C):=by
   obtain ⟨ob,hob,hc⟩:=fl5.1.there
   exact hc▸(PySem.W.Looks.ld hob).andThen .now
  refine (PySem.W.exm_one I5.kIn LT hx).here ?_
  refine codeAny_handlers_suite_as ?_
  refine tW fl5 fun h6 fl6 up6=>?_
  have I6:=inv h6 fl6.1.1 ((up4.trans up5).trans up6)
  obtain ⟨oe,ws,hoe,hoec,hoed,hodd⟩:=fl6.first
  have I6t:=Inv.track I0 hex hn I6 hu ⟨oe,ws,hoe,hoec,hoed,hodd⟩
  have I6m:Inv (X.re (X.A.mark (some (.ref e))) false fun _ _=>False) pins σ (upd H' e (K9 e C od)) { s1 with heap:=h6 }:=I6t.re (by rw [Od];exact I.ok.frames) (by intro z;cases z)
  refine Lz (X:=X.re (X.A.mark (some (.ref e))) false fun _ _=>False) (v:=.ref e) I6m hN hi (.inl hl) rfl (fun s7 I7=>?_) (.inr hl)
  refine wpAny_mono (hs e pins s7 _ _ _ I7 hth) (fun f s8 q8=>?_) (fun _ _ z=>z.elim)
  cases f with
  | next =>
   obtain ⟨σ8,H8,I8,q⟩:=q8
   exact Kr (I8.unre I.ok) hN hi hl fun s9 I9=>⟨_,H8,I9,q⟩
  | brk =>
   obtain ⟨σ8,H8,I8,q⟩:=q8
   exact Kr (I8.unre I.ok) hN hi hl fun s9 I9=>⟨_,H8,I9,q⟩
  | cont =>
   obtain ⟨σ8,H8,I8,q⟩:=q8
   exact Kr (I8.unre I.ok) hN hi hl fun s9 I9=>⟨_,H8,I9,q⟩
  | ret v =>
   obtain ⟨v8,σ8,H8,I8,r8,q⟩:=q8
   exact Kr (I8.unre I.ok) hN hi hl fun s9 I9=>⟨v8,_,H8,I9,r8,q⟩
end
section
variable {P:Program} {w:World} {K:PySem.W.Frag} {mg:Str->Option Value} {base:Heap}
theorem Fun.okE {x qual:Str}{st:Stmt}{f:Addr}{fd:FuncData}{N ps:List Str}{k:Nat}{sp:Sp}(F:Fun K x qual st f fd)(S:Ai N ps (Ae st))(len:∀ vs H Q E,sp vs H Q E->vs.length=ps.length)
  (hbody:∀ (cdv:Value) (A:Around) (outer:List Env) (s:Shared) (H:Hp) (vs:List V) (Q:VK) (E:XK),B2 k (A.deeper (envOfC qual (Ae st) s.heap.objs.size f cdv))->sp vs H Q E ->
   ∃ t,PSs (Bu (CXE P w) P w K mg base N qual (Ae st) f cdv A outer s H E) (B5 st) t/\t { nx:=fun _ H'=>Q .non H',rt:=Q } (Hn N vs) H):Ax P w K mg base (CXE P w) (k+1) f fd ps sp:=by
 obtain ⟨oc,od,kV,doc,pm,an,cdv,ct,osl,rfl,lk,hcd⟩:=F.ex
 exact iT lk hcd S len fun A outer s H vs Q E hr hsp=>hbody cdv A outer s H vs Q E hr hsp
end
structure Of (k:Nat) (A:Around):Prop where
 dp:A.depth+3*k+5<recursionLimit
 un:A.units+16*k+200<cLine
theorem B2.u {k:Nat}{A:Around}(r:B2 k A):Of k A:=⟨r.dp,r.un⟩
theorem Of.deeper {k:Nat}{A:Around}(r:Of (k+1) A)(env:Env):Of k (A.deeper env) :=
 ⟨by have:=r.dp;show A.depth+1+3*k+5<_;omega,by have:=r.un;show A.units+3+16*k+200<_;omega⟩
structure eO (P:Program) (w:World) (K:PySem.W.Frag) (mg:Str->Option Value) (base:Heap) (k:Nat) (f:Addr) (fd:FuncData) (ps:List Str) (sp:Sp):Prop where
 len:∀ vs H Q E,sp vs H Q E->vs.length=ps.length
 run:∀ (A:Around) (outer:List Env) (s:Shared) (H:Hp) (args:Args) (us:List Value) (vs:List V) (Q:VK),Of k A->Ox P w K mg base A outer s H->BindsTo s fd args (ps.zip us)->A0 vs us->sp vs H Q E0 ->
  codeAny (model P w) A (.call (.ref f) args) (CR CX0 outer P w H s Q E0) s
section
variable {P:Program} {w:World} {K:PySem.W.Frag} {mg:Str->Option Value} {base:Heap}
theorem Fun.okU {x qual:Str}{st:Stmt}{f:Addr}{fd:FuncData}{N ps:List Str}{k:Nat}{sp:Sp}(F:Fun K x qual st f fd)(S:Ai N ps (Ae st))(len:∀ vs H Q E,sp vs H Q E->vs.length=ps.length)
  (hbody:∀ (cdv:Value) (A A2:Around) (outer:List Env) (s:Shared) (H:Hp) (vs:List V) (Q:VK),Of k (A.deeper (envOfC qual (Ae st) s.heap.objs.size f cdv))->sp vs H Q E0 ->
   ∃ t,PSs ((Bu CX0 P w K mg base N qual (Ae st) f cdv A2 outer s H E0).re (A.deeper (envOfC qual (Ae st) s.heap.objs.size f cdv)) false fun _ _=>False) (B5 st) t/\t { nx:=fun _ H'=>Q .non H',rt:=Q } (Hn N vs) H):eO P w K mg base (k+1) f fd ps sp:=by
 obtain ⟨oc,od,kV,doc,pm,an,cdv,ct,osl,rfl,lk,hcd⟩:=F.ex
 refine ⟨len,fun A outer s H args us vs Q hr e0 hb r hsp=>?_⟩
 have hl:=len _ _ _ _ hsp
 have KX:K.In s.heap:=e0.mod.kin.keeps fun b o e=>(e0.bs b o e).1
 have lim:s.heap.NoLimit:=e0.mod.nolimit.keeps fun b o e=>(e0.bs b o e).1
 have hkind:∀ y∈ps.zip us,(Ae st).names.lookup y.1=some .local\/((Ae st).names.lookup y.1=some .cell/\((cellsFrom (s.heap.objs.size+1) (Ae st).names []).lookup y.1).isSome=true):=fun ⟨n,v⟩ hy=>by
  rcases S.par n (List.of_mem_zip hy).1 with q | q
  ·exact .inl q
  ·exact .inr ⟨q,PySem.W.cellsFrom_some _ _ _ (.inl q)⟩
 refine codeAny_call_function (by have:=hr.dp;omega) (KX _ _ lk) rfl S.co S.gen rfl (PySem.W.codeRec_of KX hcd) (hb _ _ _ _ ?_)
 refine wpAny_newFunctionEnv_cells S.kind hkind fun env he s1 x=>?_
 subst he
 refine ⟨lim.keeps x.toInCall.keep,codeAny_func ?_⟩
 have e2:Ox P w K mg base { A with handled:=none } outer s H:=⟨e0.frames,e0.mod,e0.bs,e0.bsz,e0.funs,e0.frf,e0.hok,e0.bare⟩
 obtain ⟨t,ht,hq⟩:=hbody cdv A { A with handled:=none } outer s H vs Q (hr.deeper _) hsp
 have I:=Tu (CX:=CX0) (E:=E0) (cd:=cdv) (f:=f) (qual:=qual) S rfl e2 hl r x
 have I2:Inv ((Bu CX0 P w K mg base N qual (Ae st) f cdv { A with handled:=none } outer s H E0).re (A.deeper (envOfC qual (Ae st) s.heap.objs.size f cdv)) false fun _ _=>False) [] (Hn N vs) H s1:=I.re (Around.frames_deeper e0.frames) (by intro z;cases z)
 refine wpAny_mono (ht [] s1 (Hn N vs) H _ I2 hq) (fun fl s' hs=>?_) fun e s' hs=>hs.elim
 cases fl with
 | ret u =>
  obtain ⟨v,σ',H',J,rv,q⟩:=hs
  exact ⟨v,H',J.os,J.bare,J.base,J.hok,rv,q⟩
 | next =>
  obtain ⟨σ',H',J,q⟩:=hs
  exact ⟨.non,H',J.os,J.bare,J.base,J.hok,rfl,q⟩
 | brk =>
  obtain ⟨_,_,_,q⟩:=hs
  exact q.elim
 | cont =>
  obtain ⟨_,_,_,q⟩:=hs
  exact q.elim
end
structure nO (P:Program) (w:World) (K:PySem.W.Frag) (mg:Str->Option Value) (base:Heap) (name:Str) (k:Nat) (ps:List Str) (sp:Sp):Prop where
 ex:∃ (f:Addr) (fd:FuncData),eO P w K mg base k f fd ps sp/\Dk K fd ps []/\mg name=some (.ref f)/\PySem.W.keepIn K (.ref f)=true
theorem jT {X:Cx}{k:Nat}{ps:List Str}{sp:Sp}{name:Str}{p pos:Pos}{e:Expr}{es:List Expr}{t:TA}(C:nO X.prog X.w X.K X.mg X.base name k ps sp)(hr:Of k X.A)(ha:PA X (e::es) t)(hg:Gl X name:=by rfl)(hdb:(name==("__debug__":Str))=false:=by decide)
  (he:starEach (e::es) X.env=(false,eval e X.env)::starEach es X.env:=by rfl)(hpl:(backTo pos (starEach es X.env)).any (·.1)=false:=by rfl):PE X (.Call (.Name name p) (e::es) [] pos) (T5 sp [] E0 t):=by
 obtain ⟨f,fd,F,hb,hm,hk⟩:=C.ex
 intro pins s σ H Q I h
 refine wpAny_Call_Name_kw (Ei I hg hm ?_ hdb)
 refine callWith_K (h₀:=X.base) I.ok.mod.kin hk (thn (ha pos pins s σ H _ I h) fun us s1 ⟨vs,H1,I1,r,q⟩=>⟨I1.kIn,?_⟩) he hpl
 have r2:A0 (vs++[]) (us++[]):=r.append .nil
 have hl:(us++[]).length=ps.length:=by rw [<- r2.length];exact F.len _ _ _ _ q
 refine wpAny_call (codeAny_mono (F.run X.A X.stack s1 H1 ⟨us,[]⟩ (us++[]) (vs++[]) Q hr I1.env0 (hb s1 us I1.kIn hl) r2 q) fun r s' hq=>?_)
 cases r with
 | error e=>exact hq.elim
 | ok fl =>
  cases fl with
  | ret u=>exact I1.after hq
  | next=>exact hq.elim
  | brk=>exact hq.elim
  | cont=>exact hq.elim
theorem pO (K:PySem.W.Frag){X:Cx}(h:X.K=K:=by rfl):IxR X (sF K):=by
 subst h
 exact Ia
theorem lZ (K:PySem.W.Frag){X:Cx}(h:X.K=K:=by rfl):IxR X (nL K):=by
 subst h
 exact Ci
open PySem.W Builtin.Getset_descriptor
structure Ji (K:PySem.W.Frag) (D:Addr):Prop where
 ga:findIn K (.ref D) "__getattribute__"=some (some (.builtin "BaseException.__getattribute__"))
 gx:findIn K (.ref D) "__getattr__"=some none
 ca:findIn K (.ref D) "__class__"=some (some (.builtin "object.__class__"))
 sp:specialIn K (.builtin "object.__class__") "__get__"=some (some (.builtin "getset_descriptor.__get__"))
 tk:takesIn K (.builtin "object.__class__")=some true
 mo:mroIn K D (.type "object")=some true
 mb:mroIn K D (.type "BaseException")=some true
theorem Ji.cl {K:PySem.W.Frag}{D:Addr}(Z:Ji K D):(clsIn K D).isSome=true:=by
 obtain ⟨cd,a,_⟩:=Option.bind_eq_some_iff.mp Z.mo
 rw [a]
 rfl
section
variable {prog:Program} {w:World} {A:Around} {E:Value->Shared->Prop} {s:Shared} {K:PySem.W.Frag} {x D:Addr} {ox:Obj} {od0:Option Obj} {od:Option Addr}
theorem kG {M:Model}{h:Heap}(Z:Ji K D)(X:K.In h):Looks M h (Builtin.ObjectAttr.find (.ref x) (.ref D) "__class__") (.bind (.builtin "getset_descriptor.__get__") (.builtin "object.__class__")):=by
 have L3:=looks_takesIn (M:=M) X Z.tk
 refine (looks_findIn X Z.ca).andThen ((looks_specialIn X Z.sp).andThen ?_)
 exact (show Looks M h (Builtin.ObjectAttr.dataDescriptor? (some (.builtin "object.__class__")) (some (.builtin "getset_descriptor.__get__"))) (some (.builtin "getset_descriptor.__get__",.builtin "object.__class__")) from L3.andThen .now).andThen (Looks.tag .now)
theorem pI {R:Result->Shared->Prop}{tp:Value}(X:K.In s.heap)(L0:Looks (model prog w) s.heap (typeOf (.ref x)) (.ref D))(hm:mroIn K D (.type "object")=some true)(h:R (.ok (.ret (.ref D))) s) :
  codeAny (model prog w) A (.call (.builtin "getset_descriptor.__get__") ⟨[.builtin "object.__class__",.ref x,tp],[]⟩) R s:=by
 obtain ⟨hh,g,dr,t,os⟩:=s
 have L1:=looks_mroIn (M:=model prog w) X hm
 refine codeAny_call_builtin KF.slot_gs.plain KF.entry_gs (KF.slot_gs.check _ _ _ _ _ _ _ _ KF.type_class (KF.args_gs _ _ _) ?_);unfold Builtin.«getset_descriptor.__get__» descrGet;rw [dga_obj]
 refine wpAny_bind (wpAny_pure ?_);unfold descrGetter descrCheckInstance descrNameAndClass isInstance;simp only [KF.owner_class];repeat lk
 refine ⟨Code.quiet_builtin _ (by decide +kernel),codeAny_builtin KF.entry_class ?_⟩;unfold Builtin.«object.__class__» shownTypeOf;repeat lk
 exact h
theorem gE {Q:Option Value->Shared->Prop}(Z:Ji K D)(X:K.In s.heap)(I:Ty x D od s.heap)(h:Q (some (.ref D)) { s with toks:=s.toks+1 }):wpAny (model prog w) A (getAttr? (.ref x) "__class__") Q E s:=by
 obtain ⟨hh,g,d,t,os⟩:=s
 obtain ⟨ox,ws,hox,hoc,_⟩:=I
 have L0:Looks (model prog w) hh (typeOf (.ref x)) (.ref D):=hoc▸(Looks.ld hox).andThen .now
 have L1:=looks_findIn (M:=model prog w) X Z.ga
 have L2:=looks_findIn (M:=model prog w) X Z.gx
 have LF:=kG (M:=model prog w) (x:=x) Z X
 have LB:=looks_mroIn (M:=model prog w) X Z.mb
 unfold getAttr? getAttrBy? getAttrBy
 refine wpAny_bind (wpAny_mkText (wpAny_bind (wpAny_attempt (wpAny_holding (wpAny_bind (L0.at (wpAny_bind (L1.at ?_))))))))
 show wpAny _ _ (getAttrByItsOwn _ _ _ _ _ _) _ _ _
 unfold getAttrByItsOwn hookBefore
 refine wpAny_bind (L2.at (wpAny_bind (wpAny_attempt (wpAny_holding ?_))))
 show wpAny _ _ (boundAndCalled _ _ _) _ _ _
 unfold boundAndCalled
 refine wpAny_bind (wpAny_of_eq (F.excAttr_ValueError.ga.bind (.ref x)) ?_)
 show wpAny _ _ (call (.builtin "BaseException.__getattribute__") [.ref x,.str "__class__" t]) _ _ _
 refine wpAny_call (codeAny_call_builtin F.excAttr_ValueError.ga.plain F.entry_bexc_ga ?_)
 have hk:builtinKind "BaseException.__getattribute__"=some .slot:=by decide +kernel
 have hsp:splitId "BaseException.__getattribute__"=some ("BaseException","__getattribute__"):=by decide +kernel
 simp only [checkBuiltinCall,hk,hsp]
 have ha:=F.args_bexc_ga (.ref x) (.str "__class__" t)
 refine wpAny_bind ?_
 unfold isInstance
 iterate 4 lk
 refine wpAny_of_eq (a:=()) ?_ ?_
 ·have ha':=ha
  unfold argsOk at ha'
  cases hsig:Manifest.signature? "BaseException.__getattribute__" with
  | none=>rfl
  | some sig =>
   rw [hsig] at ha'
   exact ha'
 unfold Builtin.«object.__getattribute__»
 refine wpAny_bind (wpAny_pure ?_)
 refine wpAny_bind (wpAny_pure (wpAny_bind (L0.at (wpAny_bind (LF.at ?_)))))
 show wpAny _ _ (holding [Value.builtin "object.__class__"] (call (.builtin "getset_descriptor.__get__") [.builtin "object.__class__",.ref x,.ref D]) >>= ret) _ _ _
 refine wpAny_bind (wpAny_holding (wpAny_call (pI (s:=⟨hh,g,d,t+1,os⟩) X L0 Z.mo (wpAny_pure ?_))))
 exact handed_on rfl (wpAny_pure h)
theorem Yh (Z:Ji K D):KitX K (.ref x) (.ref D) (Ty x D od) where
 ty:=fun M h X p=>by
  obtain ⟨ox,ws,hox,hoc,_⟩:=p
  exact hoc▸(Looks.ld hox).andThen .now
 it:=fun M h X p=>by
  obtain ⟨cd,hc⟩:=Option.isSome_iff_exists.mp Z.cl
  unfold clsIn at hc
  split at hc
  ·rename_i c' d' cd' sl' ho
   intro A' Q' E' s' k q
   unfold isType loadHead;exact wpAny_bind (wpAny_loadPart (k _ _ (X _ _ ho)) (wpAny_pure q))
  ·cases hc
 ne:=fun h tp dd its n sl X htp=>by
  obtain ⟨cd,hc⟩:=Option.isSome_iff_exists.mp Z.cl
  refine Bool.eq_false_iff.mpr fun q=>?_
  have e:D=tp:=Value.ref.inj (beq_iff_eq.mp q)
  subst e
  unfold clsIn at hc
  split at hc
  ·rename_i c' d' cd' sl' ho
   have z:=(X _ _ ho).symm.trans htp
   cases z
  ·cases hc
 ca:=fun X p k=>gE Z X p k
end
def vD:V->Value->Prop
 | .ty n,v=>v=.type n
 | .ref a,v=>v=.ref a
 | _,_=>False
def wF (K:PySem.W.Frag):List V->Hp->VK->Prop:=fun xs H Q=>∃ e C od c cv b,xs=[.ref e,c]/\H e=some (K9 e C od)/\Ji K C/\vD c cv/\kitOne K (.ref C) cv=some b/\Q (.bl b) H
theorem Vj {X:Cx}:Dj X (.builtin "isinstance") (wF X.K):=by
 intro pins s σ H xs us Q I r h
 obtain ⟨e,C,od,c,cv,b,rfl,he,Z,hcv,hk,q⟩:=h
 obtain ⟨u,w',rfl,ru,rw'⟩:=Mc r
 cases (show u=Value.ref e from ru)
 have hw:w'=cv:=by
  cases c<;>first | exact hcv.elim | exact (show w'=_ from rw').trans (show cv=_ from hcv).symm
 subst hw
 obtain ⟨p,_,_⟩:=(show B3 X.prog X.w H s.heap e (K9 e C od) from I.hok e _ he)
 exact kia_one (Yh Z) I.kIn p hk (fun z=>nomatch z) fun tk=>⟨.bl b,H,I.tok tk,rfl,q⟩
theorem Ds (K:PySem.W.Frag){X:Cx}(h:X.K=K:=by rfl):Dj X (.builtin "isinstance") (wF K):=by
 subst h
 exact Vj
theorem B2.mark {k:Nat}{A:Around}{v:Option Value}(r:B2 k A):Of k (A.mark v):=⟨r.dp,r.un⟩
theorem Um:bootBuiltins "ValueError"=some (.type "ValueError"):=by decide +kernel
section
variable {X:Cx}
def mC:List V->List Value->Prop
 | [],[]=>True
 | c::r,v::s=>vD c v/\mC r s
 | _,_=>False
theorem Wt:∀ {cs:List V} {vs us:List Value},mC cs vs->A0 cs us->us=vs
 | [],[],_,_,.nil=>rfl
 | [],_::_,_,h,_=>h.elim
 | _::_,[],_,h,_=>h.elim
 | c::r,v::s,_,h,.cons (b:=u) h1 h2=>by
  have e:u=v:=by
   have h0:=h.1
   cases c<;>first | exact h0.elim | exact (show u=_ from h1).trans (show v=_ from h0).symm
  rw [e,Wt h.2 h2]
def wL (K:PySem.W.Frag):List V->Hp->VK->Prop:=fun xs H Q=>∃ e C od t cs cvs b,xs=[.ref e,.ref t]/\H e=some (K9 e C od)/\Ji K C/\H t=some (.tup cs)/\mC cs cvs/\kitAny K (.ref C) cvs=some b/\Q (.bl b) H
theorem K1 (K:PySem.W.Frag){X:Cx}(h:X.K=K:=by rfl):Dj X (.builtin "isinstance") (wL K):=by
 subst h
 intro pins s σ H xs us Q I r h
 obtain ⟨e,C,od,t,cs,cvs,b,rfl,he,Z,ht,hcs,hk,q⟩:=h
 obtain ⟨u,w',rfl,ru,rw'⟩:=Mc r
 cases (show u=Value.ref e from ru)
 cases (show w'=Value.ref t from rw')
 obtain ⟨p,_,_⟩:=(show B3 X.prog X.w H s.heap e (K9 e C od) from I.hok e _ he)
 obtain ⟨_,its,rv,hT⟩:=(show B3 X.prog X.w H s.heap t (.tup cs) from I.hok t _ ht)
 have hi:=Wt hcs rv
 subst hi
 obtain ⟨o,eo,h1,n,h2⟩:=hT
 obtain ⟨c,d,da,sl⟩:=o
 obtain rfl:=h1
 obtain rfl:=h2
 exact PySem.W.kia_tup (Yh Z) I.kIn p eo hk (fun z=>nomatch z) fun tk=>⟨.bl b,H,I.tok tk,rfl,q⟩
end
theorem dG {X:Cx}{pins:List (Addr×Obj)}{σ:St}{H:Hp}{s:Shared}(I:Inv X pins σ H s):sysModules<s.heap.objs.size :=
 Nat.lt_trans (by decide) (show mainGlobals<s.heap.objs.size from (I.mod.glob.keeps I.bk).lt)
def qH:TE:=fun _ H Q=>∀ p,H p=none->Q (.ref p) (upd H p (.dK []))
theorem iB {P:Program}{w:World}{H:Hp}(h:Heap)(hb:sysModules<h.objs.size):B3 P w H (h.push { cls:=.type "dict",data:=.dict #[] }) h.objs.size (.dK []) :=
 ⟨Nat.zero_le _,beq_eq_false_iff_ne.mpr (Ne.symm (Nat.ne_of_lt hb)),[],.nil,Heap.DictOf.new h⟩
theorem dE {X:Cx}{pos:Pos}:PE X (.Dict [] [] pos) qH:=fun pins s σ H Q I h =>
 wpAny_Dict_empty ⟨.ref s.heap.objs.size,_,I.laid (a:=s.heap.objs.size) (o:=.dK []) (t':=s.toks) (fun _ _ q=>Heap.get?_push_of_some _ q) (Nat.le_refl _) (iB s.heap (dG I)),rfl,h _ (I.hok.fresh (Nat.le_refl _))⟩
theorem sS {σ:St}{H:Hp}{Q:VK}(h:∀ p,H p=none->Q (.ref p) (upd H p (.dK []))):qH σ H Q:=h
abbrev Ja (C t:Addr)(od:Option Addr):Obj:={ cls:=.ref C,dict:=od,data:=.fields #[.ref t,.none,.none,.none,.bool false,.none] }
structure Ll (K:PySem.W.Frag) (W C f:Addr):Prop where
 wex:excIn K W Dv "ValueError.__new__"=true
 ob:∃ nm qn N bs sn sub ab col dd k0 k1 k2 k3 k5,K.lookup C=some (excClassObj nm qn C N bs (.ref W::Dv) true sn sub ab col dd k0 k1 k2 k3 k5 "ValueError.__new__")
 ini:findIn K (.ref C) "__init__"=some (some (.ref f))
 fn:typeIn K (.ref f)=some (.type "function")
 sa:findIn K (.ref C) "__setattr__"=some (some (.builtin "object.__setattr__"))
 pl:findIn K (.ref C) "place"=some none
section
variable {prog:Program} {w:World} {A:Around} {E:Value->Shared->Prop} {s:Shared} {K:PySem.W.Frag} {W C f e t:Addr} {od:Option Addr}
theorem Xv {h:Heap}(X:K.In h)(q:excIn K W Dv "ValueError.__new__"=true):OwnTail h Dv (.ref W::Dv):=by
 obtain ⟨bm,N,nm,qn,bs,hdct,sn,sub,ab,col,dd,k0,k1,k2,k3,k5,mN,hC,hN,hni,hT⟩:=dL X q
 exact .own hC hN hni .base
theorem cD {v:Value}{Q:Value->Shared->Prop}(O:Ll K W C f)(X:K.In s.heap)(he:s.heap.get? e=some (Ja C t od))
  (q:∀ h' t',(∀ b o,b≠e->s.heap.get? b=some o->h'.get? b=some o)->h'.get? e=some (Ja C t' od)->Q .none { s with heap:=h' }):wpAny (model prog w) A (call (.builtin "ValueError.__init__") [.ref e,v]) Q E s:=by
 obtain ⟨hh,g,d,tk,os⟩:=s
 obtain ⟨nm,qn,N,bs,sn,sub,ab,col,dd,k0,k1,k2,k3,k5,lk⟩:=O.ob
 have hC:=X _ _ lk
 have T:=Xv X O.wex
 have B:=PySem.F.excBase_ValueError
 refine wpAny_call (codeAny_call_builtin B.init.plain B.initEntry (wpAny_check_init_subT B T hC he rfl ?_))
 wp_walk
 refine q _ hh.objs.size (fun b o hb z=>?_) ?_
 ·exact (Heap.get?_update_other _ _ (Ne.symm hb)).trans (Heap.get?_push_of_some _ z)
 ·exact Heap.get?_update_self _ (Heap.get?_push_of_some _ he) rfl
theorem gQ {v:Value}{Q:Unit->Shared->Prop}(O:Ll K W C f)(Z:Ji K C)(X:K.In s.heap)(he:s.heap.get? e=some (Ja C t none))
  (q:∀ h' dx tk,(∀ b o,b≠e->s.heap.get? b=some o->h'.get? b=some o)->h'.get? e=some (Ja C t (some dx))->dx≠e->s.heap.objs.size<=dx->h'.Ns1 dx (fun y=>if y="place" then some v else none)->Q () { s with heap:=h',toks:=tk }) :
  wpAny (model prog w) A (setAttr (.ref e) "place" v) Q E s:=by
 obtain ⟨hh,g,d,tk,os⟩:=s
 have X:K.In hh:=X
 have he:hh.get? e=some (Ja C t none):=he
 obtain ⟨nm,qn,N,bs,sn,sub,ab,col,dd,k0,k1,k2,k3,k5,lk⟩:=O.ob
 have SF:=PySem.F.store_object
 have J:InstAt hh e (Ja C t none) C none:=⟨he,rfl,rfl,True.intro⟩
 have hc:clsIn K C=some ⟨nm,bs,.ref C::.ref W::Dv,N,qn,true,sn,sub,ab,col,false⟩:=by
  unfold clsIn
  rw [lk]
 have isO:Looks (model prog w) hh (isInstance (.ref e) (.type "object")) true:=J.type.andThen (looks_mroIn X Z.mo)
 have hm:Looks (model prog w) hh (mroOf (.ref C)) (.ref C::.ref W::Dv):=(looks_clsIn X hc).andThen .now
 refine set_plain X J O.sa ?_
 refine codeAny_call_builtin SF.slot.plain SF.entry (@check_slot (model prog w) _ _ ⟨hh,g,d,tk+1,os⟩ "object.__setattr__" "object" "__setattr__" (.ref e) [.str "place" tk,v] [] _ SF.kind SF.split isO (SF.args (.ref e) (.str "place" tk) v) ?_)
 rw [osa_eq,refuse_eq]
 refine wpAny_bind (wpAny_bind (J.type.here (wpAny_bind (hm.here ?_))))
 rw [refuseLoop_ref,refuseLoop_ref,show refuseLoop (.ref e) "__setattr__" Dv=pure () from PySem.F.store_ValueError.passes _]
 refine wpAny_pure (wpAny_bind (J.type.here (wpAny_bind ((looks_findIn X O.pl).here (wpAny_bind ?_)))))
 refine wpAny_pure ?_
 show wpAny _ _ (Builtin.ObjectAttr.storeInOwnDict (.ref e) (.ref C) (.str "place" tk) "place" v false) _ _ _
 have hcl:=X _ _ lk
 have he1:(hh.push emptyDict).get? e=some (Ja C t none):=Heap.get?_push_of_some _ he
 have hes:e≠hh.objs.size:=Nat.ne_of_lt (Heap.lt_size he)
 refine wpAny_bind (wpAny_pure (wpAny_bind ?_))
 refine wpAny_bind (wpAny_loadPart he (wpAny_bind ((looks_clsIn X hc).here ?_)))
 show wpAny _ _ (do
  let d <- alloc { cls:=Value.type "dict",data:=Data.dict #[] }
  update e fun o=>{ cls:=o.cls,dict:=some d,data:=o.data,slots:=o.slots }
  dictMade (.ref C) e d) _ _ _
 refine wpAny_bind (wpAny_alloc' (wpAny_bind (wpAny_update' he1 (wpAny_pure ?_))))
 show wpAny _ _ (Builtin.ObjectAttr.storeInDict hh.objs.size (.str "place" tk) "place" v) _ _ _
 have hd2:((hh.push emptyDict).update e fun o=>{ cls:=o.cls,dict:=some hh.objs.size,data:=o.data,slots:=o.slots }).get? hh.objs.size=some emptyDict :=
  (Heap.get?_update_other _ _ hes).trans (Heap.get?_push_size hh rfl)
 have hn2:((hh.push emptyDict).update e fun o=>{ cls:=o.cls,dict:=some hh.objs.size,data:=o.data,slots:=o.slots }).Ns hh.objs.size (fun _=>none):=⟨_,#[],_,hd2,rfl,(fun en hen=>absurd hen (by simp)),fun _=>rfl⟩
 have he2:((hh.push emptyDict).update e fun o=>{ cls:=o.cls,dict:=some hh.objs.size,data:=o.data,slots:=o.slots }).get? e=some (Ja C t (some hh.objs.size)):=Heap.get?_update_self _ he1 rfl
 have hk2:∀ b o,b≠e->hh.get? b=some o->((hh.push emptyDict).update e fun o=>{ cls:=o.cls,dict:=some hh.objs.size,data:=o.data,slots:=o.slots }).get? b=some o:=fun b o hb z=>(Heap.get?_update_other _ _ (Ne.symm hb)).trans (Heap.get?_push_of_some _ z)
 unfold Builtin.ObjectAttr.storeInDict Builtin.ObjectAttr.newKeyGuard
 refine wpAny_bind (wpAny_pure (wpAny_bind (wpAny_nsSet1 (Heap.Ns1.of_empty hn2) fun h' hn' hs=>?_)))
 obtain ⟨ob1,es1,ep1,at1,da1,ct1⟩:=hn'.count (Within.cons "place" v Within.nil)
 refine wpAny_bind (wpAny_lookBehind at1 (da1▸pastItsLine_dict (Nat.le_trans ct1 (by decide))) ?_)
 refine wpAny_pure ?_
 refine q h' hh.objs.size _ (fun b o hb z=>(hs.2 b (Nat.ne_of_lt (Heap.lt_size z))).trans (hk2 b o hb z)) ((hs.2 e hes).trans he2) (Ne.symm hes) (Nat.le_refl _) ?_
 obtain ⟨o',es,ep,e1,e2,e3,eu,e4⟩:=hn'
 exact ⟨o',es,ep,e1,e2,e3,eu,fun y=>by rw [e4 y]⟩
theorem fV {v:Value}{o:Obj}{vs:Array Value}{dx:Addr}{mA:Str->Option Value}{Q:Value->Shared->Prop}(O:Ll K W C f)(Z:Ji K C)(X:K.In s.heap)(he:s.heap.get? e=some o)(hoc:o.cls=.ref C)(hod:o.data=.fields vs)(hdx:o.dict=some dx)
  (hn:s.heap.Ns1 dx mA)(hm:mA "place"=some v)(hh':handedIn v=true)(q:∀ tk,Q v { s with toks:=tk }):wpAny (model prog w) A (getAttr (.ref e) "place" true) Q E s:=by
 obtain ⟨hh,g,d,tk,os⟩:=s
 have X:K.In hh:=X
 obtain ⟨oc,odi,oda,osl⟩:=o
 dsimp only at hoc hod hdx
 subst hoc hod hdx
 obtain ⟨nm,qn,N,bs,sn,sub,ab,col,dd,k0,k1,k2,k3,k5,lk⟩:=O.ob
 have hc:clsIn K C=some ⟨nm,bs,.ref C::.ref W::Dv,N,qn,true,sn,sub,ab,col,false⟩:=by
  unfold clsIn
  rw [lk]
 have L0:Looks (model prog w) hh (typeOf (.ref e)) (.ref C):=(Looks.ld he).andThen .now
 have L1:=looks_findIn (M:=model prog w) X Z.ga
 have L2:=looks_findIn (M:=model prog w) X Z.gx
 have LB:=looks_mroIn (M:=model prog w) X Z.mb
 have LP:=looks_findIn (M:=model prog w) X O.pl
 unfold getAttr getAttrBy
 refine wpAny_bind (wpAny_mkText (wpAny_holding (wpAny_bind (L0.at (wpAny_bind (L1.at ?_))))))
 show wpAny _ _ (getAttrByItsOwn _ _ _ _ _ _) _ _ _
 unfold getAttrByItsOwn hookBefore
 refine wpAny_bind (L2.at (wpAny_bind (wpAny_attempt (wpAny_holding ?_))))
 show wpAny _ _ (boundAndCalled _ _ _) _ _ _
 unfold boundAndCalled
 refine wpAny_bind (wpAny_of_eq (PySem.F.excAttr_ValueError.ga.bind (.ref e)) ?_)
 show wpAny _ _ (call (.builtin "BaseException.__getattribute__") [.ref e,.str "place" tk]) _ _ _
 refine wpAny_call (codeAny_call_builtin PySem.F.excAttr_ValueError.ga.plain PySem.F.entry_bexc_ga ?_)
 have kd:builtinKind "BaseException.__getattribute__"=some .slot:=by decide +kernel
 have sp:splitId "BaseException.__getattribute__"=some ("BaseException","__getattribute__"):=by decide +kernel
 simp only [checkBuiltinCall,kd,sp]
 have ha:=PySem.F.args_bexc_ga (.ref e) (.str "place" tk)
 refine wpAny_bind ?_
 unfold isInstance
 iterate 4 lk
 refine wpAny_of_eq (a:=()) ?_ ?_
 ·unfold argsOk at ha
  cases hsig:Manifest.signature? "BaseException.__getattribute__" with
  | none=>rfl
  | some sig =>
   rw [hsig] at ha
   exact ha
 unfold Builtin.«object.__getattribute__»
 refine wpAny_bind (wpAny_pure ?_)
 refine wpAny_bind (wpAny_pure (wpAny_bind (L0.at (wpAny_bind ?_))))
 refine wpAny_bind (LP.at ?_)
 refine wpAny_bind (wpAny_pure (wpAny_bind (wpAny_pure ?_)))
 show wpAny _ _ (Builtin.ObjectAttr.ownThenClass (.ref e) "place" none none) _ _ _
 unfold Builtin.ObjectAttr.ownThenClass Builtin.ObjectAttr.inOwnDict Builtin.ObjectAttr.ownDict
 refine wpAny_bind (wpAny_bind ?_)
 refine wpAny_bind ((Looks.ld he).at ?_)
 show wpAny _ _ (instanceDict e false) _ _ _
 refine wpAny_bind (wpAny_loadPart he (wpAny_bind ((looks_clsIn X hc).here (wpAny_pure ?_))))
 show wpAny _ _ (nsGet dx "place") _ _ _
 refine wpAny_nsGet hn.ns ?_
 rw [hm]
 refine wpAny_bind (wpAny_rule (wpAny_pure ?_))
 exact wpAny_pure (handed_on hh' (q _))
theorem mW {rest:List Value}{Q:Value->Shared->Prop}(O:Ll K W C f)(X:K.In s.heap)(hr:rest.length<=sizeLine)
  (q:∀ h' e,Heap.MadeExcOf s.heap h' e (.ref C) rest->s.heap.objs.size<=e->wpAny (model prog w) (A.under (.builtin "type.__call__" ⟨.ref C::rest,[]⟩)) (call (.ref f) (.ref e::rest)) (fun r s'=>r=.none/\Q (.ref e) s') E { s with heap:=h' }) :
  wpAny (model prog w) A (call (.ref C) rest) Q E s:=by
 obtain ⟨hh,g,d,tk,os⟩:=s
 have X:K.In hh:=X
 obtain ⟨nm,qn,N,bs,sn,sub,ab,col,dd,k0,k1,k2,k3,k5,lk⟩:=O.ob
 have hC:hh.get? C=_:=X _ _ lk
 have T:=Xv X O.wex
 have B:=PySem.F.excBase_ValueError
 have f1:=tc_lookup
 have f2:=tc_bind (.ref C)
 have tC:(⟨hh,g,d,tk,os⟩:Shared).TypeIs (.ref C) "type":=⟨_,hC,rfl⟩
 refine wpAny_call (codeAny_of_tree ?_)
 show wpAny _ _ (callAny (.ref C) _) _ _ _
 repeat (any_goals (first | assumption | with_reducible refine wpAny_loadPart_at hC ?_ | wp_step))
 refine ⟨rfl,codeAny_call_builtin_at (Code.quiet_builtin _ (by decide +kernel)) entry_typeCall (wpAny_check_type_call_sub hC ?_)⟩
 repeat (first | with_reducible refine wpAny_loadPart_at hC ?_ | with_reducible refine wpAny_madeBy_exc hC ?_ | wp_step)
 refine codeAny_call_builtin_code (Code.quiet_builtin _ B.quiet) (wpAny_check_new_subT B T hC (codeAny_exc_new_subT B T hC ?_ hr))
 show wpAny _ _ _ _ _ _
 have hget:((hh.push { cls:=.type "tuple",data:=.seq rest.toArray }).push (Ja C hh.objs.size none)).get? (hh.objs.size+1)=some (Ja C hh.objs.size none):=by heap_get
 have kp:∀ b o,hh.get? b=some o->((hh.push { cls:=.type "tuple",data:=.seq rest.toArray }).push (Ja C hh.objs.size none)).get? b=some o:=fun b o z=>Heap.get?_push_of_some _ (Heap.get?_push_of_some _ z)
 have hC₁:=kp _ _ hC
 have hcC:(Value.ref C::.ref W::Dv).contains (.ref C)=true:=by simp
 have X1:K.In ((hh.push { cls:=.type "tuple",data:=.seq rest.toArray }).push (Ja C hh.objs.size none)):=fun b o z=>kp b o (X b o z)
 have mx:Heap.MadeExcOf hh ((hh.push { cls:=.type "tuple",data:=.seq rest.toArray }).push (Ja C hh.objs.size none)) (hh.objs.size+1) (.ref C) rest:=by
  refine ⟨kp,Heap.get?_none_of_le (Nat.le_succ _),hh.objs.size,hget,Heap.get?_none_of_le (Nat.le_refl _),?_⟩
  exact Heap.get?_push_of_some _ (Heap.get?_push_size hh rfl)
 have J:InstAt ((hh.push { cls:=.type "tuple",data:=.seq rest.toArray }).push (Ja C hh.objs.size none)) (hh.objs.size+1) (Ja C hh.objs.size none) C none:=⟨hget,rfl,rfl,True.intro⟩
 unfold isInstance
 repeat (first | with_reducible refine wpAny_loadPart_at hget ?_ | (with_reducible refine wpAny_isSubtype_exc hC₁ ?_;rw [hcC]) | wp_step)
 refine wpAny_isSubtype_exc hC₁ ?_
 rw [hcC]
 rw [if_neg (by decide)]
 refine wpAny_bind (wpAny_holding (special_fn X1 J O.ini O.fn ?_))
 refine wpAny_mono (q _ _ mx (Nat.le_succ _)) (fun v s' z=>?_) fun _ _ z=>z
 obtain ⟨rfl,z⟩:=z
 exact wpAny_pure z
end
def qN (e C:Addr)(od:Option Addr)(h:Heap):Prop:=∃ t,h.get? e=some (Ja C t od)
def F8 (e C:Addr)(od:Option Addr):HO:=.ext (qN e C od)
theorem Yz {P:Program}{w:World}{H:Hp}{h:Heap}{e C:Addr}{od:Option Addr}(x:qN e C od h):B3 P w H h e (F8 e C od) :=
 ⟨x,let ⟨_,z⟩:=x;⟨_,z⟩,fun _ _ ⟨t,z⟩ k=>⟨t,k _ z⟩⟩
structure rG (K:PySem.W.Frag) (mg:Str->Option Value) (x:Str) (W:Addr):Prop where
 at_:mg x=some (.ref W)
 ga:specialIn K (.ref W) "__getattribute__"=some (some (.builtin "type.__getattribute__"))
 rd:readsIn K W (.type "type")=true
 ini:findCls K (.ref W) (.type "type") "__init__"=some (.val (.builtin "ValueError.__init__"))
theorem uI {H:Hp}{e:Addr}{o:HO}(h:H e=some o):upd H e o=H:=by
 funext b
 by_cases hb:b=e
 ·subst hb;rw [Ac,h]
 ·rw [Al hb]
section
variable {X:Cx} {x:Str} {W C f:Addr} {np apos pos p1 p2 pos':Pos} {a o e value:Expr} {as:List Expr} {t:TA} {te ta tv:TE} {pl:Sem Bool}
def iR (K:PySem.W.Frag)(W:Addr)(t:TA):TE:=fun σ H Q=>t σ H fun vs H1=>∃ e C f od z,vs=[.ref e,.str z]/\H1 e=some (F8 e C od)/\Ll K W C f/\Q .non H1
theorem iP (B:rG X.K X.mg x W)(hg:Gl X x)(ha:PA X (a::as) t)(hdb:(x==("__debug__":Str))=false:=by decide)
  (he:backTo pos (starEach (a::as) X.env)=(false,eval a X.env)::backTo pos (starEach as X.env):=by rfl)(hpl:(backTo pos (starEach (a::as) X.env)).any (·.1)=false:=by rfl)
  (ht:eval (.Call (.Attribute (.Name x np) "__init__" apos) (a::as) [] pos) X.env=(do
   let ov <- eval (.Name x np) X.env
   standAt apos.atName
   let (f,first) <- holding [ov] (getMethod ov "__init__" pl)
   callWith pos f first (backTo pos (starEach (a::as) X.env)) (backToKw pos (keywordEach [] X.env))):=by rfl) :
  PE X (.Call (.Attribute (.Name x np) "__init__" apos) (a::as) [] pos) (iR X.K W t):=by
 intro pins s σ H Q I h
 refine methodCall_KW (Ei I hg B.at_ ?_ hdb) ht
 refine method_cls I.kIn B.ga (cls_value I.kIn B.rd B.ini rfl ?_)
 refine Calls.callWith_builtin hpl ?_
 have hs:=ha pos pins _ σ H _ (I.tok (s.toks+1)) h
 rw [he] at hs ⊢
 refine Calls.evalArgs_plain (thn hs fun us s1 ⟨vs,H1,I1,r,e,C,f,od,z,ev,hx,O,q⟩=>?_)
 subst ev
 obtain ⟨u,u2,rfl,ru,ru2⟩:=Mc r
 obtain rfl:u=Value.ref e:=ru
 obtain ⟨⟨t0,h0⟩,_,_⟩:=(show B3 X.prog X.w H1 s1.heap e (F8 e C od) from I1.hok e _ hx)
 refine cD O I1.kIn h0 fun h' t' hk he'=>⟨.non,H1,?_,rfl,q⟩
 have z:=I1.write (x:=e) (e:=e) (o:=F8 e C od) (h':=h') (t':=s1.toks) (by rw [hx];exact True.intro) (.inl rfl) hk ⟨_,he'⟩ (Yz ⟨t',he'⟩)
 rw [uI hx] at z
 exact z
def qZ (te:TE):TE:=fun σ H Q=>te σ H fun v H1=>∃ i:Int,v=.int i/\i.natAbs<10 ^ 12/\∀ z,Q (.str z) H1
theorem fI {n:Nat}(h:n<10 ^ 12):n.log2<1920:=by
 have:n.log2<40:=by
  by_cases h0:n=0
  ·subst h0;decide
  ·exact (Nat.log2_lt h0).mpr (Nat.lt_of_lt_of_le h (by decide))
 omega
theorem oN {c:Str}{j:Nat}(hc:c.length<=1000)(he:PE X e te):PE X (.JoinedStr [.Constant (.str c) j p1,.FormattedValue e (-1) none p2] pos) (qZ te):=by
 intro pins s σ H Q I h
 have sl:2000<=sizeLine:=by decide
 refine JoinedStr_many (joinParts_cons (Calls.Constant_str ⟨?_,joinParts_cons (FormattedValue_plain (thn (he pins _ σ H _ (I.tok _) h) fun u s1 ⟨v,H1,I1,r,i,ev,hi,q⟩=>?_))⟩))
 ·rw [strLen_append]
  show 0+c.length<=_
  omega
 ·subst ev
  obtain ⟨tk,rfl⟩:=r
  have hl:=int_text_length_le10 (k:=12) (by decide) hi
  have hz:(Str.empty++c++(Str.ofString (toString i))).length<=sizeLine:=by
   rw [strLen_append,strLen_append]
   show 0+c.length+_<=_
   have:(Str.ofString (toString i)).length<=13:=by rw [PySem.ofString_length];exact hl
   omega
  refine formatField_int_small (fI hi) ⟨hz,joinParts_nil ⟨.str _,H1,I1.tok _,⟨_,rfl⟩,q _⟩ hz⟩
def mM (K:PySem.W.Frag)(ta tv:TE):TS:=fun D σ H=>tv σ H fun y H1=>ta σ H1 fun x H2=>∃ e W C f,x=.ref e/\H2 e=some (F8 e C none)/\Ll K W C f/\Ji K C /\
 ∀ dx,H2 dx=none->D.nx σ (upd (upd H2 dx (.xd [("place",y)])) e (F8 e C (some dx)))
theorem lC (ha:PE X o ta)(hv:PE X value tv)(hs:swapsWith value (some (.Attribute o "place" pos')) pos.line X.env=pure false:=by rfl):PS X (.Assign [.Attribute o "place" pos'] value pos) (mM X.K ta tv):=by
 intro pins s σ H D I h
 refine plainObj_wpAny_Assign_Attribute (thn (hv pins s σ H _ I h) fun u s1 ⟨y,H1,I1,ry,q⟩=>thn (ha pins s1 σ H1 _ I1 q) fun ov s2 ⟨x,H2,I2,rx,e,W,C,f,ex,hx,O,Z,q2⟩=>?_) hs
 subst ex
 obtain rfl:ov=Value.ref e:=rx
 obtain ⟨⟨t0,h0⟩,_,_⟩:=(show B3 X.prog X.w H2 s2.heap e (F8 e C none) from I2.hok e _ hx)
 refine gQ O Z I2.kIn h0 fun h' dx tk hk he' hne hsz hn=>⟨σ,_,?_,q2 dx (I2.hok.fresh hsz)⟩
 have fr:=I2.hok.fresh hsz
 have nb:∀ b ob,s2.heap.get? b=some ob->b≠dx:=fun b ob z=>Nat.ne_of_lt (Nat.lt_of_lt_of_le (Heap.lt_size z) hsz)
 have nt:∀ {b:Addr} {u:HO},H2 b=some u->b≠dx:=fun z=>Aq z fr
 have ne:∀ {b:Addr},H2 b=none->b≠e:=fun z y=>by rw [y,hx] at z;cases z
 have mv:∀ {b:Addr},b≠e->b≠dx->upd (upd H2 dx (.xd [("place",y)])) e (F8 e C (some dx)) b=H2 b:=fun z z2=>by rw [Al z,Al z2]
 have xt:∀ {b:Addr} {u:HO},H2 b=some u->u≠F8 e C none->b≠e:=fun z n y=>by rw [y,hx] at z;cases z;exact n rfl
 refine I2.un (t':=tk) ⟨fun b ob z n _ _=>hk b ob (ne n) z,fun b ob z n _ _=>⟨ob.slots,hk b ob (ne n) z⟩,fun b ob z n _=>by rw [mv (ne n) (nb b ob z)];exact n,fun b ob z _=>?_,fun b xs z=>?_,fun b ob u z=>?_,fun b ps z=>?_⟩ fun b ob z=>?_
 ·by_cases hb:b=e
  ·subst hb;exact ⟨_,he'⟩
  ·exact ⟨ob,hk b ob hb z⟩
 ·rw [mv (xt z (by intro y;cases y)) (nt z)];exact z
 ·rw [mv (xt z (by intro y;cases y)) (nt z)];exact z
 ·exact ⟨#[],by rw [mv (xt z (by intro y;cases y)) (nt z)];simpa using z⟩
 ·by_cases hb:b=e
  ·subst hb
   rw [Ac] at z
   cases z
   exact Yz ⟨t0,he'⟩
  ·rw [Al hb] at z
   by_cases hb2:b=dx
   ·subst hb2
    rw [Ac] at z
    cases z
    refine ⟨_,hn,fun f=>?_⟩
    by_cases hf:f="place"
    ·subst hf
     simpa [Ot] using ry
    ·have:List.lookup f [(("place":Str),y)]=none:=by
      rw [List.lookup,show (f==("place":Str))=false from beq_eq_false_iff_ne.mpr hf]
      rfl
     rw [this]
     simp [Ot,hf]
   ·rw [Al hb2] at z
    refine (I2.hok b ob z).stay (fun c w' hc y=>hk c w' ?_ y) (fun c y=>?_) fun c xs y=>?_
    ·rcases hc with rfl | hc
     ·exact hb
     ·exact xt hc (by intro y;cases y)
    ·rw [mv (xt y (by intro y;cases y)) (nt y)];exact y
    ·rw [mv (xt y (by intro y;cases y)) (nt y)];exact y
def cL (K:PySem.W.Frag)(te:TE):TE:=fun σ H Q=>te σ H fun x H1=>∃ e W C f dx fs i,x=.ref e/\H1 e=some (K9 e C (some dx))/\Ll K W C f/\Ji K C/\H1 dx=some (.xd fs)/\fs.lookup ("place":Str)=some (V.int i)/\Q (.int i) H1
theorem jV (he:PE X e te)(hb:attributeBase e "place" X.env (eval e X.env)=eval e X.env:=by rfl):PE X (.Attribute e "place" pos) (cL X.K te):=by
 intro pins s σ H Q I h
 refine dX hb (thn (he pins s σ H _ I h) fun u s1 ⟨y,H1,I1,ry,x,W,C,f,dx,fs,i,ey,hx,O,Z,hd,hl,q⟩=>?_)
 subst ey
 obtain rfl:u=Value.ref x:=ry
 obtain ⟨⟨ox,ws,hox,hoc,hod,hdd⟩,_,_⟩:=(show B3 X.prog X.w H1 s1.heap x (K9 x C (some dx)) from I1.hok x _ hx)
 obtain ⟨mA,hn,hr⟩:=(show B3 X.prog X.w H1 s1.heap dx (.xd fs) from I1.hok dx _ hd)
 have rr:=hr "place"
 rw [hl] at rr
 cases em:mA "place" with
 | none=>rw [em] at rr;exact rr.elim
 | some v =>
  rw [em] at rr
  obtain ⟨tk,rfl⟩:=(show ∃ tk,v=Value.int i tk from rr)
  exact fV O Z I1.kIn hox hoc hod hdd hn em rfl fun tk'=>⟨.int i,H1,I1.tok _,⟨_,rfl⟩,q⟩
end
section
variable {M:Model} {prog:Program} {w:World} {A:Around} {E:Value->Shared->Prop} {s:Shared} {env:Env} {K:PySem.W.Frag} {W C f:Addr}
theorem fT {x:Sem Value}{Q:Flow->Shared->Prop}(O:Ll K W C f)(hh:A.handled=none)(q:wpAny M A x (fun v s₁=>∃ e t od,v=.ref e/\K.In s₁.heap/\s₁.heap.get? e=some (Ja C t od)/\E (.ref e) s₁) E s) :
  wpAny M A (raiseStmt env (some x) none) Q E s:=by
 have cB:(Value.ref C::.ref W::Dv).contains (.type "BaseException")=true:=by simp [Dv]
 unfold raiseStmt
 refine wpAny_bind (thn q fun v s₁ ⟨e,t,od,ev,X,hx,hE⟩=>?_)
 subst ev
 obtain ⟨nm,qn,N,bs,sn,sub,ab,col,dd,k0,k1,k2,k3,k5,lk⟩:=O.ob
 have hC:=X _ _ lk
 obtain ⟨hp,g,d,tk,os⟩:=s₁
 repeat (first | with_reducible refine wpAny_loadPart_at hx ?_ | with_reducible refine wpAny_loadPart_at hC ?_ | (with_reducible refine wpAny_isSubtype_exc hC ?_;rw [cB]) | wp_step)
 exact wpAny_raiseNew_none hh hE
theorem fE {x:Str}{np cpos pos:Pos}{args:List Expr}{Q:Flow->Shared->Prop}(O:Ll K W C f)(hh:A.handled=none)(hplain:(backTo cpos (starEach args env)).any (·.1)=false)
  (q:wpAny (model prog w) A (eval (.Name x np) env) (fun v s₁=>v=.ref C/\wpAny (model prog w) A (evalArgs (.ref C) true (backTo cpos (starEach args env)) []) (fun a s₂=>a.kw=[]/\a.pos.length<=sizeLine/\K.In s₂.heap /\
   ∀ h' e,Heap.MadeExcOf s₂.heap h' e (.ref C) a.pos->s₂.heap.objs.size<=e->wpAny (model prog w) (A.under (.builtin "type.__call__" ⟨.ref C::a.pos,[]⟩)) (call (.ref f) (.ref e::a.pos)) (fun r s₃=>r=.none/\∃ t od,K.In s₃.heap/\s₃.heap.get? e=some (Ja C t od)/\E (.ref e) s₃) E { s₂ with heap:=h' }) E s₁) E s) :
  wpAny (model prog w) A (exec (.Raise (some (.Call (.Name x np) args [] cpos)) none pos) env) Q E s:=by
 rw [arm_exec_Raise]
 simp only [evalOpt,Option.map]
 refine wpAny_bind (wpAny_standAt (fT O hh (wpAny_bind (thn (wpAny_Call_ofName (thn q fun v s₁ q1=>?_)) fun v s₃ q3=>wpAny_bind (wpAny_standAt (wpAny_pure q3))))))
 obtain ⟨rfl,q1⟩:=q1
 unfold callWith
 refine wpAny_bind (wpAny_holding (thn q1 fun a s₂ q2=>wpAny_bind (wpAny_standAt ?_)))
 obtain ⟨ap,ak⟩:=a
 obtain ⟨hk,hl,X,q2⟩:=q2
 obtain rfl:ak=[]:=hk
 obtain ⟨nm,qn,N,bs,sn,sub,ab,col,dd,k0,k1,k2,k3,k5,lk⟩:=O.ob
 obtain ⟨hp,g,d,tk,os⟩:=s₂
 simp only [hplain]
 refine wpAny_bind (wpAny_keeperOf_exc (X _ _ lk) ?_)
 refine wpAny_bind (mW O X hl fun h' e mx he=>thn (q2 h' e mx he) fun r s₃ q3=>⟨q3.1,wpAny_bind (wpAny_holding (wpAny_point (wpAny_pure ?_)))⟩)
 obtain ⟨_,t,od,X3,h3,q3⟩:=q3
 exact ⟨e,t,od,rfl,X3,h3,q3⟩
end
def iN (C:Addr):Sp:=fun vs H Q _=>∃ (e:Addr) (i:Int),vs=[.ref e,.int i]/\H e=some (F8 e C none)/\i.natAbs<10 ^ 12/\∀ dx,H dx=none->Q .non (upd (upd H dx (.xd [("place",.int i)])) e (F8 e C (some dx)))
structure tH (P:Program) (w:World) (K:PySem.W.Frag) (mg:Str->Option Value) (base:Heap) (name:Str) (W C:Addr) (k:Nat) (ps:List Str):Prop where
 ex:∃ (f:Addr) (fd:FuncData),Ax P w K mg base CX0 k f fd ps (iN C)/\Dk K fd ps []/\Ll K W C f
 at_:mg name=some (.ref C)
 ek:Ji K C
def dQ (C:Addr)(E:XK)(t:TA):TS:=fun _ σ H=>t σ H fun vs H1=>∃ i:Int,vs=[.int i]/\i.natAbs<10 ^ 12/\∀ dx,H1 dx=none->E (.ref C) (some dx) (upd H1 dx (.xd [("place",.int i)]))
section
variable {P:Program} {w:World} {K:PySem.W.Frag} {mg:Str->Option Value} {base:Heap} {N:List Str} {qual:Str} {scope:Scope} {f:Addr} {cd:Value} {A:Around} {outer:List Env} {s₀:Shared} {H₀:Hp} {E:XK}
theorem Zi {pins:List (Addr×Obj)}{σ:St}{H H':Hp}{s s3:Shared}{e C t:Addr}{od:Option Addr}(I:Inv (Bu (CXE P w) P w K mg base N qual scope f cd A outer s₀ H₀ E) pins σ H s)(hn:s.heap.get? e=none)(ho:s3.os=s.os)(hg:AllBare s3.gens)
  (un:Un (frs (Bu (CXE P w) P w K mg base N qual scope f cd A outer s₀ H₀ E).stack) [] H H' s.heap s3.heap)(hok:HOk P w H' s3.heap)(hu:H' e=none)(he:s3.heap.get? e=some (Ja C t od))(q:E (.ref C) od H') :
  (Bu (CXE P w) P w K mg base N qual scope f cd A outer s₀ H₀ E).xe (.ref e) s3:=by
 show wpAny (model P w) (A.deeper (envOfC qual scope s₀.heap.objs.size f cd)) (leaving (envOfC qual scope s₀.heap.objs.size f cd) (.ref e)) _ _ _
 have I3:=I.call' ho un hok hg (by simp)
 have hfr:∀ b∈frs (Bu (CXE P w) P w K mg base N qual scope f cd A outer s₀ H₀ E).stack,H' b=none:=I3.stkFree
 have hin:∀ env∈(Bu (CXE P w) P w K mg base N qual scope f cd A outer s₀ H₀ E).stack,∀ b,env.frame=some b->b∈e::frs (Bu (CXE P w) P w K mg base N qual scope f cd A outer s₀ H₀ E).stack:=fun env he b hb=>List.mem_cons_of_mem _ (List.mem_filterMap.mpr ⟨env,he,hb⟩)
 have hen:(hideAll s3.heap (e::frs (Bu (CXE P w) P w K mg base N qual scope f cd A outer s₀ H₀ E).stack)).get? e=none:=PySem.W.hideAll_none _ List.mem_cons_self
 have hBh:(hideAll s3.heap (e::frs (Bu (CXE P w) P w K mg base N qual scope f cd A outer s₀ H₀ E).stack)).StaysIn s3.heap:=fun b o z=>of_hideAll _ z
 refine wpAny_mono (Nd (K8 _ _) (wpAny_leaving_firstW (L:=s₀.heap.objs.size) (outer:=outer) (base:=hideAll s3.heap (e::frs (Bu (CXE P w) P w K mg base N qual scope f cd A outer s₀ H₀ E).stack)) (a0:=.ref t)
  (Q:=fun _ s'=>∃ h2,s'={ s3 with heap:=h2 }/\Heap.LeftW (hideAll s3.heap (e::frs (Bu (CXE P w) P w K mg base N qual scope f cd A outer s₀ H₀ E).stack)) (envOfC qual scope s₀.heap.objs.size f cd::outer) e (.ref C) (.ref t) s3.heap h2)
  I.ok.frames (PySem.W.funFrames_hide I3.stack hin) rfl he hBh hen rfl rfl rfl fun h2 L=>⟨h2,rfl,L⟩)) (fun _ s' z=>?_) fun _ _ z=>z
 obtain ⟨⟨h2,rfl,k1,⟨_,_,k2⟩,k3,k4⟩,kd⟩:=z
 obtain ⟨hp,g,d,tt,os⟩:=s3
 have ho:os=s.os:=ho
 subst ho
 refine Uy (s:=s) (g:=g) (d:=d) (t:=tt) (h1:=hp) I un hok hfr hg hn hu (fun b o z y=>?_) hBh (⟨⟨k1,hen,k2,k3⟩,Kn kd ⟨_,he,rfl⟩⟩:Oo _ outer e (.ref C) (.ref t) od h2) k4 q
 by_cases hb:b∈e::frs (Bu (CXE P w) P w K mg base N qual scope f cd A outer s₀ H₀ E).stack
 ·rcases List.mem_cons.mp hb with z | z
  ·exact .inl z
  ·exact .inr (.inl z)
 ·rw [PySem.W.hideAll_get _ z hb] at y
  cases y
theorem Nk {x:Str}{W C:Addr}{k:Nat}{ps:List Str}{np cpos pos:Pos}{a:Expr}{as:List Expr}{t:TA}(Y:tH P w K mg base x W C k ps)(hr:B2 (k+1) (Bu (CXE P w) P w K mg base N qual scope f cd A outer s₀ H₀ E).A)(hg:Gl (Bu (CXE P w) P w K mg base N qual scope f cd A outer s₀ H₀ E) x)
  (ha:PA (Bu (CXE P w) P w K mg base N qual scope f cd A outer s₀ H₀ E) (a::as) t)(hdb:(x==("__debug__":Str))=false:=by decide)
  (he:starEach (a::as) (Bu (CXE P w) P w K mg base N qual scope f cd A outer s₀ H₀ E).env=(false,eval a (Bu (CXE P w) P w K mg base N qual scope f cd A outer s₀ H₀ E).env)::starEach as (Bu (CXE P w) P w K mg base N qual scope f cd A outer s₀ H₀ E).env:=by rfl)
  (hpl:(backTo cpos (starEach as (Bu (CXE P w) P w K mg base N qual scope f cd A outer s₀ H₀ E).env)).any (·.1)=false:=by rfl) :
  PS (Bu (CXE P w) P w K mg base N qual scope f cd A outer s₀ H₀ E) (.Raise (some (.Call (.Name x np) (a::as) [] cpos)) none pos) (dQ C E t):=by
 intro pins s σ H D I h
 obtain ⟨fi,fd,F,B,O⟩:=Y.ex
 refine fE O (I.ok.hd rfl) ?_ ?_
 ·rw [he]
  show ((false||(backTo cpos (starEach as _)).any (·.1)))=false
  rw [hpl]
  rfl
 refine Ei I hg Y.at_ ⟨rfl,?_⟩ hdb
 have hs:=ha cpos pins s σ H _ I h
 rw [he] at hs ⊢
 refine Calls.evalArgs_plain (thn hs fun us s2 ⟨vs,H1,I1,r,i,ev,hi,q⟩=>⟨rfl,?_,I1.kIn,fun h1 e mx hsz=>?_⟩)
 ·have:=r.length
  subst ev
  show us.length<=sizeLine
  rw [<- this]
  show 1<=sizeLine
  decide
 subst ev
 have new:H1 e=none:=I1.hok.fresh hsz
 obtain ⟨t,het,_⟩:=mx.there
 have I2:=I1.laid (a:=e) (o:=F8 e C none) (t':=s2.toks) mx.keeps hsz (Yz ⟨t,het⟩)
 have hl:(Value.ref e::us).length=ps.length:=by
  rw [<- F.len [.ref e,.int i] (upd H1 e (F8 e C none)) (fun _ _=>True) E0 ⟨e,i,rfl,Ac,hi,fun _ _=>True.intro⟩]
  show us.length+1=_
  rw [<- r.length]
  rfl
 refine wpAny_call (codeAny_mono (F.run _ _ _ (upd H1 e (F8 e C none)) ⟨.ref e::us,[]⟩ (.ref e::us) [.ref e,.int i] (fun v H2=>v=.non/\∃ dx,upd H1 e (F8 e C none) dx=none/\H2=upd (upd (upd H1 e (F8 e C none)) dx (.xd [("place",.int i)])) e (F8 e C (some dx))) E0
  (hr.make C us []) (I2.env0.make C us []) (by have:=B _ (Value.ref e::us) I2.kIn (by simpa using hl);simpa using this) (.cons rfl r) ⟨e,i,rfl,Ac,hi,fun dx hd=>⟨rfl,dx,hd,rfl⟩⟩) fun r' s3 hq=>?_)
 cases r' with
 | error x=>exact hq.elim
 | ok fl =>
  cases fl with
  | next=>exact hq.elim
  | brk=>exact hq.elim
  | cont=>exact hq.elim
  | ret u =>
   obtain ⟨v,H3,ho,hg3,un,hok,rv,evn,dx,hd,eH⟩:=hq
   subst evn
   obtain rfl:u=Value.none:=rv
   have hde:dx≠e:=fun z=>by rw [z,Ac] at hd;cases hd
   have hd1:H1 dx=none:=by rw [Al hde] at hd;exact hd
   have e3:H3 e=some (F8 e C (some dx)):=by rw [eH,Ac]
   obtain ⟨⟨t3,he3⟩,_,_⟩:=(show B3 P w H3 s3.heap e (F8 e C (some dx)) from hok e _ e3)
   have mv:∀ b,b≠e->H3 b=upd H1 dx (.xd [("place",.int i)]) b:=fun b hb=>by
    rw [eH,Al hb]
    by_cases h2:b=dx
    ·subst h2;rw [Ac,Ac]
    ·rw [Al h2,Al h2,Al hb]
   have hu:upd H1 dx (.xd [("place",.int i)]) e=none:=by rw [Al (Ne.symm hde)];exact new
   have nb:∀ b o,s2.heap.get? b=some o->b≠e:=fun b o z y=>by rw [y,mx.new] at z;cases z
   have nt:∀ {b:Addr} {o:HO},H1 b=some o->b≠e:=fun z=>Aq z new
   have m1:∀ b,b≠e->upd H1 e (F8 e C none) b=H1 b:=fun b hb=>Al hb
   have I3:=I2.call' ho un hok hg3 (by simp)
   refine ⟨rfl,t3,some dx,I3.kIn,he3,Zi (H':=upd H1 dx (.xd [("place",.int i)])) I1 mx.new ho hg3 ⟨fun b o z n nf nx=>?_,fun b o z n nf nx=>?_,fun b o z n nx=>?_,fun b o z nx=>?_,fun b xs z=>?_,fun b o u z=>?_,fun b ps z=>?_⟩ (fun b o z=>?_) hu he3 (q dx hd1)⟩
   ·exact un.keep b o (mx.keeps b o z) (by rw [m1 b (nb b o z)];exact n) nf nx
   ·exact un.slot b o (mx.keeps b o z) (by rw [m1 b (nb b o z)];exact n) nf nx
   ·rw [<- mv b (nb b o z)];exact un.free b o (mx.keeps b o z) (by rw [m1 b (nb b o z)];exact n) nx
   ·exact un.there b o (mx.keeps b o z) nx
   ·rw [<- mv b (nt z)];exact un.tups b xs (by rw [m1 b (nt z)];exact z)
   ·rw [<- mv b (nt z)];exact un.frzs b o u (by rw [m1 b (nt z)];exact z)
   ·rw [<- mv b (nt z)];exact un.tbls b ps (by rw [m1 b (nt z)];exact z)
   ·have hb:b≠e:=fun y=>by rw [y,hu] at z;cases z
    rw [<- mv b hb] at z
    refine (hok b o z).stay (fun _ _ _ y=>y) (fun c y=>?_) fun c xs y=>?_
    ·rw [<- mv c (fun y2=>by rw [y2,e3] at y;cases y)];exact y
    ·rw [<- mv c (fun y2=>by rw [y2,e3] at y;cases y)];exact y
end
section
variable {X:Cx}
def oV:V->List V->Hp->VK->Prop:=fun x vs H Q=>∃ (l:Addr) (xs:List V) (y:V),x=.ref l/\vs=[y]/\H l=some (.lst xs)/\xs.all Db=true/\Db y=true/\Q (.int (xs.countP (fun z=>eqV z y):Nat)) H
theorem P1 {y:V}:∀ {xs:List V} {us:List Value},A0 xs us->xs.all Db=true->us.countP (eqU y)=xs.countP fun z=>eqV z y
 | _,_,.nil,_=>rfl
 | x::xs,u::us,.cons r t,f=>by
  rw [List.all_cons,Bool.and_eq_true] at f
  rw [List.countP_cons,List.countP_cons,P1 t f.2,R6 r f.1]
theorem Tz:MtM X "list.count" oV:=by
 intro pins s σ H x vs v us Q I rx rv h
 obtain ⟨l,xs,y,rfl,rfl,hH,hf,hy,q⟩:=h
 cases rx
 obtain ⟨u,rfl,ru⟩:=Gg rv
 obtain ⟨z,its,n,r,hl,e⟩:=I.lstM hH
 refine call_meets F.slot_list_count ⟨_,e,rfl⟩ F.entry_list_count (F.args_list_count_2 _ _) (SeqAt.list_countAt l its.toArray n none #[] u (eqU y)) ⟨e,fun w hw=>Hh ru hy r hf w (by simpa using hw),?_⟩
 rw [show its.toArray.toList=its from rfl,P1 r hf]
 exact ⟨.int _,H,I.tok _,⟨_,rfl⟩,q⟩
def oG:V->List V->Hp->VK->Prop:=fun x vs H Q=>∃ (l:Addr) (xs:List V) (y:V) (j:Nat),x=.ref l/\vs=[y]/\H l=some (.lst xs)/\xs.all Db=true/\Db y=true/\(xs[j]?.map fun z=>eqV z y)=some true/\(∀ i:Nat,i<j->(xs[i]?.map fun z=>eqV z y)≠some true)/\Q (.int (j:Nat)) H
theorem gV:MtM X "list.index" oG:=by
 intro pins s σ H x vs v us Q I rx rv h
 obtain ⟨l,xs,y,j,rfl,rfl,hH,hf,hy,hj,hno,q⟩:=h
 cases rx
 obtain ⟨u,rfl,ru⟩:=Gg rv
 obtain ⟨z,its,n,r,hl,e⟩:=I.lstM hH
 have at':∀ i (hi:i<its.length),(xs[i]?.map fun z=>eqV z y)=some (eqU y its[i]):=fun i hi=>by
  have e1:xs[i]?=some (xs[i]'(by omega)):=List.getElem?_eq_getElem _
  obtain ⟨u,eu,ru⟩:=r.get e1
  rw [List.getElem?_eq_getElem hi] at eu
  cases eu
  rw [R6 ru (List.all_eq_true.mp hf _ (List.getElem_mem _)),e1]
  rfl
 have hjl:j<its.length:=by
  cases ej:xs[j]? with
  | none=>rw [ej] at hj;cases hj
  | some w=>have:=(List.getElem?_eq_some_iff.mp ej).1;omega
 have sl:=Id
 refine call_meets F.slot_list_index ⟨_,e,rfl⟩ F.entry_list_index (F.args_list_index_2 _ _)
  (SeqAt.list_indexAt l its.toArray n none #[] u (eqU y) j (by simpa using hjl) (by omega) ?_ ?_) ⟨e,fun w hw=>Hh ru hy r hf w (by simpa using hw),?_⟩
 ·show eqU y its[j]=true
  rw [at' j hjl] at hj
  exact Option.some.inj hj
 ·intro i hi hlt
  show eqU y its[i]=false
  have:=hno i hlt
  rw [at' i (by simpa using hi)] at this
  exact Bool.eq_false_iff.mpr fun z=>this (congrArg some z)
 ·exact ⟨.int j,H,I.tok _,⟨_,rfl⟩,q⟩
end
section
variable {σ:St} {H:Hp} {D:Hb} {Q:VK} {te ta tv:TE} {t:TA} {K:PySem.W.Frag} {W C:Addr} {E:XK}
theorem pD (h:t σ H fun vs H1=>∃ e C f od z,vs=[.ref e,.str z]/\H1 e=some (F8 e C od)/\Ll K W C f/\Q .non H1):iR K W t σ H Q:=h
theorem tU (h:te σ H fun v H1=>∃ i:Int,v=.int i/\i.natAbs<10 ^ 12/\∀ z,Q (.str z) H1):qZ te σ H Q:=h
theorem iO (h:tv σ H fun y H1=>ta σ H1 fun x H2=>∃ e W C f,x=.ref e/\H2 e=some (F8 e C none)/\Ll K W C f/\Ji K C/\∀ dx,H2 dx=none->D.nx σ (upd (upd H2 dx (.xd [("place",y)])) e (F8 e C (some dx)))):mM K ta tv D σ H:=h
theorem pC (h:te σ H fun x H1=>∃ e W C f dx fs i,x=.ref e/\H1 e=some (K9 e C (some dx))/\Ll K W C f/\Ji K C/\H1 dx=some (.xd fs)/\fs.lookup ("place":Str)=some (V.int i)/\Q (.int i) H1):cL K te σ H Q:=h
theorem iE (h:t σ H fun vs H1=>∃ i:Int,vs=[.int i]/\i.natAbs<10 ^ 12/\∀ dx,H1 dx=none->E (.ref C) (some dx) (upd H1 dx (.xd [("place",.int i)]))):dQ C E t D σ H:=h
end
theorem Zb (K:PySem.W.Frag){X:Cx}(h:X.K=K:=by rfl):Dj X (.builtin "isinstance") (wQ K):=by
 subst h
 exact Cq
open Builtin.Str (occurrences partsBetween)
section
variable {X:Cx}
theorem iD (l:List (Str×Tok)):A0 ((l.map (·.1)).map V.str) (strValues l):=by
 induction l with
 | nil=>exact .nil
 | cons p r ih=>exact .cons ⟨_,rfl⟩ ih
end
section
variable {prog:Program} {w:World} {A:Around} {E:Value->Shared->Prop} {R:Result->Shared->Prop}
theorem Ew:plainId "dict.update.loop"=true:=by decide +kernel
theorem Jo:entryFor table "dict.update.loop"=some Builtin.«dict.update.loop»:=entryFor_of_tree (by kernel_rfl)
end
theorem P5:∀ {xs:List V} {us:List Value},xs.length=us.length->(∀ (i:Nat) x u,xs[i]?=some x->us[i]?=some u->Bc x u)->A0 xs us
 | [],[],_,_=>.nil
 | x::xs,u::us,hl,h=>.cons (h 0 x u rfl rfl) (P5 (Nat.succ.inj hl) fun i y v e1 e2=>h (i+1) y v e1 e2)
section
variable {σ:St} {H:Hp}
theorem nR {n j:Nat}(h:j<n):ixN n (j:Int)=some j:=by
 unfold ixN
 rw [if_pos (by omega),if_pos (by omega)]
 simp
theorem jS {p:Addr}{xs:List V}{j:Nat}{i:Int}{v:V}{R:Hp->Prop}(h:H p=some (.lst xs))(hi:i=j)(hj:j<xs.length)(q:R (upd H p (.lst (xs.set j v)))):qW (.ref p) (.int i) v H R :=
 ⟨p,xs,i,j,rfl,rfl,h,by rw [hi];exact nR hj,q⟩
end
section
variable {κ:Type} [DecidableEq κ]
def Xk (kvs:List (κ×V))(k:κ)(v:V):List (κ×V) :=
 if (kvs.any fun kv=>decide (kv.1=k))=true then kvs.map (fun kv=>if kv.1=k then (kv.1,v) else kv) else kvs++[(k,v)]
theorem Xl (kvs:List (κ×V))(k:κ)(v:V):(Xk kvs k v).length<=kvs.length+1:=by
 unfold Xk
 split
 ·rw [List.length_map];omega
 ·rw [List.length_append,List.length_cons,List.length_nil];omega
theorem KV.any {kvs:List (κ×V)}{vs:List (κ×Value)}(r:KV kvs vs)(k:κ):(kvs.any fun kv=>decide (kv.1=k))=vs.any fun kv=>decide (kv.1=k):=by
 unfold KV at r
 induction r with
 | nil=>rfl
 | cons h t ih=>rw [List.any_cons,List.any_cons,ih,h.1]
theorem KV.repl {kvs:List (κ×V)}{vs:List (κ×Value)}(r:KV kvs vs)(k:κ){y:V}{u:Value}(ry:Bc y u) :
  KV (kvs.map fun kv=>if kv.1=k then (kv.1,y) else kv) (vs.map fun kv=>if kv.1=k then (kv.1,u) else kv):=by
 unfold KV at r ⊢
 induction r with
 | nil=>exact .nil
 | @cons p q ps qs h t ih =>
  rw [List.map_cons,List.map_cons]
  refine .cons ?_ ih
  obtain ⟨h1,h2⟩:=h
  by_cases e:p.1=k
  ·rw [if_pos e,if_pos (h1.symm.trans e)];exact ⟨h1,ry⟩
  ·rw [if_neg e,if_neg (fun z=>e (h1.trans z))];exact ⟨h1,h2⟩
theorem KV.put {kvs:List (κ×V)}{vs:List (κ×Value)}(r:KV kvs vs)(k:κ){y:V}{u:Value}(ry:Bc y u):KV (Xk kvs k y) (stored vs k u):=by
 unfold Xk stored
 rw [r.any k]
 by_cases e:(vs.any fun kv=>decide (kv.1=k))=true
 ·rw [if_pos e,if_pos e];exact r.repl k ry
 ·rw [if_neg e,if_neg e];exact Paired.snoc r ⟨rfl,ry⟩
end
section
variable {X:Cx} {pins:List (Addr×Obj)} {σ:St} {H:Hp} {s:Shared} {a:Addr} {y v:V} {u r:Value} {o:Option V} {A:Around} {E:Value->Shared->Prop}
end
end L2
end
section
namespace TW
end TW
end
section
namespace L2
open PySem PySem.Spec PyProof.Rows
def Yd (vs:List (Key×Value)):List Int->List Value->List (Key×Value)
 | k::ks,u::us=>Yd (stored vs (.inl k) u) ks us
 | _,_=>vs
theorem kW {vs:List (Key×Value)}:∀ (ks:List Int),Yd vs ks []=vs
 | []=>rfl
 | _::_=>rfl
theorem pJ {vs:List (Key×Value)}{ks:List Int}{us:List Value}{i:Nat}{n:Int}{u:Value}(h1:ks[i]?=some n)(h2:us[i]?=some u):Yd vs (ks.drop i) (us.drop i)=Yd (stored vs (.inl n) u) (ks.drop (i+1)) (us.drop (i+1)):=by
 obtain ⟨l1,e1⟩:=List.getElem?_eq_some_iff.mp h1
 obtain ⟨l2,e2⟩:=List.getElem?_eq_some_iff.mp h2
 rw [List.drop_eq_getElem_cons l1,List.drop_eq_getElem_cons l2,e1,e2]
 rfl
def Vm (kvs:List (Key×V)):List Int->List V->List (Key×V)
 | k::ks,y::ys=>Vm (Xk kvs (.inl k) y) ks ys
 | _,_=>kvs
theorem kF:∀ {ks:List Int} {ys:List V} {us:List Value} {kvs:List (Key×V)} {vs:List (Key×Value)},KV kvs vs->A0 ys us->KV (Vm kvs ks ys) (Yd vs ks us)
 | [],_,_,_,_,h,_=>h
 | _::_,_,_,_,_,h,.nil=>h
 | k::ks,y::ys,u::us,kvs,vs,h,.cons r t=>by
  show KV (Vm (Xk kvs (.inl k) y) ks ys) (Yd (stored vs (.inl k) u) ks us)
  exact kF (h.put (.inl k) r) t
end L2
end
section
namespace TW
section
variable {α:Type} (lt:α->α->Bool)
variable {lt}
variable (lt)
theorem jW {P:List α->Prop}(h0:P [])(h1:∀ l x,P l->P (l++[x]))(l:List α):P l:=by
 have key:∀ n,∀ l:List α,l.length=n->P l:=fun n=>by
  induction n with
  | zero=>intro l h;rw [List.length_eq_zero_iff.mp h];exact h0
  | succ n ih =>
   intro l h
   have hne:l≠[]:=fun e=>by rw [e] at h;cases h
   rw [<- List.dropLast_concat_getLast hne]
   exact h1 _ _ (ih _ (by rw [List.length_dropLast];omega))
 exact key _ l rfl
variable {lt}
end
end TW
end
section
namespace L2
open PySem PySem.Spec PyProof.Rows TW
def Sq (N H:Hp):Hp:=fun b=>match N b with | some o=>some o | none=>H b
theorem Kf {N H:Hp}{b:Addr}{o:HO}(h:N b=some o):Sq N H b=some o:=by unfold Sq;rw [h]
theorem Fn {N H:Hp}{b:Addr}(h:N b=none):Sq N H b=H b:=by unfold Sq;rw [h]
def Ui (oc:Obj)(qual:Str):Prop:=∃ vs t,oc.data=.fields vs/\vs[1]?=some (.str qual t)
def Sk (H:Hp)(P:Addr)(pos:Pos)(qual:Str):Prop:=∃ ps:Array Value,H P=some (.tbl ps)/\TriplesOk ps.toList/\(codeAmong pos ps.toList=none\/∃ c' oc,codeAmong pos ps.toList=some (.ref c')/\H c'=some (.frz oc (.own 0))/\Ui oc qual)
section
variable {X:Cx} {pins:List (Addr×Obj)} {σ:St} {H:Hp} {s:Shared}
theorem Inv.grown {P:Addr}{ps more:Array Value}{N:Hp}{h':Heap}{t':Nat}(I:Inv X pins σ H s)(hP:H P=some (.tbl ps))(k:∀ b u,b≠P->s.heap.get? b=some u->h'.get? b=some u)(hT:h'.get? P=some (PySem.W.tabObj (ps++more)))
  (hp:∀ b o,N b=some o->s.heap.objs.size<=b)(new:∀ b o,N b=some o->B3 X.prog X.w (Sq N (upd H P (.tbl (ps++more)))) h' b o):Inv X pins σ (Sq N (upd H P (.tbl (ps++more)))) { s with heap:=h',toks:=t' }:=by
 have hlt:P<s.heap.objs.size:=(I.hok P _ hP).lt
 have hNP:N P=none:=by
  cases e:N P with
  | none=>rfl
  | some o=>exact absurd hlt (Nat.not_lt.mpr (hp P o e))
 have hn:∀ b o,N b=some o->H b=none:=fun b o e=>I.hok.fresh (hp b o e)
 have old:∀ b u,s.heap.get? b=some u->N b=none:=fun b u e=>by
  cases hN:N b with
  | none=>rfl
  | some o=>exact absurd (Heap.lt_size e) (Nat.not_lt.mpr (hp b o hN))
 have sm:∀ b o,b≠P->H b=some o->Sq N (upd H P (.tbl (ps++more))) b=some o:=fun b o hb e=>by
  have:N b=none:=by
   cases hN:N b with
   | none=>rfl
   | some u=>rw [hn b u hN] at e;cases e
  rw [Fn this,Al hb]
  exact e
 have neP:∀ b,H b=none->b≠P:=fun b e z=>by rw [z,hP] at e;cases e
 refine I.un ⟨fun b u q n _ _=>k b u (neP b n) q,fun b u q n _ _=>⟨u.slots,k b u (neP b n) q⟩,fun b u q n _=>by rw [Fn (old b u q),Al (neP b n)];exact n,fun b u q _=>?_,fun b xs q=>sm _ _ (fun z=>by rw [z,hP] at q;cases q) q,fun b u xs q=>sm _ _ (fun z=>by rw [z,hP] at q;cases q) q,fun b qs q=>?_⟩ fun b o e=>?_
 ·by_cases hb:b=P
  ·rw [hb];exact ⟨_,hT⟩
  ·exact ⟨u,k b u hb q⟩
 ·by_cases hb:b=P
  ·rw [hb,hP] at q
   cases q
   exact ⟨more,by rw [hb,Fn hNP,Ac]⟩
  ·exact ⟨#[],by rw [sm b _ hb q];simp⟩
 ·cases hN:N b with
  | some u =>
   rw [Kf hN] at e
   cases e
   exact new b _ hN
  | none =>
   rw [Fn hN] at e
   by_cases hb:b=P
   ·rw [hb,Ac] at e
    cases e
    rw [hb]
    exact hT
   ·rw [Al hb] at e
    refine (I.hok b o e).stay (fun c v hc q=>k c v (fun z=>?_) q) (fun c q=>sm _ _ (fun z=>by rw [z,hP] at q;cases q) q) fun c xs q=>sm _ _ (fun z=>by rw [z,hP] at q;cases q) q
    rcases hc with h | h
    ·exact hb (h▸z)
    ·rw [z,hP] at h;cases h
end
def Oe (P:Addr)(H H':Hp):Prop:=∀ b u,b≠P->H b=some u->H' b=some u
section
variable {X:Cx} {pins:List (Addr×Obj)} {σ:St} {H:Hp} {s:Shared} {M:Model} {A:Around} {E:Value->Shared->Prop} {Q:Value->Shared->Prop} {c P:Addr} {pos:Pos} {qual:Str} {params:Arguments} {body:Expr} {scope:Scope} {clos:List (Str×Addr)}
theorem jN (I:Inv X pins σ H s)(T:Sk H P pos qual)(C:CodeHd X.base c P)(hb:X.base.BuiltinsAt X.mg P)(hcode:X.env.code=.ref c)(hcl:closureFor scope X.env=pure clos)(hdef:defaultsOf params X.env=([],[]))(hq:X.env.qual++"<lambda>"=qual)
  (h:∀ (f c':Addr) (oc:Obj) (pm ctv:Value) (s':Shared) (H':Hp),Inv X pins σ H' s'->Sk H' P pos qual->Oe P H H'->H f=none->H' f=some (.frz (kla_obj "<lambda>" qual params body scope clos pm c' ctv) (.own 0))->H' c'=some (.frz oc (.own 0))->Ui oc qual->Q (.ref f) s') :
  wpAny M A (eval (.Lambda params body scope pos) X.env) Q E s:=by
 obtain ⟨ps,hP,ht,hc⟩:=T
 refine PySem.W.kla_eval hdef ?_
 rw [hq]
 have hPs:s.heap.get? P=some (PySem.W.tabObj ps):=I.hok P _ hP
 have hg:s.heap.Ns mainGlobals X.mg:=I.mod.glob.keeps I.bk
 have hgP:mainGlobals≠P:=fun e=>by
  obtain ⟨o,es,ep,e1,d,_⟩:=I.mod.glob
  have:=(I.bs _ _ e1).2
  rw [e,hP] at this;cases this
 have hb':s.heap.BuiltinsAt X.mg P:=by
  obtain ⟨bm,o,a1,a2,a3,a4,a5,a6⟩:=hb
  exact ⟨bm,o,a1,a2,a3,a4,I.bk _ _ a5,a6⟩
 rcases hc with hc | ⟨c',oc,hc,hc',ho⟩
 ·refine PySem.W.kla_makeFunction hcl I.ok.glob hg hcode (C.keeps I.bk) hPs ht hc hgP hb' fun c' ctv h' tk hx hge hlt hrec htb=>?_
  obtain ⟨c₂,oc,vs,t,e2,hoc,hd,hv⟩:=hrec
  cases e2
  let fo:=kla_obj "<lambda>" qual params body scope clos ((X.mg "__name__").getD .none) c' ctv
  let N:Hp:=fun b=>if b=h'.objs.size then some (.frz fo (.own 0)) else if b=c' then some (.frz oc (.own 0)) else none
  have n1:N h'.objs.size=some (.frz fo (.own 0)):=if_pos rfl
  have n2:N c'=some (.frz oc (.own 0)):=(if_neg (Nat.ne_of_lt hlt)).trans (if_pos rfl)
  have n3:∀ b o,N b=some o->(b=h'.objs.size/\o=.frz fo (.own 0))\/(b=c'/\o=.frz oc (.own 0)):=fun b o e=>by
   by_cases h1:b=h'.objs.size
   ·rw [h1,n1] at e;cases e;exact .inl ⟨h1,rfl⟩
   ·by_cases h2:b=c'
    ·rw [h2,n2] at e;cases e;exact .inr ⟨h2,rfl⟩
    ·have:N b=none:=(if_neg h1).trans (if_neg h2)
     rw [this] at e;cases e
  have hp:∀ b o,N b=some o->s.heap.objs.size<=b:=fun b o e=>by
   rcases n3 b o e with ⟨r,_⟩ | ⟨r,_⟩<;>rw [r]
   ·exact Nat.le_trans hge (Nat.le_of_lt hlt)
   ·exact hge
  have hNP:N P=none:=by
   cases e:N P with
   | none=>rfl
   | some o=>exact absurd (I.hok P _ hP).lt (Nat.not_lt.mpr (hp P o e))
  have gf:(h'.push fo).get? h'.objs.size=some fo:=Heap.get?_push_size _ rfl
  have gc:(h'.push fo).get? c'=some oc:=Heap.get?_push_of_some _ hoc
  have I':=Inv.grown (N:=N) (more:=#[PySem.rawInt pos.line,PySem.rawInt pos.col,.ref c']) (h':=h'.push fo) (t':=tk) I hP (fun b u hb e=>Heap.get?_push_of_some _ (hx b u hb e)) (Heap.get?_push_of_some _ htb) hp fun b o e=>by
   rcases n3 b o e with ⟨r,r'⟩ | ⟨r,r'⟩<;>rw [r,r']
   ·exact ⟨gf,_,gf⟩
   ·exact ⟨gc,_,gc⟩
  refine h _ c' oc _ ctv _ _ I' ⟨_,by rw [Fn hNP,Ac],?_,.inr ⟨c',oc,?_,Kf n2,vs,t,hd,hv⟩⟩ (fun b u hb e=>?_) (I.hok.fresh (hp _ _ n1)) (Kf n1) (Kf n2) ⟨vs,t,hd,hv⟩
  ·rw [Array.toList_append];exact TriplesOk_snoc _ _ _ _ ht
  ·rw [Array.toList_append];exact codeAmong_snoc _ ht hc
  ·have:N b=none:=by
    cases hN:N b with
    | none=>rfl
    | some o=>rw [I.hok.fresh (hp b o hN)] at e;cases e
   rw [Fn this,Al hb];exact e
 ·refine PySem.W.kla_makeFunctionHit hcl I.ok.glob hg hcode (C.keeps I.bk) hPs ht hc hb' fun ctv h' tk hk hsz=>?_
  let fo:=kla_obj "<lambda>" qual params body scope clos ((X.mg "__name__").getD .none) c' ctv
  let N:Hp:=fun b=>if b=h'.objs.size then some (.frz fo (.own 0)) else none
  have n1:N h'.objs.size=some (.frz fo (.own 0)):=if_pos rfl
  have n3:∀ b o,N b=some o->b=h'.objs.size/\o=.frz fo (.own 0):=fun b o e=>by
   by_cases h1:b=h'.objs.size
   ·rw [h1,n1] at e;cases e;exact ⟨h1,rfl⟩
   ·have:N b=none:=if_neg h1
    rw [this] at e;cases e
  have hp:∀ b o,N b=some o->s.heap.objs.size<=b:=fun b o e=>by rw [(n3 b o e).1];exact hsz
  have hn:∀ b u,H b=some u->N b=none:=fun b u e=>by
   cases hN:N b with
   | none=>rfl
   | some o=>rw [I.hok.fresh (hp b o hN)] at e;cases e
  have gf:(h'.push fo).get? h'.objs.size=some fo:=Heap.get?_push_size _ rfl
  have I':=Inv.grown (N:=N) (more:=#[]) (h':=h'.push fo) (t':=tk) I hP (fun b u _ e=>Heap.get?_push_of_some _ (hk b u e)) (by rw [Array.append_empty];exact Heap.get?_push_of_some _ (hk _ _ hPs)) hp fun b o e=>by
   rw [(n3 b o e).1,(n3 b o e).2];exact ⟨gf,_,gf⟩
  rw [Array.append_empty] at I'
  have old:∀ b u,b≠P->H b=some u->Sq N (upd H P (.tbl ps)) b=some u:=fun b u hb e=>by rw [Fn (hn b u e),Al hb];exact e
  have hcP:c'≠P:=Rz hc' hP (by intro q;cases q)
  exact h _ c' oc _ ctv _ _ I' ⟨ps,by rw [Fn (hn P _ hP),Ac],ht,.inr ⟨c',oc,hc,old _ _ hcP hc',ho⟩⟩ old (I.hok.fresh (hp _ _ n1)) (Kf n1) (old _ _ hcP hc') ho
end
open PySem.W
def Mh (o:Obj)(c P:Addr):Prop:=∃ vs file tf flags tg inF text tt,o.cls=.type "code"/\o.data=.fields vs/\vs[11]?=some (.ref P)/\vs.getD 11 .none=.ref P/\vs.getD 18 .none=.str file tf /\
  vs.getD 7 .none=.int flags tg/\vs.getD 9 .none=.bool inF/\vs.getD 10 .none=.int text tt/\c≠P
theorem Mh.at {h:Heap}{o:Obj}{c P:Addr}(x:Mh o c P)(e:h.get? c=some o):CodeHd h c P:=by
 obtain ⟨vs,file,tf,flags,tg,inF,text,tt,a1,a2,a3,a4,a5,a6,a7,a8,a9⟩:=x
 exact ⟨o,vs,file,tf,flags,tg,inF,text,tt,e,a1,a2,a3,a4,a5,a6,a7,a8,a9⟩
theorem Zd {P:Program}{w:World}{K:PySem.W.Frag}{mg mb:Str->Option Value}{CX:CXT}{k:Nat}{fa a:Addr}{fd:FuncData}{x:Str}{sp:Sp}{s₁:Shared}{vs:List Value}{ns:List Int}{tabs:List (Addr×Addr)}
  (hT:PySem.W.TabsAt tabs s₁.heap)(hTK:∀ q∈tabs,K.lookup q.2=none)(hB:∃ bm ob,mg "__builtins__"=some (.ref bm)/\bm≠builtinsNs/\s₁.heap.get? bm=some ob/\ob.cls=.type "module"/\ob.dict=some builtinsNs/\ob.data=.plain)(KX:K.In s₁.heap)(hns:s₁.heap.Ns mainGlobals mg)(hb:s₁.heap.Ns builtinsNs mb)(hbb:∀ x:Str,x≠"__name__"->mb x=bootBuiltins x)(hlim:s₁.heap.NoLimit)(hg:s₁.gens=#[])
  (ha:s₁.heap.get? a=some { cls:=.type "list",data:=.seq vs.toArray })(hi:IntsAre vs ns)(hl:ns.length<=sizeLine)(hr:B2 k callerA)
  (F:∀ base:Heap,K.In base->base.Ns mainGlobals mg->(∀ q∈tabs,base.BuiltinsAt mg q.2)->Ax P w K mg base CX k fa fd [x] sp)(hbind:∀ (s:Shared) (u:Value),BindsTo s fd ⟨[u],[]⟩ [(x,u)])
  (hsp:∀ H:Hp,(∀ q∈tabs,H q.2=some (.tbl #[]))->SqL K H a (ns.map V.int)->sp [.ref a] H (fun v _=>v=.bl true) fun _ _ _=>False)
  (hCX:∀ H e s',CX [] H s₁ (fun _ _ _=>False) e s'->False) :
  codeAny (model P w) callerA (.call (.ref fa) ⟨[.ref a],[]⟩) (fun r s'=>r=.ok (.ret (.bool true))/\OldK s₁.heap s'.heap/\s'.os=s₁.os/\AllBare s'.gens) s₁:=by
 have rv:=To hi
 have tabAt:∀ b,b∈tabs.map (·.2)->s₁.heap.get? b=some (PySem.W.tabObj #[])/\K.lookup b=none/\isCodeTable s₁.heap b:=fun b hm=>by
  obtain ⟨q,hq,rfl⟩:=List.mem_map.mp hm
  exact ⟨(hT q hq).2,hTK q hq,((hT q hq).1.tab (hT q hq).2).isCodeTable⟩
 have haT:a∉tabs.map (·.2):=fun hm=>by
  have:=(tabAt a hm).1
  rw [ha] at this
  cases this
 let H:Hp:=fun b=>if b∈tabs.map (·.2) then some (.tbl #[]) else if b=a/\K.lookup a=none then some (.frz { cls:=.type "list",data:=.seq vs.toArray } (.lst (ns.map V.int))) else none
 have H1:∀ b,b∈tabs.map (·.2)->H b=some (.tbl #[]):=fun b hm=>if_pos hm
 have H2:∀ b,b∉tabs.map (·.2)->¬ (b=a/\K.lookup a=none)->H b=none:=fun b h1 h2=>(if_neg h1).trans (if_neg h2)
 have H3:K.lookup a=none->H a=some (.frz { cls:=.type "list",data:=.seq vs.toArray } (.lst (ns.map V.int))):=fun h=>(if_neg haT).trans (if_pos ⟨rfl,h⟩)
 have cases3:∀ b,(b∈tabs.map (·.2))\/(b=a/\K.lookup a=none/\b∉tabs.map (·.2))\/(H b=none):=fun b=>by
  by_cases h1:b∈tabs.map (·.2)
  ·exact .inl h1
  ·by_cases h2:b=a/\K.lookup a=none
   ·exact .inr (.inl ⟨h2.1,h2.2,h1⟩)
   ·exact .inr (.inr (H2 b h1 h2))
 have hok:HOk P w H s₁.heap:=fun b o e=>by
  rcases cases3 b with h | ⟨rfl,h1,_⟩ | h
  ·rw [H1 b h] at e
   cases e
   exact (tabAt b h).1
  ·rw [H3 h1] at e
   cases e
   exact ⟨ha,by rw [List.length_map];exact hl,vs,_,rv,ha⟩
  ·rw [h] at e
   cases e
 have noD:∀ {b:Addr} {o:Obj} {es:Array DictEntry} {ep:Nat},s₁.heap.get? b=some o->o.data=.dict es ep->H b=none:=fun {b o es ep} e d=>by
  rcases cases3 b with h | ⟨rfl,_,_⟩ | h
  ·rw [(tabAt b h).1] at e
   cases e
   have d':Data.fields #[]=Data.dict es ep:=d
   cases d'
  ·rw [ha] at e
   cases e
   have d':Data.seq vs.toArray _=Data.dict es ep:=d
   cases d'
  ·exact h
 have nsK:∀ {b:Addr} {m:Str->Option Value},s₁.heap.Ns b m->(Uu s₁.heap H).Ns b m:=fun {b m} ⟨o,es,ep,e,d,r⟩=>⟨o,es,ep,Sa e (noD e d),d,r⟩
 have hKb:K.In (Uu s₁.heap H):=fun b o e=>Sa (KX b o e) (by
  rcases cases3 b with h | ⟨rfl,h1,_⟩ | h
  ·rw [(tabAt b h).2.1] at e;cases e
  ·rw [h1] at e;cases e
  ·exact h)
 have hBa:∀ q∈tabs,(Uu s₁.heap H).BuiltinsAt mg q.2:=fun q hq=>by
  obtain ⟨bm,ob,b1,b2,b3,b4,b5,b6⟩:=hB
  have n1:bm≠mainGlobals:=fun z=>by
   obtain ⟨o,es,ep,e,d,_⟩:=hns
   rw [z,e] at b3
   cases b3
   rw [d] at b6;cases b6
  have nP:bm∉tabs.map (·.2):=fun hm=>by
   have:=(tabAt bm hm).1
   rw [b3] at this
   cases this
   cases b6
  have hn:H bm=none:=by
   rcases cases3 bm with h | ⟨h,_,_⟩ | h
   ·exact absurd h nP
   ·rw [h,ha] at b3
    cases b3
    cases b6
   ·exact h
  exact ⟨bm,ob,b1,b2,n1,fun z=>nP (z▸List.mem_map_of_mem hq),Sa b3 hn,b4,b5,b6⟩
 have hM:Mod K mg (Uu s₁.heap H):=⟨hKb,nsK hns,⟨mb,nsK hb,hbb⟩,let ⟨mc,h1,h2⟩:=hlim;⟨mc,nsK h1,h2⟩⟩
 have e0:Ox P w K mg (Uu s₁.heap H) callerA [] s₁ H:=⟨rfl,hM,fun b o e=>oP e,Nat.le_of_eq (fL _ _),trivial,fun b hb=>absurd (show b∈([]:List Addr) from hb) (by simp),hok,.of_eq hg⟩
 have hS:SqL K H a (ns.map V.int):=by
  cases hk:K.lookup a with
  | none=>exact .inl (.inr ⟨_,H3 hk⟩)
  | some o =>
   have e:=KX a o hk
   rw [ha] at e
   cases e
   exact .inr ⟨_,vs.toArray,_,hk,rfl,rfl,rfl,by rw [List.size_toArray,hi.length];exact hl,by simpa using rv⟩
 refine codeAny_mono ((F _ hKb (nsK hns) hBa).run callerA [] s₁ H ⟨[.ref a],[]⟩ [.ref a] [.ref a] _ _ hr e0 (hbind s₁ (.ref a)) (.cons rfl .nil) (hsp H (fun q hq=>H1 _ (List.mem_map_of_mem hq)) hS)) fun r s' h=>?_
 cases r with
 | error e=>exact (hCX H e s' h).elim
 | ok fl =>
  cases fl with
  | next=>exact False.elim h
  | brk=>exact False.elim h
  | cont=>exact False.elim h
  | ret u =>
   obtain ⟨v,H',os,bare,un,hok',r',q⟩:=h
   have q':v=.bl true:=q
   subst q'
   obtain rfl:u=Value.bool true:=r'
   have out:∀ b o,s₁.heap.get? b=some o->(b∈tabs.map (·.2)/\∃ more,s'.heap.get? b=some (PySem.W.tabObj more))\/s'.heap.get? b=some o:=fun b o e=>by
    rcases cases3 b with h | ⟨rfl,h1,_⟩ | h
    ·obtain ⟨more,hm⟩:=un.tbls b _ (H1 b h)
     exact .inl ⟨h,_,hok' b _ hm⟩
    ·obtain ⟨e2,_⟩:=hok' _ _ (un.frzs _ _ _ (H3 h1))
     rw [ha] at e
     cases e
     exact .inr e2
    ·exact .inr (un.keep b o e h (by intro z;exact absurd (show b∈([]:List Addr) from z) (by simp)) (by simp))
   refine ⟨rfl,⟨fun b o e=>?_,fun b o e=>?_⟩,os,bare⟩
   ·rcases out b o e with ⟨h,more,hm⟩ | h
    ·have e1:=(tabAt b h).1
     rw [e] at e1
     cases e1
     exact .inr (.inl ⟨(tabAt b h).2.2,rfl,#[],more,rfl,by rw [Array.empty_append];exact hm⟩)
    ·exact .inl h
   ·rcases out b o e with ⟨_,more,hm⟩ | h
    ·exact ⟨_,hm⟩
    ·exact ⟨o,h⟩
theorem fM {l:PySem.W.OpenLaw}{n k:Nat}{q:Program}{loose:List Str}{XP:(Str->Option Value)->Heap->Prop}{YP:World->Heap->Prop}{d:DefRec}{K:Params->PySem.W.Frag}{CX:World->CXT}{sp:World->Sp}{x:Str}{tabs:List (Addr×Addr)}
  (hn:l.most=some n)(hn2:n<=sizeLine)(hdf:d.params.defaults=[])(hr:B2 k callerA)
  (hY:∀ (w:World) (h:Heap),YP w h->(K w.params).In h)(hTb:∀ (w:World) (h:Heap),YP w h->PySem.W.TabsAt tabs h)(hTK:∀ w:World,∀ p∈tabs,(K w.params).lookup p.2=none)
  (F:∀ (w:World) (mg:Str->Option Value) (fa:Addr) (h:Heap),(K w.params).In h->h.Ns mainGlobals mg->mg d.name=some (.ref fa) ->
   ∃ fd:FuncData,(∀ (s:Shared) (u:Value),BindsTo s fd ⟨[u],[]⟩ [(x,u)]) /\
    ∀ base:Heap,(K w.params).In base->base.Ns mainGlobals mg->(∀ q∈tabs,base.BuiltinsAt mg q.2)->Ax l.prog w (K w.params) mg base (CX w) k fa fd [x] (sp w))
  (hsp:∀ (w:World) (H:Hp) (a:Addr) (ns:List Int),ns.length<=n->(∀ p∈tabs,H p.2=some (.tbl #[]))->SqL (K w.params) H a (ns.map V.int)->sp w [.ref a] H (fun v _=>v=.bl true) fun _ _ _=>False)
  (hCX:∀ (w:World) (H:Hp) (s:Shared) (e:Value) (s':Shared),CX w [] H s (fun _ _ _=>False) e s'->False) :
  PySem.W.WalkO q loose XP YP l.row.toRowW d [] (fun f vs=>PySem.call f vs):=by
 refine Att.attach_call hn hdf fun w s₀ s₁ mg mb fa o pm cd doc a vs ns G Y ho hd hcd hmg hobj hints hlen hg=>?_
 have KX:=hY w _ Y
 obtain ⟨fd,hb,hF⟩:=F w mg fa _ KX G.T.g hmg
 exact Zd (hTb w _ Y) (hTK w) G.T.bmain KX G.T.g G.T.b G.T.builtins G.T.nolimit hg hobj hints (Nat.le_trans hlen hn2) hr hF hb (fun H hO hS=>hsp w H a ns hlen hO hS) fun H e s'=>hCX w H s₁ e s'
structure Wy (K:PySem.W.Frag) (x qual:Str) (st:Stmt) (f:Addr) (fd:FuncData) (c P:Addr):Prop where
 ex:∃ (oc:Value) (od:Option Addr) (kV doc pm:Value) (an:Option Addr) (ct:Value) (osl:Array (Option Value)),
  fd=PySem.W.fnOf x qual (Cw st) (B5 st) (Ae st) .none kV doc pm an (.ref c) ct/\K.lookup f=some ⟨oc,od,.func fd,osl⟩/\PySem.W.codeIn K (.ref c) qual=true
 kp:PySem.W.keepIn K (.ref f)=true
 hd:∃ oc,K.lookup c=some oc/\Mh oc c P
section
variable {P:Program} {w:World} {K:PySem.W.Frag} {mg:Str->Option Value} {base:Heap}
theorem Wy.ok {x qual:Str}{st:Stmt}{f c Pt:Addr}{fd:FuncData}{N ps:List Str}{k:Nat}{sp:Sp}(F:Wy K x qual st f fd c Pt)(S:Ai N ps (Ae st))(len:∀ vs H Q E,sp vs H Q E->vs.length=ps.length)
  (hbody:∀ (A:Around) (outer:List Env) (s:Shared) (H:Hp) (vs:List V) (Q:VK) (E:XK),B2 k (A.deeper (envOfC qual (Ae st) s.heap.objs.size f (.ref c)))->sp vs H Q E ->
   ∃ t,PSs (Bu CX0 P w K mg base N qual (Ae st) f (.ref c) A outer s H E).nox (B5 st) t/\t { nx:=fun _ H'=>Q .non H',rt:=Q } (Hn N vs) H):Ax P w K mg base CX0 (k+1) f fd ps sp:=by
 obtain ⟨oc,od,kV,doc,pm,an,ct,osl,rfl,lk,hcd⟩:=F.ex
 refine iT lk hcd S len fun A outer s H vs Q E hr hsp=>?_
 obtain ⟨t,h,q⟩:=hbody A outer s H vs Q E hr hsp
 exact ⟨t,h.nox,q⟩
theorem Wy.code {x qual:Str}{st:Stmt}{f c Pt:Addr}{fd:FuncData}(F:Wy K x qual st f fd c Pt)(hK:K.In base):CodeHd base c Pt:=let ⟨oc,e,h⟩:=F.hd;h.at (hK _ _ e)
theorem Wy.binds {x qual:Str}{st:Stmt}{f c Pt:Addr}{fd:FuncData}{ps:List Str}(F:Wy K x qual st f fd c Pt)
  (h:∀ (kV doc pm:Value) (an:Option Addr) (cdv ct:Value) (us:List Value),us.length=ps.length->bindArgs (PySem.W.fnOf x qual (Cw st) (B5 st) (Ae st) .none kV doc pm an cdv ct) ⟨us,[]⟩=pure (ps.zip us)):Dk K fd ps []:=by
 obtain ⟨oc,od,kV,doc,pm,an,ct,osl,rfl,lk,hcd⟩:=F.ex
 exact .all (h kV doc pm an (.ref c) ct)
theorem oH {x qual:Str}{st:Stmt}{f c Pt:Addr}{oc:Value}{od an:Option Addr}{osl:Array (Option Value)}{kV doc pm ct:Value}{oo:Obj}(l:K.lookup f=some ⟨oc,od,.func (PySem.W.fnOf x qual (Cw st) (B5 st) (Ae st) .none kV doc pm an (.ref c) ct),osl⟩)
  (cc:PySem.W.codeIn K (.ref c) qual=true)(k:PySem.W.keepIn K (.ref f)=true)(lc:K.lookup c=some oo)(hc:Mh oo c Pt):Wy K x qual st f (PySem.W.fnOf x qual (Cw st) (B5 st) (Ae st) .none kV doc pm an (.ref c) ct) c Pt:=⟨⟨oc,od,kV,doc,pm,an,ct,osl,rfl,l,cc⟩,k,oo,lc,hc⟩
end
def InC (cl:List (Str×Addr))(b:Addr):Prop:=∃ x,cl.lookup x=some b
open Classical in
noncomputable def Hf (H:Hp) (cl:List (Str×Addr)):Hp:=fun b=>if InC cl b then none else H b
open Classical in
noncomputable def Ho (H:Hp) (h:Heap) (cl:List (Str×Addr)):Hp:=fun b=>if InC cl b then (h.get? b).map fun o=>.frz o (.own 0) else H b
theorem Jn {H:Hp}{cl:List (Str×Addr)}{b:Addr}(h:InC cl b):Hf H cl b=none:=if_pos h
theorem E7 {H:Hp}{cl:List (Str×Addr)}{b:Addr}(h:¬ InC cl b):Hf H cl b=H b:=if_neg h
theorem Mn {H:Hp}{h:Heap}{cl:List (Str×Addr)}{b:Addr}{o:Obj}(hb:InC cl b)(e:h.get? b=some o):Ho H h cl b=some (.frz o (.own 0)):=by
 unfold Ho
 rw [if_pos hb,e]
 rfl
theorem Co {H:Hp}{h:Heap}{cl:List (Str×Addr)}{b:Addr}(hb:¬ InC cl b):Ho H h cl b=H b:=if_neg hb
theorem D6 {H:Hp}{cl:List (Str×Addr)}{b:Addr}(h:H b=none):Hf H cl b=none:=by
 by_cases hb:InC cl b
 ·exact Jn hb
 ·rw [E7 hb];exact h
theorem Y9 {H:Hp}{cl:List (Str×Addr)}{b:Addr}{o:HO}(h:Hf H cl b=some o):¬ InC cl b/\H b=some o:=by
 by_cases hb:InC cl b
 ·rw [Jn hb] at h;cases h
 ·rw [E7 hb] at h;exact ⟨hb,h⟩
theorem W4 {P:Program}{w:World}{H:Hp}{h:Heap}{cl:List (Str×Addr)}(hk:HOk P w H h)(hc:∀ b,InC cl b->∃ o u,H b=some (.frz o u)):HOk P w (Hf H cl) h:=fun b o e=>by
 obtain ⟨hb,e⟩:=Y9 e
 refine (hk b o e).stay (fun _ _ _ q=>q) (fun c q=>?_) fun c xs q=>?_
 ·rw [E7 fun z=>?_]
  ·exact q
  ·obtain ⟨o,u,e⟩:=hc c z
   rw [q] at e;cases e
 ·rw [E7 fun z=>?_]
  ·exact q
  ·obtain ⟨o,u,e⟩:=hc c z
   rw [q] at e;cases e
theorem Wr {P:Program}{w:World}{H:Hp}{h:Heap}{cl:List (Str×Addr)}(hk:HOk P w H h)(hn:∀ b,InC cl b->H b=none):HOk P w (Ho H h cl) h:=fun b o e=>by
 by_cases hb:InC cl b
 ·unfold Ho at e
  rw [if_pos hb] at e
  cases g:h.get? b with
  | none=>rw [g] at e;cases e
  | some ob =>
   rw [g] at e
   cases e
   exact ⟨g,_,g⟩
 ·rw [Co hb] at e
  refine (hk b o e).stay (fun _ _ _ q=>q) (fun c q=>?_) fun c xs q=>?_
  ·rw [Co fun z=>by rw [hn c z] at q;cases q];exact q
  ·rw [Co fun z=>by rw [hn c z] at q;cases q];exact q
def Ww (P:Program)(w:World)(K:PySem.W.Frag)(mg:Str->Option Value)(base:Heap)(k:Nat)(H:Hp)(f:Addr)(dom:Int->Prop)(p:Int->Bool):Prop :=
 (∃ oc od fd sl u,H f=some (.frz ⟨oc,od,.func fd,sl⟩ u))/\∀ (A:Around) (outer:List Env) (s:Shared) (H1:Hp) (i:Int) (t:Tok),B2 k A->Ox P w K mg base A outer s H1->Ak H H1->dom i ->
  codeAny (model P w) A (.call (.ref f) ⟨[.int i t],[]⟩) (CR CX0 outer P w H1 s (fun v H2=>v=.bl (p i)/\Ak H1 H2) E0) s
theorem Ww.same {P:Program}{w:World}{K:PySem.W.Frag}{mg:Str->Option Value}{base:Heap}{k:Nat}{H H':Hp}{f:Addr}{dom:Int->Prop}{p:Int->Bool}(a:Ww P w K mg base k H f dom p)(s:Ak H H'):Ww P w K mg base k H' f dom p :=
 ⟨let ⟨oc,od,fd,sl,u,e⟩:=a.1;⟨oc,od,fd,sl,u,s _ _ e⟩,fun A outer st H1 i t hr e0 sm hd=>a.2 A outer st H1 i t hr e0 (fun b o e=>sm _ _ (s _ _ e)) hd⟩
section
variable {X:Cx} {x:Str} {i:Nat} {k:Nat} {a:Expr} {ta:TE} {q pos:Pos}
def uN (P:Program)(w:World)(K:PySem.W.Frag)(mg:Str->Option Value)(base:Heap)(k i:Nat)(ta:TE):TE:=fun σ H Q=>∃ (f:Addr) (dom:Int->Prop) (p:Int->Bool),σ[i]?=some (some (.ref f))/\Ww P w K mg base k H f dom p /\
 ta σ H fun v H1=>Xe σ H1 fun vs H2=>∃ z:Int,v::vs=[.int z]/\Ak H H2/\dom z/\∀ H3,Ak H2 H3->Q (.bl (p z)) H3
theorem vU {P:Program}{w:World}{K:PySem.W.Frag}{mg:Str->Option Value}{base:Heap}{σ:St}{H:Hp}{Q:VK}(h:∃ (f:Addr) (dom:Int->Prop) (p:Int->Bool),σ[i]?=some (some (.ref f))/\Ww P w K mg base k H f dom p /\
 ta σ H fun v H1=>Xe σ H1 fun vs H2=>∃ z:Int,v::vs=[.int z]/\Ak H H2/\dom z/\∀ H3,Ak H2 H3->Q (.bl (p z)) H3):uN P w K mg base k i ta σ H Q:=h
theorem tD (hr:B2 k X.A)(hN:X.N[i]?=some x)(hv:X.env.scope.names.lookup x=some .local)(ha:PE X a ta)(hdb:(x==("__debug__":Str))=false:=by decide)(hcd:(x==("__classdict__":Str))=false:=by decide)
  (he:starEach [a] X.env=[(false,eval a X.env)]:=by rfl) :
  PE X (.Call (.Name x q) [a] [] pos) (uN X.prog X.w X.K X.mg X.base k i ta):=by
 intro pins s σ H Q I ⟨f,dom,p,hσ,hA,h⟩
 have hn:PE X (.Name x q) (pY i):=lB hN (.inl hv) hdb hcd
 refine wpAny_Call_Name_kw (thn (hn pins s σ H (fun v H1=>v=.ref f/\H1=H) I ⟨_,hσ,rfl,rfl⟩) fun u s0 ⟨v0,H0,I0,r0,e0,e1⟩=>?_)
 subst e0 e1
 obtain rfl:u=Value.ref f:=r0
 have fnAt:∀ {s':Shared} {H':Hp},Inv X pins σ H' s'->Ak H0 H'->PySem.W.FnAt f s'.heap:=fun I' sm=>by
  obtain ⟨oc,od,fd,sl,u,e⟩:=hA.1
  exact ⟨oc,od,fd,sl,(I'.hok _ _ (sm _ _ e)).1⟩
 have hp:PA X [a] (Wu ta Xe):=dN ha Aa he
 refine PySem.W.callWith_F (fnAt I0 (fun _ _ e=>e)) (thn (hp pos pins s0 σ H0 (fun vs H1=>∃ z:Int,vs=[.int z]/\Ak H0 H1/\dom z/\∀ H3,Ak H1 H3->Q (.bl (p z)) H3) I0 ?_) fun us s1 ⟨vs,H1,I1,r1,z,e1,sm,hz,q1⟩=>⟨fnAt I1 sm,?_⟩) he rfl
 ·exact h
 subst e1
 obtain ⟨u,rfl,t,rfl⟩:=Gg r1
 refine wpAny_call (codeAny_mono (hA.2 X.A X.stack s1 H1 z t hr I1.env0 sm hz) fun r s' hq=>?_)
 cases r with
 | error e=>exact hq.elim
 | ok fl =>
  cases fl with
  | ret u =>
   obtain ⟨v,H',os,bare,un,hok,r,e2,sm2⟩:=hq
   subst e2
   exact I1.after ⟨_,H',os,bare,un,hok,r,q1 _ sm2⟩
  | next=>exact False.elim hq
  | brk=>exact False.elim hq
  | cont=>exact False.elim hq
end
abbrev fF (qual:Str)(scope:Scope)(cl:List (Str×Addr))(C f:Addr)(cd:Value):Env:=newEnv scope C mainGlobals cl (qual++Str.ofString ".<locals>.") (some f) cd none builtinsNs
def Ti (P:Program)(w:World)(K:PySem.W.Frag)(mg:Str->Option Value)(base:Heap)(N:List Str)(qual:Str)(scope:Scope)(cl:List (Str×Addr))(f:Addr)(cd:Value)(A:Around)(outer:List Env)(s:Shared)(H:Hp):Cx where
 prog:=P
 w:=w
 K:=K
 mg:=mg
 base:=base
 A:=A.deeper (fF qual scope cl s.heap.objs.size f cd)
 N:=N
 s₀:=s
 H₀:=H
 env:=fF qual scope cl s.heap.objs.size f cd
 outer:=outer
 stack:=fF qual scope cl s.heap.objs.size f cd::outer
 ex:=[]
 fn:=fun _=>false
 calm:=true
 pn:=[]
 xe:=fun _ _=>False
section
variable {P:Program} {w:World} {K:PySem.W.Frag} {mg:Str->Option Value} {base:Heap}
theorem oO {N N₀:List Str}{sc₀ scope:Scope}{x:Str}{ix:List Nat}{qual:Str}{cl:List (Str×Addr)}{f:Addr}{cd:Value}{A:Around}{outer:List Env}{s:Shared}{H1:Hp}{σ:St}{h₁:Heap}{tk:Nat}{v0:V}{u0:Value}{k:Nat}
  (L:Bq N₀ sc₀ scope x N ix)(hr:B2 (k+1) A)(e0:Ox P w K mg base A outer s H1)
  (hinj:∀ y z c,cl.lookup y=some c->cl.lookup z=some c->y=z)(hhas:∀ y,(y,NameKind.free)∈scope.names->∃ c,cl.lookup y=some c)
  (hcs:∀ y c,cl.lookup y=some c->∃ o v,H1 c=some (.frz o (.own 0))/\o.data=.cell v)
  (hval:∀ y j v,(y,j)∈N.tail.zip ix->σ[j]?=some (some v)->∃ c o u,cl.lookup y=some c/\H1 c=some (.frz o (.own 0))/\o.data=.cell (some u)/\Bc v u)
  (hr0:Bc v0 u0)(hns:h₁.Ns s.heap.objs.size fun z=>List.lookup z [(x,u0)].reverse)(hk:∀ b o,s.heap.get? b=some o->h₁.get? b=some o) :
  Inv (Ti P w K mg base N qual scope cl f cd A outer s (Hf H1 cl)) [] (some v0::frV σ ix) (Hf H1 cl) { s with heap:=h₁,toks:=tk }:=by
 have noA:∀ b:Addr,b∉(Ti P w K mg base N qual scope cl f cd A outer s (Hf H1 cl)).ex:=fun b z=>absurd (show b∈([]:List Addr) from z) (by simp)
 have kf:∀ y,scope.names.lookup y≠some .cell:=fun y e=>L.nocell _ (PySem.mem_of_lookup e) rfl
 refine ⟨⟨e0.mod,L.kind,rfl,rfl,Nat.le_refl _,fun y z c h1 h2=>hinj y z c h1 h2,fun y hy=>?_,fun y c z _=>?_,fun _=>(hr.deeper _).hd,Around.frames_deeper e0.frames,.inr ⟨rfl,rfl⟩,fun b z=>absurd z (noA b),fun b o e=>⟨(e0.bs b o e).1,D6 (e0.bs b o e).2⟩,e0.bsz,fun b _ _=>noA b,fun b z=>absurd z (noA b),e0.funs,fun b hb=>D6 (e0.frf b hb)⟩,
  rfl,e0.bare,Un.kept hk,⟨_,hns,fun i y v h1 h2 h3=>?_⟩,fun y c e=>?_,D6 (e0.hok.fresh (Nat.le_refl _)),fun y c e=>Jn ⟨y,e⟩,fun p hp=>absurd (show p∈([]:List (Addr×Obj)) from hp) (by simp),?_,?_⟩
 ·have hy:scope.names.lookup y=some .cell\/scope.names.lookup y=some .free:=hy
  rcases hy with hy | hy
  ·exact absurd hy (kf y)
  ·exact hhas y (PySem.mem_of_lookup hy)
 ·cases (show false=true from z)
 ·cases i with
  | zero =>
   have h1:N[0]?=some y:=h1
   have h2:some (some v0)=some (some v):=h2
   cases h2
   have hx:N[0]?=some x:=by have:=L.hd;rwa [List.head?_eq_getElem?] at this
   rw [h1] at hx
   cases hx
   exact ⟨u0,hr0,.inl ⟨L.loc,by simp⟩⟩
  | succ j =>
   have h1:N[j+1]?=some y:=h1
   have h2:(frV σ ix)[j]?=some (some v):=h2
   unfold frV at h2
   rw [List.getElem?_map] at h2
   cases hj:ix[j]? with
   | none=>rw [hj] at h2;cases h2
   | some m =>
    rw [hj] at h2
    have h2:(σ[m]?).getD none=some v:=Option.some.inj h2
    have h2':σ[m]?=some (some v):=by
     cases e:σ[m]? with
     | none=>rw [e] at h2;cases h2
     | some z=>rw [e] at h2;exact congrArg some h2
    have ht:N.tail[j]?=some y:=by rw [List.getElem?_tail];exact h1
    have hz:(y,m)∈N.tail.zip ix:=List.mem_of_getElem? (i:=j) (by rw [List.getElem?_zip_eq_some];exact ⟨ht,hj⟩)
    obtain ⟨c,o,u,e1,e2,e3,r⟩:=hval y m v hz h2'
    exact ⟨u,r,.inr ⟨.inr (L.at_ _ hz).2,c,e1,o,hk _ _ (e0.hok _ _ e2).1,e3⟩⟩
 ·obtain ⟨o,v,e1,e2⟩:=hcs y c e
  exact ⟨v,o,hk _ _ (e0.hok _ _ e1).1,e2⟩
 ·exact (W4 e0.hok fun b ⟨y,e⟩=>let ⟨o,v,e1,_⟩:=hcs y b e;⟨o,_,e1⟩).kept hk
 ·show (some v0::frV σ ix).length=N.length
  rw [L.len]
  simp [frV]
theorem kI {N N₀:List Str}{sc₀ scope:Scope}{x:Str}{ix:List Nat}{qual:Str}{cl:List (Str×Addr)}{f c':Addr}{H:Hp}{σ:St}{k:Nat}{params:Arguments}{body:Expr}{pm ctv:Value}{oc:Obj}{te:TE}{dom:Int->Prop}{p:Int->Bool}
  (L:Bq N₀ sc₀ scope x N ix)(hco:scope.isCoroutine=false)(hgen:scope.isGenerator=false)
  (hinj:∀ y z c,cl.lookup y=some c->cl.lookup z=some c->y=z)(hhas:∀ y,(y,NameKind.free)∈scope.names->∃ c,cl.lookup y=some c)
  (hcs:∀ y c,cl.lookup y=some c->∃ o v,H c=some (.frz o (.own 0))/\o.data=.cell v)
  (hval:∀ y j v,(y,j)∈N.tail.zip ix->σ[j]?=some (some v)->∃ c o u,cl.lookup y=some c/\H c=some (.frz o (.own 0))/\o.data=.cell (some u)/\Bc v u)
  (hf:H f=some (.frz (kla_obj "<lambda>" qual params body scope cl pm c' ctv) (.own 0)))(hc':H c'=some (.frz oc (.own 0)))(hoc:Ui oc qual)
  (hbind:∀ (n:Int) (t:Tok),bindArgs (PySem.W.kla_fn "<lambda>" qual params body scope cl pm (.ref c') ctv) ⟨[.int n t],[]⟩=pure [(x,.int n t)])
  (hbody:∀ (A:Around) (outer:List Env) (s:Shared) (H1:Hp),B2 k (A.deeper (fF qual scope cl s.heap.objs.size f (.ref c')))->PE (Ti P w K mg base N qual scope cl f (.ref c') A outer s H1) body te)
  (hte:∀ (i:Int) (H1:Hp),dom i->(∀ b u,¬ InC cl b->H b=some u->H1 b=some u)->te (some (.int i)::frV σ ix) H1 fun v H2=>v=.bl (p i)/\Ak H1 H2):Ww P w K mg base (k+1) H f dom p:=by
 refine ⟨⟨_,_,_,_,_,hf⟩,fun A outer s H1 i t hr e0 sm hd=>?_⟩
 have hfo:s.heap.get? f=some (kla_obj "<lambda>" qual params body scope cl pm c' ctv):=(e0.hok _ _ (sm _ _ hf)).1
 have hco':s.heap.get? c'=some oc:=(e0.hok _ _ (sm _ _ hc')).1
 have lim:s.heap.NoLimit:=e0.mod.nolimit.keeps fun b o e=>(e0.bs b o e).1
 refine PySem.W.kla_callFunE hr.depth hfo rfl hco hgen rfl (let ⟨vs,t,e1,e2⟩:=hoc;⟨c',oc,vs,t,rfl,hco',e1,e2⟩) ?_
 rw [hbind]
 refine wpAny_pure (wpAny_newFunctionEnv L.nocell (fun y hy=>by cases List.mem_singleton.mp hy;exact L.loc) (fun h₁ hns hsb=>⟨lim.fresh _ hsb,?_⟩) L.kind)
 have hk₁:∀ b o,s.heap.get? b=some o->h₁.get? b=some o:=fun b o e=>hsb.extBut b o (Nat.ne_of_lt (Heap.lt_size e)) (Heap.get?_push_of_some _ e)
 have inH:∀ b,InC cl b->∃ o v,H1 b=some (.frz o (.own 0))/\o.data=.cell v:=fun b ⟨y,e⟩=>let ⟨o,v,e1,e2⟩:=hcs y b e;⟨o,v,sm _ _ e1,e2⟩
 have I':=oO (qual:=qual) (f:=f) (cd:=.ref c') (tk:=s.toks+[(x,Value.int i t)].length) (v0:=.int i) (u0:=.int i t) L hr e0 hinj hhas (fun y c e=>let ⟨o,v,e1,e2⟩:=hcs y c e;⟨o,v,sm _ _ e1,e2⟩)
  (fun y j v h1 h2=>let ⟨c,o,u,a1,a2,a3,a4⟩:=hval y j v h1 h2;⟨c,o,u,a1,sm _ _ a2,a3,a4⟩) ⟨t,rfl⟩ hns hk₁
 refine PySem.W.kla_codeExpr (wpAny_mono (hbody A outer s (Hf H1 cl) (hr.deeper _) [] _ _ _ _ I' (hte i _ hd fun b u hb e=>by rw [E7 hb];exact sm _ _ e)) (fun v s' ⟨v',H2,I2,r,ev,sm2⟩=>?_) fun e s' z=>z.elim)
 have nfr:∀ b,InC cl b->b∉frs outer:=fun b hb z=>by
  obtain ⟨o,v,e1,_⟩:=inH b hb
  rw [e0.frf b z] at e1;cases e1
 have cell':∀ b o u,InC cl b->H1 b=some (.frz o u)->s'.heap.get? b=some o/\u=.own 0:=fun b o u hb e=>by
  obtain ⟨o2,v2,e1,_⟩:=inH b hb
  rw [e] at e1
  cases e1
  exact ⟨I2.base.keep b o (e0.hok _ _ e).1 (Jn hb) (nfr b hb) (by simp [Ti]),rfl⟩
 have same':∀ b u,H1 b=some u->(∀ ps,u≠.tbl ps)\/True->Ho H2 s'.heap cl b=some u:=fun b u e _=>by
  by_cases hb:InC cl b
  ·obtain ⟨o,v,e1,_⟩:=inH b hb
   rw [e] at e1
   cases e1
   exact Mn hb (cell' b o _ hb e).1
  ·rw [Co hb]
   exact sm2 _ _ (by rw [E7 hb];exact e)
 refine ⟨v',Ho H2 s'.heap cl,I2.os,I2.bare,⟨fun b o e n hf hx=>I2.base.keep b o e (D6 n) hf hx,fun b o e n hf hx=>I2.base.slot b o e (D6 n) hf hx,fun b o e n hx=>?_,fun b o e hx=>I2.base.there b o e hx,fun b xs e=>same' _ _ e (.inr trivial),fun b o u e=>same' _ _ e (.inr trivial),fun b ps e=>⟨#[],by rw [Array.append_empty];exact same' _ _ e (.inr trivial)⟩⟩,Wr I2.hok fun b ⟨y,e⟩=>I2.freeC y b e,r,ev,fun b u e=>same' b u e (.inr trivial)⟩
 have hb:¬ InC cl b:=fun hb=>by
  obtain ⟨o,v,e1,_⟩:=inH b hb
  rw [n] at e1;cases e1
 rw [Co hb]
 exact I2.base.free b o e (D6 n) hx
end
def Mf (P:Program)(w:World)(K:PySem.W.Frag)(mg:Str->Option Value)(base:Heap)(k:Nat):Sp:=fun vs H Q _=>∃ (lo hi:Int) (f:Addr) (p:Int->Bool),vs=[.int lo,.int hi,.ref f]/\lo<=hi/\Ww P w K mg base k H f (fun i=>lo<=i/\i<hi) p /\
 ∀ m H',lo<=m->m<=hi->(lo<m->p (m-1)=false)->(m<hi->p m=true)->Ak H H'->Q (.int m) H'
def cM (Pt:Addr)(lpos:Pos)(qual:Str)(ix:List Nat)(te ta tb:TE):TE:=fun σ H Q=>ta σ H fun v H1=>tb σ H1 fun u H2=>∃ (lo hi:Int) (p:Int->Bool),v=.int lo/\u=.int hi/\lo<=hi/\Sk H2 Pt lpos qual /\
 (∀ (i:Int) (H3:Hp),lo<=i->i<hi->Oe Pt H2 H3->te (some (.int i)::frV σ ix) H3 fun v H4=>v=.bl (p i)/\Ak H3 H4) /\
 ∀ (m:Int) (H':Hp),lo<=m->m<=hi->(lo<m->p (m-1)=false)->(m<hi->p m=true)->Oe Pt H2 H'->Sk H' Pt lpos qual->Q (.int m) H'
theorem pS {Pt:Addr}{lpos:Pos}{qual:Str}{ix:List Nat}{te ta tb:TE}{σ:St}{H:Hp}{Q:VK}(h:ta σ H fun v H1=>tb σ H1 fun u H2=>∃ (lo hi:Int) (p:Int->Bool),v=.int lo/\u=.int hi/\lo<=hi/\Sk H2 Pt lpos qual /\
 (∀ (i:Int) (H3:Hp),lo<=i->i<hi->Oe Pt H2 H3->te (some (.int i)::frV σ ix) H3 fun v H4=>v=.bl (p i)/\Ak H3 H4) /\
 ∀ (m:Int) (H':Hp),lo<=m->m<=hi->(lo<m->p (m-1)=false)->(m<hi->p m=true)->Oe Pt H2 H'->Sk H' Pt lpos qual->Q (.int m) H'):cM Pt lpos qual ix te ta tb σ H Q:=h
section
variable {X:Cx}
theorem kJ {g x qual : Str}{a b body : Expr}{ta tb te : TE}{q pos lpos : Pos}{ff c Pt : Addr}{fd : FuncData}{ps N : List Str}{ix : List Nat}{kf k : Nat}{params : Arguments}{scope : Scope}
    (F : Ax X.prog X.w X.K X.mg X.base CX0 kf ff fd ps (Mf X.prog X.w X.K X.mg X.base (k + 1)))(hr : B2 kf X.A)(hg : Gl X g)(hm : X.mg g = some (.ref ff))(hkp : PySem.W.keepIn X.K (.ref ff) = true)(hb : Dk X.K fd ps [])
    (ha : PE X a ta)(hbb : PE X b tb)(hfn : X.fn = fun _ => true)
    (C : CodeHd X.base c Pt)(hB : X.base.BuiltinsAt X.mg Pt)(hcode : X.env.code = .ref c)(hq : X.env.qual ++ "<lambda>" = qual)
    (L : Bq X.N X.env.scope scope x N ix)(hco : scope.isCoroutine = false)(hgen : scope.isGenerator = false)(hdef : defaultsOf params X.env = ([], []))
    (hbind : ∀ (cl : List (Str × Addr)) (pm cv ctv : Value) (n : Int) (t : Tok), bindArgs (PySem.W.kla_fn "<lambda>" qual params body scope cl pm cv ctv) ⟨[.int n t], []⟩ = pure [(x, .int n t)])
    (hbody : ∀ (cl : List (Str × Addr)) (f c' : Addr) (A : Around) (outer : List Env) (s : Shared) (H1 : Hp), B2 k (A.deeper (fF qual scope cl s.heap.objs.size f (.ref c')))->PE (Ti X.prog X.w X.K X.mg X.base N qual scope cl f (.ref c') A outer s H1) body te)
    (hdb : (g == ("__debug__" : Str)) = false := by decide)(he1 : starEach [a, b, .Lambda params body scope lpos] X.env = (false, eval a X.env) :: starEach [b, .Lambda params body scope lpos] X.env := by rfl)(he2 : starEach [b, .Lambda params body scope lpos] X.env = (false, eval b X.env) :: starEach [.Lambda params body scope lpos] X.env := by rfl)
    (he3 : starEach [.Lambda params body scope lpos] X.env = [(false, eval (.Lambda params body scope lpos) X.env)] := by rfl)(hpl : (backTo pos (starEach [b, .Lambda params body scope lpos] X.env)).any (·.1) = false := by rfl) :
    PE X (.Call (.Name g q) [a, b, .Lambda params body scope lpos] [] pos) (cM Pt lpos qual ix te ta tb) := by
  intro pins s σ H Q I h
  refine wpAny_Call_Name_kw (Ei I hg hm ?_ hdb)
  refine callWith_K (h₀ := X.base) I.ok.mod.kin hkp ?_ he1 hpl
  rw [he1]
  show wpAny _ _ (spliced ((false, eval a X.env) :: backTo pos (starEach [b, .Lambda params body scope lpos] X.env))) _ _ s
  refine Calls.spliced_cons (thn (ha pins s σ H _ I h) fun u1 s1 ⟨v1, H1, I1, r1, q1⟩ => ?_)
  rw [he2]
  show wpAny _ _ (spliced ((false, eval b X.env) :: backTo pos (starEach [.Lambda params body scope lpos] X.env))) _ _ s1
  refine Calls.spliced_cons (thn (hbb pins s1 σ H1 _ I1 q1) fun u2 s2 ⟨v2, H2, I2, r2, lo, hi, p, e1, e2, hle, hT, hbd, q2⟩ => ?_)
  subst e1 e2
  rw [he3]
  show wpAny _ _ (spliced [(false, eval (.Lambda params body scope lpos) X.env)]) _ _ s2
  have hfree : ∀ y ∈ scope.names, y.2 = .free->∃ c, X.env.cells.lookup y.1 = some c := fun y hy hf => I.ok.has y.1 (.inl (L.free y hy hf))
  have sub : ∀ y c, (Dc X.env scope.names []).lookup y = some c->X.env.cells.lookup y = some c := fun y c h => Hr _ _ y c hfree (fun _ _ z => by simp at z) h
  refine Calls.spliced_cons (jN I2 hT C hB hcode (Gr hfree) hdef hq fun f c' oc pm ctv s3 H3 I3 hT3 sm hf0 hf hc' hoc => ?_)
  refine Calls.spliced_nil ?_
  generalize hcl : Dc X.env scope.names [] = cl at hf sub
  have inj : ∀ y z c, cl.lookup y = some c->cl.lookup z = some c->y = z := fun y z c h1 h2 => I.ok.inj y z c (sub y c h1) (sub z c h2)
  have n3 : ∀ b, InC cl b->H3 b = none := fun b ⟨y, e⟩ => I3.freeC y b (sub y b e)
  have cellAt : ∀ y c, cl.lookup y = some c->∃ o v, s3.heap.get? c = some o/\o.data = .cell v := fun y c e => let ⟨v, o, e1, e2⟩ := I3.cell y c (sub y c e); ⟨o, v, e1, e2⟩
  have nLoc : ∀ b, InC cl b->b ≠ X.env.locals := fun b ⟨y, e⟩ => I3.cne y b (sub y b e)
  have hab : ∀ b, InC cl b->X.s₀.heap.objs.size <= b := fun b ⟨y, e⟩ => I3.ok.cab y b (by rw [hfn]) (sub y b e)
  have nfr : ∀ b, InC cl b->b ∉ frs X.stack := fun b hb z => by
    rcases List.mem_cons.mp (I3.stkSub b z) with e | hz
    · exact nLoc b hb e
    · obtain ⟨_, o, ho, _⟩ := I3.ok.funs.mem hz
      exact absurd (Heap.lt_size ho) (Nat.not_lt.mpr (hab b hb))
  have e0 : Ox X.prog X.w X.K X.mg X.base X.A X.stack s3 (Ho H3 s3.heap cl) := by
    have z := I3.env0
    refine ⟨z.frames, z.mod, fun b o e => ⟨(z.bs b o e).1, ?_⟩, z.bsz, z.funs, fun b hb => ?_, Wr z.hok n3, z.bare⟩
    · rw [Co fun hb => ?_]
      · exact (z.bs b o e).2
      · exact absurd (Heap.lt_size e) (Nat.not_lt.mpr (Nat.le_trans I3.ok.bsz (hab b hb)))
    · rw [Co fun h => nfr b h hb]
      exact z.frf b hb
  have out : ∀ b u, H3 b = some u->Ho H3 s3.heap cl b = some u := fun b u e => by
    rw [Co fun hb => by rw [n3 b hb] at e; cases e]; exact e
  have asks : Ww X.prog X.w X.K X.mg X.base (k + 1) (Ho H3 s3.heap cl) f (fun i => lo <= i/\i < hi) p := by
    refine kI (σ := σ) (te := te) L hco hgen inj (fun y hy => ?_) (fun y c e => ?_) (fun y j v hz hj => ?_) (out _ _ hf) (out _ _ hc') hoc (hbind _ _ _ _) (fun A outer s H1 hr => hbody _ _ _ A outer s H1 hr) fun i H4 hi k4 => ?_
    · rw [<- hcl]; exact Option.isSome_iff_exists.mp (Ed _ _ y hy)
    · obtain ⟨o, v, e1, e2⟩ := cellAt y c e
      exact ⟨o, v, Mn ⟨y, e⟩ e1, e2⟩
    · obtain ⟨b1, b2⟩ := L.at_ _ hz
      have hm := PySem.mem_of_lookup b2
      have hcell := L.free _ hm rfl
      obtain ⟨m', hn', hl'⟩ := I3.loc
      obtain ⟨u, r, lk⟩ := hl' j y v b1 hj (.inr (.inl hcell))
      rcases lk with lk | ⟨_, c2, e, o, z1, z2⟩
      · rw [show X.env.kindOf y = some .cell from hcell] at lk
        cases lk.1
      · obtain ⟨c3, e'⟩ := Option.isSome_iff_exists.mp (Ed (env := X.env) scope.names [] y hm)
        rw [hcl] at e'
        have e2 := sub y c3 e'
        rw [e] at e2
        cases e2
        exact ⟨c2, o, u, e', Mn ⟨y, e'⟩ z1, z2, r⟩
    · refine hbd i H4 hi.1 hi.2 fun b u hb e => ?_
      have e3 := sm b u hb e
      exact k4 b u (fun hc => by rw [n3 b hc] at e3; cases e3) (out b u e3)
  refine ⟨I3.kIn, ?_⟩
  show wpAny _ _ (call (.ref ff) [u1, u2, .ref f]) _ _ s3
  have rv : A0 [V.int lo, V.int hi, V.ref f] [u1, u2, .ref f] := .cons r1 (.cons r2 (.cons rfl .nil))
  have hl : ([u1, u2, Value.ref f] ++ []).length = ps.length := by
    have := F.len [.int lo, .int hi, .ref f] (Ho H3 s3.heap cl) (fun _ _ => True) E0 ⟨lo, hi, f, p, rfl, hle, asks, fun _ _ _ _ _ _ _ => trivial⟩
    exact this
  refine wpAny_call (codeAny_mono (F.run X.A X.stack s3 (Ho H3 s3.heap cl) ⟨[u1, u2, .ref f], []⟩ ([u1, u2, .ref f] ++ []) [.int lo, .int hi, .ref f] (fun v H' => ∃ m, v = .int m/\lo <= m/\m <= hi/\(lo < m->p (m - 1) = false)/\(m < hi->p m = true)/\Ak (Ho H3 s3.heap cl) H') E0 hr e0 (hb s3 _ I3.kIn hl) (by simpa using rv)
    ⟨lo, hi, f, p, rfl, hle, asks, fun m H' a1 a2 a3 a4 a5 => ⟨m, rfl, a1, a2, a3, a4, a5⟩⟩) fun r s' hq => ?_)
  cases r with
  | error e => exact hq.elim
  | ok fl =>
    cases fl with
    | next => exact False.elim hq
    | brk => exact False.elim hq
    | cont => exact False.elim hq
    | ret u =>
      obtain ⟨v, H4, os, bare, un, hok, rr, m, ev, a1, a2, a3, a4, sm4⟩ := hq
      subst ev
      have c4 : ∀ b, InC cl b->∃ o, s3.heap.get? b = some o/\H4 b = some (.frz o (.own 0)) := fun b ⟨y, e⟩ => by
        obtain ⟨o, v, e1, _⟩ := cellAt y b e
        exact ⟨o, e1, sm4 _ _ (Mn ⟨y, e⟩ e1)⟩
      have sm5 : ∀ b u, H3 b = some u->Hf H4 cl b = some u := fun b u e => by
        rw [E7 fun hb => by rw [n3 b hb] at e; cases e]
        exact sm4 _ _ (out _ _ e)
      have un2 : Un (frs X.stack) [] H3 (Hf H4 cl) s3.heap s'.heap := by
        refine ⟨fun b o e n hf hx => ?_, fun b o e n hf hx => ?_, fun b o e n hx => ?_, fun b o e hx => un.there b o e hx, fun b xs e => sm5 _ _ e, fun b o u e => sm5 _ _ e, fun b ps e => ⟨#[], by rw [Array.append_empty]; exact sm5 _ _ e⟩⟩
        · by_cases hb : InC cl b
          · obtain ⟨o2, z1, z2⟩ := c4 b hb
            rw [e] at z1
            cases z1
            exact (hok _ _ z2).1
          · exact un.keep b o e (by rw [Co hb]; exact n) hf hx
        · have hb : ¬ InC cl b := fun hb => nfr b hb hf
          exact un.slot b o e (by rw [Co hb]; exact n) hf hx
        · by_cases hb : InC cl b
          · exact Jn hb
          · exact D6 (un.free b o e (by rw [Co hb]; exact n) hx)
      have hok2 : HOk X.prog X.w (Hf H4 cl) s'.heap := W4 hok fun b hb => let ⟨o, _, z⟩ := c4 b hb; ⟨o, _, z⟩
      refine I3.after ⟨_, Hf H4 cl, os, bare, un2, hok2, rr, q2 m _ a1 a2 a3 a4 (fun b u hb e => sm5 _ _ (sm b u hb e)) ?_⟩
      obtain ⟨pps, t1, t2, t3⟩ := hT3
      exact ⟨pps, sm5 _ _ t1, t2, t3.imp id fun ⟨c2, oc2, z1, z2, z3⟩ => ⟨c2, oc2, z1, sm5 _ _ z2, z3⟩⟩
theorem tO {g x qual:Str}{a b body:Expr}{ta tb te:TE}{q pos lpos:Pos}{c Pt:Addr}{ps N:List Str}{ix:List Nat}{kf k:Nat}{params:Arguments}{scope:Scope}
  (F:Cal X.prog X.w X.K X.mg X.base g kf ps (Mf X.prog X.w X.K X.mg X.base (k+1)))(hr:B2 kf X.A)(ha:PE X a ta)(hbb:PE X b tb)(C:CodeHd X.base c Pt)(hB:X.base.BuiltinsAt X.mg Pt)(hcode:X.env.code=.ref c)(hq:X.env.qual++"<lambda>"=qual)
  (L:Bq X.N X.env.scope scope x N ix)(hbody:∀ (cl:List (Str×Addr)) (f c':Addr) (A:Around) (outer:List Env) (s:Shared) (H1:Hp),B2 k (A.deeper (fF qual scope cl s.heap.objs.size f (.ref c')))->PE (Ti X.prog X.w X.K X.mg X.base N qual scope cl f (.ref c') A outer s H1) body te)
  (hfn:X.fn=fun _=>true:=by rfl)(hg:Gl X g:=by rfl)(hco:scope.isCoroutine=false:=by rfl)(hgen:scope.isGenerator=false:=by rfl)(hdef:defaultsOf params X.env=([],[]):=by rfl)
  (hbind:∀ (cl:List (Str×Addr)) (pm cv ctv:Value) (n:Int) (t:Tok),bindArgs (PySem.W.kla_fn "<lambda>" qual params body scope cl pm cv ctv) ⟨[.int n t],[]⟩=pure [(x,.int n t)]:=by intros;rfl)
  (hdb:(g==("__debug__":Str))=false:=by decide)(he1:starEach [a,b,.Lambda params body scope lpos] X.env=(false,eval a X.env)::starEach [b,.Lambda params body scope lpos] X.env:=by rfl)(he2:starEach [b,.Lambda params body scope lpos] X.env=(false,eval b X.env)::starEach [.Lambda params body scope lpos] X.env:=by rfl)
  (he3:starEach [.Lambda params body scope lpos] X.env=[(false,eval (.Lambda params body scope lpos) X.env)]:=by rfl)(hpl:(backTo pos (starEach [b,.Lambda params body scope lpos] X.env)).any (·.1)=false:=by rfl) :
  PE X (.Call (.Name g q) [a,b,.Lambda params body scope lpos] [] pos) (cM Pt lpos qual ix te ta tb):=by
 obtain ⟨f,fd,F,bb,hm,hk⟩:=F.ex
 exact kJ F hr hg hm hk bb ha hbb hfn C hB hcode hq L hco hgen hdef hbind hbody hdb he1 he2 he3 hpl
end
theorem Vz:typeLookup (.type "list") "keys"=pure none:=by rw [typeLookup_type,builtinLookup_eq_fast];kernel_rfl
theorem Ub:typeLookup (.type "list") "__getattr__"=pure none:=by rw [typeLookup_type,builtinLookup_eq_fast];kernel_rfl
theorem W5 (a:Addr)(vs:Array Value)(n:Nat)(u:Tok):Meets (Builtin.«object.__getattribute__» ⟨[.ref a,.str "keys" u],[]⟩) (fun A R s=>s.heap.get? a=some (seqObj "list" vs n)/\raisesAttr (.ref a) "keys" A R s) :=
 Meets.of_wp fun prog w A R s hs=>by
  obtain ⟨hp,g,d,tk,os⟩:=s
  obtain ⟨hx,hs⟩:=hs
  have hT:(⟨hp,g,d,tk,os⟩:Shared).TypeIs (.ref a) "list":=⟨_,hx,rfl⟩
  have f4:=Vz
  repeat (any_goals (first | assumption | with_reducible refine wpAny_loadPart_at hx ?_ | wp_step))
  exact wpAny_raiseAttrError hs.1 hs.2 (by decide +kernel)
section
variable {prog:Program} {w:World} {A:Around} {E:Value->Shared->Prop} {s:Shared}
theorem iL {a:Addr}{vs:Array Value}{n:Nat}{Q:Option Value->Shared->Prop}(hx:s.heap.get? a=some (seqObj "list" vs n))(hA:A.handled=none)(q:∀ h' tk,(∀ b o,s.heap.get? b=some o->h'.get? b=some o)->Q none { s with heap:=h',toks:=tk }) :
  wpAny (model prog w) A (getAttr? (.ref a) "keys") Q E s:=by
 obtain ⟨hp,g,d,tk,os⟩:=s
 have hT:∀ tk',(⟨hp,g,d,tk',os⟩:Shared).TypeIs (.ref a) "list":=fun _=>⟨_,hx,rfl⟩
 have f1:=sub_AttributeError
 have f3:=PySem.F.slot_list_getattribute.lookup
 have f4:=PySem.F.slot_list_getattribute.bind (.ref a)
 have f5:=Ub
 unfold getAttr? getAttrBy? getAttrBy
 repeat (any_goals (first | assumption | exact hT _ | ((with_reducible show wpAny _ _ (call (Value.builtin "list.__getattribute__") _ _) _ _ _);refine call_meets PySem.F.slot_list_getattribute (hT _) PySem.F.entry_list_ga (PySem.F.args_list_getattribute_2 _ _) (W5 a vs n _) ⟨hx,hA,fun h' tk' e hx'=>?_⟩) | wp_step))
 obtain ⟨t',u',he⟩:=hx'.there
 show wpAny _ _ (getattributeRaised _ _ _ _ _ _ _) _ _ _
 unfold getattributeRaised
 repeat (any_goals (first | assumption | wp_step))
 exact q _ _ hx'.keeps
end
def W8 (h:Heap)(T:Addr)(x y:Value):Prop:=∃ o n,h.get? T=some o/\o.cls=.type "tuple"/\o.data=.seq #[x,y] n
theorem W8.keep {h h':Heap}{T:Addr}{x y:Value}(p:W8 h T x y)(k:∀ o,h.get? T=some o->h'.get? T=some o):W8 h' T x y:=let ⟨o,n,e,r⟩:=p;⟨o,n,k o e,r⟩
section
variable {prog:Program} {w:World} {A:Around} {E:Value->Shared->Prop} {R:Result->Shared->Prop}
theorem Xj {s:Shared}{T:Addr}{x y:Value}{Q:List Value->Shared->Prop}(hT:W8 s.heap T x y)(h:Q [x,y] s):wpAny (model prog w) A (Builtin.Dict.pairItems (.ref T)) Q E s:=by
 obtain ⟨o,n,e,c,d⟩:=hT
 have ty:s.TypeIs (.ref T) "tuple":=⟨_,e,c⟩
 unfold Builtin.Dict.pairItems
 refine wpAny_bind (wpAny_typeOf ty ?_)
 rw [if_pos (by decide)]
 exact wpAny_bind (wpAny_seqItems e d (wpAny_pure h))
theorem nQ {d it l:Addr}{items:Array Value}{ys:List Value}{ks:List Int}(hdi:d≠it)(hli:l≠it)(hld:l≠d)(hh:A.handled=none):∀ (m i:Nat) (s:Shared) (tk:Tok) (vs:List (Key×Value)),items.size-i=m->i<=items.size ->
   (∀ (j:Nat) x,items[j]?=some x->∃ n t y T,ks[j]?=some n/\ys[j]?=some y/\x=Value.ref T/\T≠it/\T≠d/\W8 s.heap T (.int n t) y)->ks.length=items.size->ys.length=items.size ->
   s.heap.IsListIter it l i->s.heap.IsList l items->s.heap.DictOf (F4 prog w) d vs->vs.length+(items.size-i)<=sizeLine ->
   (∀ h' k vs',h'.DictOf (F4 prog w) d vs'->vs'=Yd vs (ks.drop i) (ys.drop i)->(∀ b o,b≠it->b≠d->s.heap.get? b=some o->h'.get? b=some o)->R (.ok (.ret .none)) { s with heap:=h',toks:=k }) ->
   codeAny (model prog w) A (.builtin "dict.update.loop" ⟨[.ref d,.ref it,.int i tk,.none],[]⟩) R s:=by
 intro m
 induction m with
 | zero =>
  intro i s tk vs hm hi hp hk hy h1 hl hd hsz q
  refine codeAny_builtin Jo ?_
  rw [Around.under_plainId Ew _]
  show wpAny _ A.in1 (pyNext (.ref it) >>= _) _ _ s
  refine wpAny_bind (wpAny_pyNext_list_end (by exact hh) h1 hl (Array.getElem?_eq_none (by omega)) fun h' kp=>?_)
  show wpAny _ A.in1 (Builtin.Dict.addKeywords d [] >>= _) _ _ _
  refine wpAny_bind (wpAny_pure (wpAny_pure ?_))
  obtain ⟨o,es,ep,ho,r⟩:=hd
  exact q h' s.toks vs ⟨o,es,ep,kp _ _ hdi ho,r⟩ (by rw [List.drop_of_length_le (l:=ys) (by omega),kW]) fun b o b1 _ e=>kp b o b1 e
 | succ m ih =>
  intro i s tk vs hm hi hp hk hy h1 hl hd hsz q
  obtain ⟨x,hx⟩:∃ x,items[i]?=some x:=⟨_,Array.getElem?_eq_getElem (show i<items.size by omega)⟩
  obtain ⟨n,t,y,T,hn,hyi,rfl,hTi,hTd,hT⟩:=hp i x hx
  refine codeAny_builtin Jo ?_
  rw [Around.under_plainId Ew _]
  show wpAny _ A.in1 (pyNext (.ref it) >>= _) _ _ s
  refine wpAny_bind (wpAny_pyNext_list_item h1 hl hx fun h' h1' sb=>?_)
  have kp:∀ b o,b≠it->s.heap.get? b=some o->h'.get? b=some o:=fun b o hb e=>(sb.2 b hb).trans e
  have hd':h'.DictOf (F4 prog w) d vs:=by
   obtain ⟨o,es,ep,ho,r⟩:=hd
   exact ⟨o,es,ep,kp _ _ hdi ho,r⟩
  show wpAny _ A.in1 (holding _ _ >>= _) _ _ _
  refine wpAny_bind (wpAny_holding (wpAny_bind (wpAny_tryCatch (Xj (hT.keep fun o e=>kp _ _ hTi e) ?_))))
  show wpAny _ A.in1 (holding _ (dictSet d (.int n t) y)) _ _ _
  refine wpAny_holding (wpAny_dictSet_pairs (knd:=F4 prog w) (k:=.inl n) (Xi prog w n t) hd' (fun h2 dd' hs=>?_) (by omega))
  have k2:∀ b o,b≠it->b≠d->s.heap.get? b=some o->h2.get? b=some o:=fun b o b1 b4 e=>(hs.2 b b4).trans (kp b o b1 e)
  have hln:=stored_length_le vs (Sum.inl n:Key) y
  refine wpAny_pure ⟨plainId_quiet Ew _,?_⟩
  refine ih (i+1) _ _ _ (by omega) (by omega) (fun j x hx=>?_) hk hy (h1'.at fun o e=>(hs.2 _ hdi.symm).trans e) (hl.at fun o e=>k2 _ o hli hld e) dd' (by omega) fun h3 k vs' hd3 e3 kp3=>?_
  ·obtain ⟨n,t,y,T,a1,a2,a3,a4,a5,a6⟩:=hp j x hx
   exact ⟨n,t,y,T,a1,a2,a3,a4,a5,a6.keep fun o e=>k2 _ _ a4 a5 e⟩
  ·exact q h3 k vs' hd3 (by rw [e3,pJ hn hyi]) fun b o b1 b4 e=>kp3 b o b1 b4 (k2 b o b1 b4 e)
theorem On {s:Shared}{l:Addr}{items:Array Value}{n0:Nat}{ys:List Value}{ks:List Int}{Q:Value->Shared->Prop}(hh:A.handled=none)(hl:s.heap.get? l=some (seqObj "list" items n0))(hk:ks.length=items.size)(hy:ys.length=items.size)(hsz:items.size<=sizeLine)
  (hp:∀ (j:Nat) x,items[j]?=some x->∃ n t y T,ks[j]?=some n/\ys[j]?=some y/\x=Value.ref T/\W8 s.heap T (.int n t) y)
  (q:∀ h' k vs',h'.DictOf (F4 prog w) s.heap.objs.size vs'->vs'=Yd [] ks ys->(∀ b o,s.heap.get? b=some o->h'.get? b=some o)->Q (.ref s.heap.objs.size) { s with heap:=h',toks:=k }) :
  wpAny (model prog w) A (call (.type "dict") [.ref l]) Q E s:=by
 refine callType_codes (Q₁:=fun obj s₁=>obj=.ref s.heap.objs.size/\s₁={ s with heap:=s.heap.push { cls:=.type "dict",data:=.dict #[] } }) PySem.F.kt_called_dict (PySem.F.kt_typeCall_dict_1 _) PySem.F.entry_dict_init (kt_code_dict_new _ ⟨rfl,rfl⟩) ?_
 rintro obj s₁ ⟨rfl,rfl⟩
 have hnew:(s.heap.push { cls:=.type "dict",data:=.dict #[] }).DictOf (F4 prog w) s.heap.objs.size []:=Heap.DictOf.new s.heap
 have up:∀ b o,s.heap.get? b=some o->(s.heap.push { cls:=.type "dict",data:=.dict #[] }).get? b=some o:=fun b o e=>Heap.get?_push_of_some _ e
 have lt:∀ {c o},s.heap.get? c=some o->c≠s.heap.objs.size:=fun e=>Nat.ne_of_lt (Heap.lt_size e)
 refine ⟨hnew.typeIs,PySem.F.args_dict_init_2 _ _,?_⟩
 unfold Builtin.«dict.__init__»
 refine wpAny_bind ?_
 unfold Builtin.Dict.selfAndRest
 refine wpAny_bind (wpAny_notOrdered_dict hnew.typeIs ?_)
 show wpAny _ _ (pure (s.heap.objs.size,[Value.ref l])) _ _ _
 refine wpAny_pure ?_
 show wpAny _ _ (Builtin.Dict.updateFrom "dict.__init__" s.heap.objs.size (.ref l) [] .none) _ _ _
 unfold Builtin.Dict.updateFrom
 have hl':=up _ _ hl
 refine wpAny_bind (wpAny_typeOf (T:="list") ⟨_,hl',rfl⟩ ?_)
 rw [if_pos (by decide)]
 refine wpAny_bind (iL hl' (by exact hh) fun h' tk kp=>?_)
 rw [if_pos (by rfl)]
 have hli:h'.IsList l items:=⟨_,kp _ _ hl',rfl,_,rfl⟩
 refine wpAny_bind (wpAny_rule (wpAny_bind (wpAny_pyIter_list hli ?_)))
 have up2:∀ b o,s.heap.get? b=some o->h'.get? b=some o:=fun b o e=>kp _ _ (up b o e)
 obtain ⟨od,esd,epd,hod,rd⟩:=hnew
 have hd2:=kp _ _ hod
 have nI:∀ {c o},h'.get? c=some o->c≠h'.objs.size:=fun e=>Nat.ne_of_lt (Heap.lt_size e)
 refine wpAny_pure ⟨plainId_quiet Ew _,?_⟩
 refine nQ (ks:=ks) (ys:=ys) (l:=l) (items:=items) (nI hd2) (nI (kp _ _ hl')) (lt hl) (by exact hh) _ 0 _ _ [] rfl (Nat.zero_le _) (fun j x hx=>?_) hk hy ⟨_,Heap.get?_push_size _ rfl,rfl,rfl⟩ ⟨_,Heap.get?_push_of_some _ (kp _ _ hl'),rfl,_,rfl⟩ ⟨od,esd,epd,Heap.get?_push_of_some _ hd2,rd⟩ (by simpa using hsz) fun h3 k vs' hd3 e3 kp3=>?_
 ·obtain ⟨n,t,y,T,a1,a2,a3,a4⟩:=hp j x hx
  exact ⟨n,t,y,T,a1,a2,a3,(by obtain ⟨o,_,e,_⟩:=a4;exact nI (up2 _ _ e)),(by obtain ⟨o,_,e,_⟩:=a4;exact lt e),a4.keep fun o e=>Heap.get?_push_of_some _ (up2 _ _ e)⟩
 ·exact ⟨rfl,q h3 k vs' hd3 (by simpa using e3) fun b o e=>kp3 b o (nI (up2 _ _ e)) (lt e) (Heap.get?_push_of_some _ (up2 _ _ e))⟩
end
def qL (H:Hp)(as:List Addr)(ks:List Int)(ys:List V):Prop:=as.length=ks.length/\as.length=ys.length/\∀ (i:Nat) a k y,as[i]?=some a->ks[i]?=some k->ys[i]?=some y->H a=some (.tup [.int k,y])
def sB:List V->Hp->VK->Prop:=fun xs H Q=>∃ (l:Addr) (as:List Addr) (ks:List Int) (ys:List V),xs=[.ref l]/\H l=some (.lst (as.map V.ref))/\qL H as ks ys/\(Vm [] ks ys).length<=ks.length/\∀ p,H p=none->Q (.ref p) (upd H p (.dK (Vm [] ks ys)))
theorem Tj:∀ {as:List Addr} {us:List Value},A0 (as.map V.ref) us->us=as.map Value.ref
 | [],_,h=>by cases h;rfl
 | a::as,_,h=>by
  cases h with
  | cons h1 h2=>rw [show _=Value.ref a from h1,Tj h2];rfl
theorem eE:∀ {ys:List V} (f:Nat->Value),(∀ (i:Nat) y,ys[i]?=some y->Bc y (f i))->A0 ys ((List.range ys.length).map f)
 | [],_,_=>.nil
 | y::ys,f,h=>by
  rw [List.length_cons,List.range_succ_eq_map,List.map_cons,List.map_map]
  exact .cons (h 0 y rfl) (eE (fun i=>f (i+1)) fun i z e=>h (i+1) z e)
theorem Yw {X:Cx}(hcal:X.calm=true):Dj X (.type "dict") sB:=by
 intro pins s σ H xs us Q I r h
 obtain ⟨l,as,ks,ys,rfl,hl,⟨h1,h2,hp⟩,hml,q⟩:=h
 obtain ⟨u,rfl,ru⟩:=Gg r
 cases ru
 obtain ⟨hz,its,n0,rv,hit⟩:=I.hok l _ hl
 obtain rfl:=Tj rv
 rw [List.length_map] at hz
 have pr:∀ i:Nat,∃ u:Value,∀ a k y,as[i]?=some a->ks[i]?=some k->ys[i]?=some y->Bc y u/\∃ t,W8 s.heap a (.int k t) u:=fun i=>by
  by_cases hi:i<as.length
  ·have e:=hp i _ _ _ (List.getElem?_eq_getElem hi) (List.getElem?_eq_getElem (by omega)) (List.getElem?_eq_getElem (by omega))
   obtain ⟨_,its,rv,o,e1,e2,n,e3⟩:=I.hok _ _ e
   obtain ⟨u1,u2,rfl,r1,r3⟩:=Mc rv
   obtain ⟨t,rfl⟩:=r1
   refine ⟨u2,fun a k y a1 a2 a3=>?_⟩
   rw [List.getElem?_eq_getElem hi] at a1
   rw [List.getElem?_eq_getElem (by omega)] at a2 a3
   cases a1;cases a2;cases a3
   exact ⟨r3,t,o,n,e1,e2,e3⟩
  ·exact ⟨.none,fun a k y a1 _ _=>absurd (List.getElem?_eq_some_iff.mp a1).1 hi⟩
 let f:Nat->Value:=fun i=>(pr i).choose
 have hf:∀ i a k y,as[i]?=some a->ks[i]?=some k->ys[i]?=some y->Bc y (f i)/\∃ t,W8 s.heap a (.int k t) (f i):=fun i=>(pr i).choose_spec
 have hy:A0 ys ((List.range ys.length).map f):=eE f fun i y e=>by
  have hi:=(List.getElem?_eq_some_iff.mp e).1
  exact (hf i _ _ y (List.getElem?_eq_getElem (by omega)) (List.getElem?_eq_getElem (by omega)) e).1
 refine On (ks:=ks) (ys:=(List.range ys.length).map f) (I.ok.hd hcal) hit (by simp;omega) (by simp;omega) (by simpa using hz) (fun j x hx=>?_) fun h' k vs' d2 ev kp=>?_
 ·have hj:j<as.length:=by have:=(Array.getElem?_eq_some_iff.mp hx).1;simpa using this
  have ex:x=Value.ref as[j]:=by
   have:(as.map Value.ref)[j]?=some x:=by simpa using hx
   rw [List.getElem?_map,List.getElem?_eq_getElem hj] at this
   exact (Option.some.inj this).symm
  obtain ⟨_,t,hpr⟩:=hf j _ _ _ (List.getElem?_eq_getElem hj) (List.getElem?_eq_getElem (by omega:j<ks.length)) (List.getElem?_eq_getElem (by omega:j<ys.length))
  exact ⟨_,t,f j,as[j],List.getElem?_eq_getElem (by omega),by rw [List.getElem?_map,List.getElem?_range (by omega)];rfl,ex,hpr⟩
 ·have hk:KV (Vm [] ks ys) vs':=by rw [ev];exact kF .nil hy
  refine ⟨.ref s.heap.objs.size,_,I.laid (o:=.dK (Vm [] ks ys)) (t':=k) kp (Nat.le_refl _) ⟨by omega,?_,vs',hk,d2⟩,rfl,q _ (I.hok.fresh (Nat.le_refl _))⟩
  exact beq_eq_false_iff_ne.mpr (Ne.symm (Nat.ne_of_lt (dG I)))
end L2
end
section
namespace HD
open PySem PySem.W PySem.Calls PyProof.Rows
def G2 (tb:String->Option Builtin)(p:Program)(w:World)(m:Nat)(ann:Option Value):Nat->SharedT->Thread->Option SharedT
 | 0,_,_=>none
 | n+1,s,t=>match through t with
  | true=>some s
  | false=>match stepOk m ann t with
   | false=>none
   | true=>match stepT (denote tb) p w s t with
    | some (s',t')=>G2 tb p w m ann n s' t'
    | none=>none
theorem Tv {tb:String->Option Builtin}{p:Program}{w:World}{m:Nat}{ann:Option Value}:∀ {n:Nat} {s s':SharedT} {t:Thread},G2 tb p w m ann n s t=some s'->topRun tb p w m ann n s.abs t=some s'.abs
 | 0,_,_,_,h=>by cases h
 | n+1,s,s',t,h=>by
  unfold G2 at h
  unfold topRun
  cases he:through t with
  | true=>rw [he] at h;cases h;rfl
  | false =>
   rw [he] at h
   cases hk:stepOk m ann t with
   | false=>rw [hk] at h;cases h
   | true =>
    rw [hk] at h
    cases hs:stepT (denote tb) p w s t with
    | none=>rw [hs] at h;cases h
    | some r=>obtain ⟨s₂,t₂⟩:=r;rw [hs] at h;rw [stepT_spec hs];exact Tv h
def iZ:List Obj->Nat->BT->BT
 | [],_,t=>t
 | o::l,n,t=>iZ l (n+1) (t.ins n o)
noncomputable def Pp (P:Params):BT:=iZ (boot_heap P).objs.toList 0 .nil
def bootSize:Nat:=11
noncomputable def bootT (w:World) (os:OsState):SharedT:=⟨Pp w.params,bootSize,(boot_heap w.params).life,#[],boot_drawn,boot_toks,os⟩
def Zr {α:Type}(Yf:Shared->α)(h0:Heap)(p q:Program)(loose:List Str)(s:Shared) :=
 (staticsOk (importedModules p.main.body) h0 s.heap&&namesBound p s.heap&&gensDone s&&laidKept h0 s.heap,
  openSeen q loose (importedModules p.main.body) (fun _=>true) true s,Yf s)
def bothT {α:Type}(Yf:Shared->α)(s0:SharedT)(h0:Heap)(m:Nat)(p q:Program)(loose:List Str)(M:Nat)(w:World) :=
 (G2 treeTable p w m (some (.ref 6)) M s0 (topStub p)).map fun s=>Zr Yf h0 p q loose s.abs
theorem mL (P:Params):absHeap (Pp P) bootSize (boot_heap P).life=boot_heap P:=by kernel_rfl
theorem fY (P:Params):((boot_heap P).isNs mainGlobals&&(#[]:Array GenState).size==0,(boot_heap P).objs.size,(boot_heap P).nsMap mainGlobals "__annotations__")=(true,bootSize,some (.ref 6)):=by kernel_rfl
theorem pN {p q:Program}{loose:List Str}{α:Type}{Yf:Shared->α}{Ya:World->α}{M N:Nat}(e:opening p=plainProg p.main.scope.names)(f:∀ s,fenceModules? p s=some s)(hN:Nat.ble 600 N=true)(le:Nat.ble M N=true)
  (Sq:∀ w:World,(fun os=>bothT Yf (bootT w os) (boot_heap w.params) bootSize p q loose M w)=fun _=>some (true,openGood q loose,Ya w)) :
  LeftO p q loose (fun _=>true) Yf Ya N:=fun w=>by
 obtain ⟨⟨h,gs,d,k,os⟩,e1,e'⟩:=Option.map_eq_some_iff.mp (boot_open e hN f w)
 obtain ⟨rfl,rfl,rfl,rfl⟩:h=boot_heap w.params/\gs=Array.mk []/\d=boot_drawn/\k=boot_toks:=by simpa using e'
 have b:=congrFun (Sq w) os
 unfold bothT at b
 obtain ⟨s,r,l⟩:=Option.map_eq_some_iff.mp b
 have r2:=Tv r
 have r3:=topRun_mono (N-M) _ _ _ _ r2
 rw [show M+(N-M)=N by have:=Nat.le_of_ble_eq_true le;omega] at r3
 have eb:(bootT w os).abs=⟨boot_heap w.params,Array.mk [],boot_drawn,boot_toks,os⟩:=by
  show Shared.mk (absHeap (Pp w.params) bootSize (boot_heap w.params).life) (Array.mk []) boot_drawn boot_toks os=_
  rw [mL]
 rw [eb] at r3
 obtain ⟨z1,z2,z3⟩:_/\_/\_:=by simpa only [Prod.mk.injEq] using fY w.params
 obtain ⟨l1,l2,l3⟩:_/\_/\_:=by simpa only [Zr,Prod.mk.injEq] using l
 have t:topFrom treeTable p w N ⟨boot_heap w.params,Array.mk [],boot_drawn,boot_toks,os⟩=some s.abs:=by
  unfold topFrom
  dsimp only
  rw [z1,z2,z3,r3]
  show (match staticsOk (importedModules p.main.body) (boot_heap w.params) s.abs.heap&&namesBound p s.abs.heap&&gensDone s.abs&&laidKept (boot_heap w.params) s.abs.heap with | true=>_ | false=>_)=_
  rw [l1]
 unfold openEnds
 rw [e1]
 show (topFrom treeTable p w N _).map _=_
 rw [t]
 exact congrArg some (Prod.ext l2 l3)
def recOf:Stmt->DefRec
 | .FunctionDef n a b _ _ _ sc _ _ pos=>⟨n,a,b,sc,pos⟩
 | _=>⟨"",default,[],default,default⟩
end HD
lay_quick HD.bothT
end
section
namespace L2
open PySem PySem.Spec PyProof.Rows
theorem Te {X:Cx}:vK X (nL X.K):=by
 intro pins s σ H x y v u Q I rx ry h
 obtain ⟨p,xs,i,z,rfl,rfl,hq,he,q⟩:=h
 cases rx
 obtain ⟨t,rfl⟩:=ry
 obtain ⟨its,r,pl,hz⟩:=I.list hq
 obtain ⟨j,h1,h2,h3,h4,h5⟩:=Uh he
 obtain ⟨w,ew,rw'⟩:=r.get h2
 have hl:=r.length
 have hn:=Id
 have fin:EP X pins σ Q w s:=⟨z,H,I,rw',q⟩
 by_cases h0:0<=i
 ·have hj:i.toNat=j:=by
   rw [seqIndex_of h0 h5] at h1
   exact Option.some.inj h1
  exact wpAny_getItem_list pl.isList h0 (by omega) (by rw [hj];simpa using ew) fin
 ·have hj:(i+(its.toArray.size:Int)).toNat=j:=by
   rw [seqIndex_neg (by omega) h4] at h1
   rw [List.size_toArray,<- hl]
   exact Option.some.inj h1
  exact wpAny_getItem_list_neg pl.isList (by omega) (by rw [List.size_toArray]<;>omega) (by omega) (by rw [hj];simpa using ew) fin
section
variable {to ti te:TE} {tget:V->V->Hp->VK->Prop} {tip:TIp} {tset:pE} {D:Hb} {σ:St} {H:Hp}
theorem uD (h:to σ H fun o H1=>ti σ H1 fun i H2=>tget o i H2 fun x H3=>te σ H3 fun y H4=>tip x y H4 fun z H5=>tset o i z H5 fun H6=>D.nx σ H6):rC to ti te tget tip tset D σ H:=h
end
open Builtin.Str (occurrences partsBetween)
section
variable {X:Cx}
def oI:V->List V->Hp->VK->Prop:=fun x vs H Q=>∃ z y,x=.str z/\vs=[.str y]/\(y.length==0)=false/\z.length<=100000/\∀ D,H D=none->Q (.ref D) (upd H D (.lst ((Txt.split z y).map V.str)))
theorem fK:MtM X "str.split" oI:=by
 intro pins s σ H x vs v us Q I rx rv h
 obtain ⟨z,y,rfl,rfl,hy,hz,q⟩:=h
 obtain ⟨t,rfl⟩:=rx
 obtain ⟨u,rfl,ru⟩:=rv.one
 obtain ⟨t',rfl⟩:=ru
 have sl:200000<=sizeLine:=by decide
 have fin:∀ (l:List (Str×Tok)) (n tk:Nat),l.map (·.1)=Txt.split z y->EP X pins σ Q (.ref s.heap.objs.size) { s with heap:=s.heap.push { cls:=.type "list",data:=.seq (strValues l).toArray n },toks:=tk }:=fun l n tk e=>by
  have hl:=len_le_of_split e
  refine ⟨.ref s.heap.objs.size,upd H s.heap.objs.size (.lst ((l.map (·.1)).map V.str)),I.laid (fun b o w=>Heap.get?_push_of_some _ w) (Nat.le_refl _) ⟨?_,strValues l,n,iD l,Heap.get?_push_size _ rfl⟩,rfl,e▸q _ (I.hok.fresh (Nat.le_refl _))⟩
  rw [List.length_map,List.length_map]
  omega
 cases h1:(decide (z.length<y.length)||decide (Builtin.Str.strKind z<Builtin.Str.strKind y))
 ·cases hf:(occurrences z y 0 z.length (z.length+1)).isEmpty
  ·have hp:(partsBetween z (occurrences z y 0 z.length (z.length+1)) y.length).length<=sizeLine:=by
    rw [len_partsBetween]
    have:=StrLaws.occ_length_le z y 0 z.length (z.length+1)
    omega
   refine call_meets F.slot_str_split (typeIs_str _ _ _) F.entry_str_split (F.args_str_split_2 _ _) (meets_str_split_sep z y t t' h1 hy hf (by omega) hp) ?_
   show wants _ _ _ { s with toks:=_,heap:=s.heap.push { cls:=.type "list",data:=.seq (strsFrom s.toks (partsBetween z (occurrences z y 0 z.length (z.length+1)) y.length)).toArray } }
   rw [strsFrom_eq]
   exact fin (numbered s.toks _) _ _ ((numbered_texts _ _).trans ((if_neg (ne_true_of_eq_false h1)).trans (if_neg (ne_true_of_eq_false hf))).symm)
  ·exact call_meets F.slot_str_split (typeIs_str _ _ _) F.entry_str_split (F.args_str_split_2 _ _) (meets_str_split_not_found z y t t' h1 hy hf) (fin [(z,t)] _ _ ((if_neg (ne_true_of_eq_false h1)).trans (if_pos hf)).symm)
 ·exact call_meets F.slot_str_split (typeIs_str _ _ _) F.entry_str_split (F.args_str_split_2 _ _) (meets_str_split_cannot_occur z y t t' h1) (fin [(z,t)] _ _ (if_pos h1).symm)
end
end L2
end
section
namespace TW
open PySem PySem.StrLaws PySem.Builtin.Str
theorem Vh (x:Str)(c:Nat):∀ (m a:Nat) (st:Array Nat×Nat),st.2<=a->st.1.size<=a->a+m<=x.length+1 ->
  (forIn (List.range' a m) st (occBody x ⟨#[c]⟩ x.length (x.length+1))).run.fst.toList=st.1.toList++(List.range' a m).filter fun i=>x.cps.toList[i]?==some c
 | 0,a,st,_,_,_=>by
  rw [List.range'_zero,List.filter_nil,List.append_nil]
  rfl
 | m+1,a,st,h1,h2,h3=>by
  rw [List.range'_succ,List.forIn_cons]
  unfold occBody
  by_cases hc:x.cps.toList[a]?=some c
  ·have hs:=(subAt_one x c a).mpr hc
   rw [if_pos ⟨⟨⟨by omega,h1⟩,hs.1⟩,hs.2⟩]
   have ih:=Vh x c m (a+1) (st.1.push a,a+1) (Nat.le_refl _) (by simp;omega) (by omega)
   refine Eq.trans ih ?_
   rw [List.filter_cons_of_pos (by simp [hc])]
   simp
  ·rw [if_neg (fun h=>hc ((subAt_one x c a).mp ⟨h.1.2,h.2⟩))]
   have ih:=Vh x c m (a+1) st (by omega) (by omega) (by omega)
   refine Eq.trans ih ?_
   rw [List.filter_cons_of_neg (by simpa using hc)]
theorem oK (x:Str)(c:Nat):occurrences x ⟨#[c]⟩ 0 x.length (x.length+1)=(List.range' 0 (x.length+1)).filter fun i=>x.cps.toList[i]?==some c:=by
 rw [occ_eq]
 exact Vh x c (x.length+1) 0 (#[],0) (Nat.le_refl _) (Nat.le_refl _) (by omega)
def grC (ns:List Nat):List Nat:=(ns.map fun n=>List.replicate n 49++[48]).flatten
def Zk:Nat->List Nat->List Nat
 | _,[]=>[]
 | a,n::r=>(a+n)::Zk (a+n+1) r
theorem Yr (L:List Nat):∀ (n a:Nat),(∀ i,a<=i->i<a+n->L[i]?=some 49)->(List.range' a n).filter (fun i=>L[i]?==some 48)=[]
 | 0,_,_=>rfl
 | n+1,a,h=>by
  rw [List.range'_succ,List.filter_cons_of_neg (by rw [h a (Nat.le_refl _) (by omega)];simp)]
  exact Yr L n (a+1) fun i h1 h2=>h i (by omega) (by omega)
theorem Xb:∀ (ns pre:List Nat),(List.range' pre.length ((grC ns).length+1)).filter (fun i=>(pre++grC ns)[i]?==some 48)=Zk pre.length ns
 | [],pre=>by
  show (List.range' pre.length 1).filter _=[]
  rw [show List.range' pre.length 1=[pre.length] from rfl,List.filter_cons_of_neg]
  ·rfl
  ·rw [List.getElem?_eq_none (by simp [grC])]
   simp
 | n::r,pre=>by
  have e:grC (n::r)=List.replicate n 49++(48::grC r):=by
   show List.replicate n 49++[48]++grC r=_
   rw [List.append_assoc]
   rfl
  have el:(grC (n::r)).length+1=n+(1+((grC r).length+1)):=by rw [e];simp;omega
  rw [el,<- List.range'_append_1,List.filter_append,<- List.range'_append_1,List.filter_append]
  have h1:∀ i,pre.length<=i->i<pre.length+n->(pre++grC (n::r))[i]?=some 49:=fun i h1 h2=>by
   rw [e,List.getElem?_append_right h1,List.getElem?_append_left (by simp;omega),List.getElem?_replicate,if_pos (by omega)]
  rw [Yr _ n _ h1,List.nil_append]
  have h2:(pre++grC (n::r))[pre.length+n]?=some 48:=by
   rw [e,List.getElem?_append_right (by omega),List.getElem?_append_right (by simp)]
   simp
  rw [show List.range' (pre.length+n) 1=[pre.length+n] from rfl,List.filter_cons_of_pos (by rw [h2];rfl)]
  have ih:=Xb r (pre++List.replicate n 49++[48])
  have el2:(pre++List.replicate n 49++[48]).length=pre.length+n+1:=by simp;omega
  have el3:pre++List.replicate n 49++[48]++grC r=pre++grC (n::r):=by rw [e];simp
  rw [el2,el3] at ih
  show (pre.length+n)::(List.filter _ [])++_=_
  rw [List.filter_nil]
  show (pre.length+n)::List.filter _ _=(pre.length+n)::Zk (pre.length+n+1) r
  rw [ih]
theorem R4:∀ (ns pre:List Nat) (x:Str),x.cps.toList=pre++grC ns->partsFrom x 1 pre.length (Zk pre.length ns)=(ns.map fun n=>(⟨(List.replicate n 49).toArray⟩:Str))++[⟨#[]⟩]
 | [],pre,x,h=>by
  show [strSub x pre.length x.length]=[_]
  congr 1
  apply Str.ext'
  apply Array.toList_inj.mp
  rw [strSub_toList,h]
  simp [grC]
 | n::r,pre,x,h=>by
  have e:grC (n::r)=List.replicate n 49++(48::grC r):=by
   show List.replicate n 49++[48]++grC r=_
   rw [List.append_assoc]
   rfl
  have ih:=R4 r (pre++List.replicate n 49++[48]) x (by rw [h,e];simp)
  have el2:(pre++List.replicate n 49++[48]).length=pre.length+n+1:=by simp;omega
  rw [el2] at ih
  show strSub x pre.length (pre.length+n)::partsFrom x 1 (pre.length+n+1) (Zk (pre.length+n+1) r)=(⟨(List.replicate n 49).toArray⟩:Str)::((r.map fun n=>(⟨(List.replicate n 49).toArray⟩:Str))++[⟨#[]⟩])
  rw [ih]
  congr 1
  apply Str.ext'
  apply Array.toList_inj.mp
  rw [strSub_toList,h,e]
  simp
theorem Uf (ns:List Nat):Txt.split (⟨(grC ns).toArray⟩:Str) ⟨#[48]⟩=(ns.map fun n=>(⟨(List.replicate n 49).toArray⟩:Str))++[⟨#[]⟩]:=by
 have p:=R4 ns [] ⟨(grC ns).toArray⟩ (by simp)
 have f:=Xb ns []
 have o:=oK ⟨(grC ns).toArray⟩ 48
 rw [show (⟨(grC ns).toArray⟩:Str).length=(grC ns).length from by simp [Str.length]] at o
 have o2:occurrences (⟨(grC ns).toArray⟩:Str) ⟨#[48]⟩ 0 (grC ns).length ((grC ns).length+1)=Zk 0 ns:=by
  rw [o]
  exact f
 cases ns with
 | nil=>rfl
 | cons n r =>
  have hl:(⟨(grC (n::r)).toArray⟩:Str).length=(grC (n::r)).length:=by simp [Str.length]
  have h1:1<=(grC (n::r)).length:=by
   show 1<=(List.replicate n 49++[48]++grC r).length
   simp
   omega
  have k1:∀ x:Str,1<=PySem.Builtin.Str.strKind x:=fun x=>by unfold PySem.Builtin.Str.strKind;split;omega;split<;>omega
  unfold Txt.split
  rw [if_neg,hl,o2,if_neg,partsBetween_eq]
  ·exact p
  ·simp [Zk]
  ·rw [hl]
   have:=k1 ⟨(grC (n::r)).toArray⟩
   have e2:PySem.Builtin.Str.strKind (⟨#[48]⟩:Str)=1:=by simp [PySem.Builtin.Str.strKind]
   rw [e2]
   simp
   have e3:(⟨#[48]⟩:Str).length=1:=rfl
   omega
end TW
end
section
namespace TW
def Gd:Nat->List Nat->Prop
 | h,[]=>h=0
 | h,n::r=>0<h/\Gd (h+n-1) r
end TW
namespace TW
end TW
end
section
namespace TW
theorem kX {ds:List Nat}(h:Dok ds){k:Nat}(hk:k<ds.length):eld ds k<k:=by
 by_cases e:eld ds k=-1
 ·omega
 ·obtain ⟨v,e1,e2,_⟩:=Hs h hk e
  omega
def C7 (ds:List Nat)(k:Nat)(v:Int):List Nat:=(List.range k).filter fun j=>decide (eld ds j=v)
theorem eQ (ds:List Nat)(k:Nat)(v:Int):(C7 ds k v).length<=k:=by
 unfold C7
 exact Nat.le_trans (List.length_filter_le ..) (by rw [List.length_range];exact Nat.le_refl _)
theorem jO {ds:List Nat}{k:Nat}{v:Int}(h:eld ds k=v):C7 ds (k+1) v=C7 ds k v++[k]:=by
 unfold C7
 rw [List.range_succ,List.filter_append,List.filter_cons_of_pos (by simpa using h)]
 rfl
theorem oQ {ds:List Nat}{k:Nat}{v:Int}(h:eld ds k≠v):C7 ds (k+1) v=C7 ds k v:=by
 unfold C7
 rw [List.range_succ,List.filter_append,List.filter_cons_of_neg (by simpa using h)]
 simp
end TW
namespace TW
def gsC (ds:List Nat):List Nat:=(C7 ds ds.length (-1)).length::(List.range ds.length).map fun v:Nat=>(C7 ds ds.length v).length
end TW
namespace TW
theorem Ir (ds:List Nat):(gsC ds).length=ds.length+1:=by unfold gsC;rw [List.length_cons,List.length_map,List.length_range]
theorem Y4 {ds:List Nat}{k:Nat}(hk:k<ds.length):(gsC ds)[k+1]?=some (C7 ds ds.length k).length:=by
 unfold gsC
 rw [List.getElem?_cons_succ,List.getElem?_map,List.getElem?_range hk]
 rfl
def Jj (ds:List Nat)(k:Nat)(v:Int):Nat:=((List.range ds.length).filter fun j=>decide (k<=j)&&decide (eld ds j=v)).length
theorem Tx {ds:List Nat}{k:Nat}(hk:k<ds.length)(v:Int):Jj ds k v=Jj ds (k+1) v+if eld ds k=v then 1 else 0:=by
 have hs:List.range ds.length=List.range k++(k::(List.range (ds.length-k-1)).map (k+1 + ·)):=by
  rw [show ds.length=k+(1+(ds.length-k-1)) by omega,List.range_add,List.range_add]
  simp [List.map_map,Function.comp_def,Nat.add_assoc]
 unfold Jj
 rw [hs,List.filter_append,List.filter_append,List.length_append,List.length_append]
 have n1:(List.range k).filter (fun j=>decide (k<=j)&&decide (eld ds j=v))=[]:=List.filter_eq_nil_iff.mpr fun j hj=>by
  have:=List.mem_range.mp hj
  simp
  omega
 have n2:(List.range k).filter (fun j=>decide (k+1<=j)&&decide (eld ds j=v))=[]:=List.filter_eq_nil_iff.mpr fun j hj=>by
  have:=List.mem_range.mp hj
  simp
  omega
 have n3:((List.range (ds.length-k-1)).map (k+1 + ·)).filter (fun j=>decide (k<=j)&&decide (eld ds j=v))=((List.range (ds.length-k-1)).map (k+1 + ·)).filter (fun j=>decide (k+1<=j)&&decide (eld ds j=v)):=List.filter_congr fun j hj=>by
  obtain ⟨i,hi,rfl⟩:=List.mem_map.mp hj
  rw [decide_eq_true (show k<=k+1+i by omega),decide_eq_true (show k+1<=k+1+i by omega)]
 rw [n1,n2,List.filter_cons_of_neg (p:=fun j=>decide (k+1<=j)&&decide (eld ds j=v)) (by simp;omega)]
 by_cases e:eld ds k=v
 ·rw [List.filter_cons_of_pos (by simp [e]),n3,if_pos e,List.length_cons]
  omega
 ·rw [List.filter_cons_of_neg (by simp [e]),n3,if_neg e]
  omega
theorem hU {ds:List Nat}(h:Dok ds)(k:Nat):Jj ds (k+1) k=(C7 ds ds.length k).length:=by
 unfold Jj C7
 congr 1
 refine List.filter_congr fun j hj=>?_
 have hj:=List.mem_range.mp hj
 have hl:=kX h hj
 rw [Bool.eq_iff_iff]
 simp only [Bool.and_eq_true,decide_eq_true_eq]
 omega
theorem gF {ds:List Nat}(v:Int):Jj ds 0 v=(C7 ds ds.length v).length:=by
 unfold Jj C7
 congr 1
theorem eI {ds:List Nat}(h:Dok ds){k:Nat}(hk:k<ds.length):∀ j,k<j->j<=ds.length->∀ (p:Nat) (x:Int),(way ds j)[p]?=some x->x<k->p<=dAt ds k/\(way ds k)[p]?=some x
 | 0,hj,_,_,_,_,_=>by cases hj
 | j+1,hj,hl,p,x,e,hx=>by
  have e:((way ds j).take (dAt ds j+1)++[(j:Int)])[p]?=some x:=e
  have hwl:=Cu h j (by omega)
  have hd:=h j (by omega)
  have hl2:((way ds j).take (dAt ds j+1)).length=dAt ds j+1:=by rw [List.length_take];omega
  by_cases hp:p<dAt ds j+1
  ·rw [List.getElem?_append_left (by omega),List.getElem?_take_of_lt hp] at e
   by_cases ej:j=k
   ·subst ej
    exact ⟨by omega,e⟩
   ·exact eI h hk j (by omega) (by omega) p x e hx
  ·rw [List.getElem?_append_right (by omega),hl2] at e
   have e0:p-(dAt ds j+1)=0:=by
    have:=(List.getElem?_eq_some_iff.mp e).1
    simp only [List.length_cons,List.length_nil] at this
    omega
   rw [e0] at e
   have e:=Option.some.inj e
   omega
theorem kE {ds:List Nat}(h:Dok ds){k p:Nat}{x:Int}(hk:k<ds.length)(e:(way ds k)[p]?=some x)(hp:dAt ds k<p):Jj ds k x=0:=by
 unfold Jj
 rw [List.length_eq_zero_iff,List.filter_eq_nil_iff]
 intro j hj
 have hj:=List.mem_range.mp hj
 simp only [Bool.and_eq_true,decide_eq_true_eq]
 rintro ⟨h1,h2⟩
 have ej:=Jy h hj
 rw [h2] at ej
 have hxk:x<k:=by
  cases p with
  | zero=>cases hp
  | succ p =>
   obtain ⟨v,v1,v2,_⟩:=Le h k p x (by omega) e
   omega
 have e2:(way ds k)[dAt ds j]?=some x/\dAt ds j<=dAt ds k:=by
  by_cases ejk:j=k
  ·subst ejk
   exact ⟨ej,Nat.le_refl _⟩
  ·obtain ⟨a,b⟩:=eI h hk j (by omega) (by omega) _ x ej hxk
   exact ⟨b,a⟩
 have:=Lj h k (dAt ds j) p x x (by omega) (by omega) e2.1 e
 omega
end TW
namespace TW
end TW
namespace TW
end TW
end
section
namespace L2
open PySem PySem.Spec PyProof.Rows
theorem oT {K:PySem.W.Frag}{J:It}{H1:Hp}{fr:St}{tc:TT}{te:TE}{Q:VK}(n:Nat)(f1 f2:Nat->V)(Pv:Addr->Nat->List V->Hp->Prop)(h0:∀ D H,H1 D=none->Ak H1 H->Pv D 0 [] H)
  (stab:∀ D i ys H xs o,H D=some (.lst xs)->Pv D i ys H->Pv D i ys (upd H D o))(hz:∀ D i ys H,i<n->Pv D i ys H->ys.length<sizeLine)(psame:∀ D i ys H H',Ak H H'->Pv D i ys H->Pv D i ys H')
  (hgo:∀ i H,i<n->Ak H1 H->J.go i H)(hy:∀ i H v H',i<n->Ak H1 H->J.yld i H v H'->∃ a,v=.ref a/\SqT K H' a [f1 i,f2 i]/\Ak H H')(hst:∀ H,Ak H1 H->J.stop n H)
  (turn:∀ D i ys H (A:VK) (R:Hp->Prop),i<n->Ak H1 H->H1 D=none->H D=some (.lst ys)->Pv D i ys H->(∀ y H',Ak H H'->Pv D (i+1) (ys++[y]) H'->A y H') ->
   tc (some (f1 i)::some (f2 i)::fr) H fun b H3=>if b=true then te (some (f1 i)::some (f2 i)::fr) H3 A else R H3)
  (fin:∀ D ys H,H1 D=none->Ak H1 H->Pv D n ys H->H D=some (.lst ys)->Q (.ref D) H):Rc K J H1 fr tc te Q:=by
 intro D hD
 refine ⟨fun i m H=>i<=n/\m=n-i/\Ak H1 H/\∃ ys,H D=some (.lst ys)/\Pv D i ys H,⟨n,Nat.zero_le _,rfl,Ah hD,[],Ac,h0 D _ hD (Ah hD)⟩,?_⟩
 rintro i m H ⟨hi,rfl,sm,ys,hl,hp⟩
 by_cases h:i=n
 ·subst h
  exact .inl ⟨hst H sm,fin D ys H hD sm hp hl⟩
 ·have hlt:i<n:=Nat.lt_of_le_of_ne hi h
  refine .inr ⟨hgo i H hlt sm,fun v H' hyl=>?_⟩
  obtain ⟨a,rfl,ht,s2⟩:=hy i H v H' hlt sm hyl
  refine ⟨a,_,_,rfl,ht,turn D i ys H' _ _ hlt (sm.trans s2) hD (s2 _ _ hl) (psame _ _ _ _ _ s2 hp) (fun y H4 s4 hp4=>?_)⟩
  refine ⟨ys,s4 _ _ (s2 _ _ hl),hz D i ys _ hlt hp,n-(i+1),by omega,by omega,rfl,fun b u e=>?_,ys++[y],Ac,stab _ _ _ _ _ _ (s4 _ _ (s2 _ _ hl)) hp4⟩
  rw [Al (Aq e hD)]
  exact s4 _ _ (s2 _ _ (sm _ _ e))
theorem dJ {K:PySem.W.Frag}{a b:Addr}{xs ys:List V}{H1:Hp}{fr:St}{tc:TT}{te:TE}{Q:VK}(ha:SqL K H1 a xs)(hb:SqL K H1 b ys)(Pv:Addr->Nat->List V->Hp->Prop)(h0:∀ D H,H1 D=none->Ak H1 H->Pv D 0 [] H)
  (stab:∀ D i zs H us o,H D=some (.lst us)->Pv D i zs H->Pv D i zs (upd H D o))(hz:∀ D i zs H,i<min xs.length ys.length->Pv D i zs H->zs.length<sizeLine)(psame:∀ D i zs H H',Ak H H'->Pv D i zs H->Pv D i zs H')
  (turn:∀ D (i:Nat) zs x y H (A:VK) (R:Hp->Prop),xs[i]?=some x->ys[i]?=some y->Ak H1 H->H1 D=none->H D=some (.lst zs)->Pv D i zs H->(∀ y H',Ak H H'->Pv D (i+1) (zs++[y]) H'->A y H') ->
   tc (some x::some y::fr) H fun b H3=>if b=true then te (some x::some y::fr) H3 A else R H3)
  (fin:∀ D zs H,H1 D=none->Ak H1 H->Pv D (min xs.length ys.length) zs H->H D=some (.lst zs)->Q (.ref D) H):Rc K (Itz K a b) H1 fr tc te Q:=by
 refine oT (min xs.length ys.length) (fun i=>xs.getD i .non) (fun i=>ys.getD i .non) Pv h0 stab hz psame (fun i H hi sm=>⟨xs,ys,xs[i]'(by omega),ys[i]'(by omega),sm.seq ha,sm.seq hb,by simp,by simp⟩) (fun i H v H' hi sm h=>?_)
  (fun H sm=>⟨xs,ys,sm.seq ha,sm.seq hb,rfl⟩) (fun D i zs H A R hi sm=>turn D i zs _ _ H A R (by simp [show i<xs.length by omega]) (by simp [show i<ys.length by omega]) sm) fin
 obtain ⟨t,x,y,hn,rfl,h1,h2,rfl⟩:=h
 have e1:=h1 xs (sm.seq ha)
 have e2:=h2 ys (sm.seq hb)
 refine ⟨t,rfl,?_,Ah hn⟩
 simp only [List.getD,e1,e2,Option.getD_some]
 exact SqT.of Ac
section
variable {X:Cx}
def jR (ta:TA):TE:=fun σ H Q=>ta σ H fun vs H1=>∃ j k:Nat,vs=[.int 0,.int j,.int k]/\j<=100000/\0<k/\k<=100000/\∀ p,H1 p=none->Q (.ref p) (upd H1 p (.lst ((List.range ((j+k-1)/k)).map fun t:Nat=>V.int (t*k:Nat))))
theorem Zg {a b c:Expr}{ta:TA}{p q pos pos2:Pos}(hcal:X.calm=true)(hg:Gl X "list")(hm:X.mg "list"=none)(hg2:Gl X "range")(hm2:X.mg "range"=none)(ha:PA X [a,b,c] ta)
  (hs:starEach [a,b,c] X.env=[(false,eval a X.env),(false,eval b X.env),(false,eval c X.env)]:=by rfl)(hs2:starEach [b,c] X.env=[(false,eval b X.env),(false,eval c X.env)]:=by rfl)
  (hs3:starEach [Expr.Call (.Name "range" q) [a,b,c] [] pos2] X.env=[(false,eval (.Call (.Name "range" q) [a,b,c] [] pos2) X.env)]:=by rfl) :
  PE X (.Call (.Name "list" p) [.Call (.Name "range" q) [a,b,c] [] pos2] [] pos) (jR ta):=by
 intro pins s σ H Q I h
 refine wpAny_Call_Name_kw (G7 I hg hm Rq (PyProof.Rows.callWith_type1 ?_ hs3 rfl) (by decide) (by decide))
 rw [hs3]
 refine Calls.spliced_cons ?_
 show wpAny _ _ (eval (Expr.Call (.Name "range" q) [a,b,c] [] pos2) X.env) _ _ _
 refine wpAny_Call_Name_kw (G7 I hg2 hm2 boot_range (PyProof.Rows.callWith_type1 (thn (ha pos2 pins s σ H _ I h) fun us s1 ⟨vs,H1,I1,r1,q1⟩=>?_) (by rw [hs,hs2]) (by rw [hs2];rfl)) (by decide) (by decide))
 obtain ⟨j,k,e,hj,hk,hk2,q⟩:=q1
 subst e
 cases r1 with
 | cons r rr =>
  cases rr with
  | cons r' rr =>
   cases rr with
   | cons r'' rr =>
    cases rr
    obtain ⟨t,rfl⟩:=r
    obtain ⟨t',rfl⟩:=r'
    obtain ⟨t'',rfl⟩:=r''
    refine call_range_3 (by omega) (Calls.spliced_nil ?_) (.inl (PyProof.noPylong_small (by omega)))
    have e2:Builtin.Range.rangeSize (0:Int) (j:Int) (k:Int)=(((j+k-1)/k:Nat):Int):=by
     unfold Builtin.Range.rangeSize
     rw [if_pos (by omega)]
     by_cases hj0:j=0
     ·subst hj0
      rw [if_neg (by omega),Nat.div_eq_of_lt (by omega)]
      rfl
     ·rw [if_pos (by omega),show ((j:Int)-0-1)=((j-1:Nat):Int) by omega,<- Int.natCast_ediv,show j+k-1=j-1+k by omega,Nat.add_div_right _ hk]
      rfl
    have hn:(j+k-1)/k<=j:=by
     by_cases hj0:j=0
     ·subst hj0
      rw [Nat.div_eq_of_lt (by omega)]
      exact Nat.le_refl _
     ·rw [show j+k-1=j-1+k by omega,Nat.add_div_right _ hk]
      have:=Nat.div_le_self (j-1) k
      omega
    generalize (j+k-1)/k=m at *
    have hsm:Builtin.Range.small (0:Int) (j:Int) (k:Int)=true:=by
     unfold Builtin.Range.small
     rw [e2,if_pos (by omega)]
     simp only [Builtin.Range.rangeFitsLong,Bool.and_eq_true,Bool.or_eq_true,decide_eq_true_eq,beq_iff_eq]
     refine ⟨⟨⟨⟨?_,?_⟩,?_⟩,?_⟩,.inr ?_⟩<;>omega
    refine call_list_range (I1.ok.hd hcal) (IsRange.new ..) hsm e2 (by omega) fun h' tk acc c kp ho it=>?_
    have hv:A0 ((List.range (m)).map fun t:Nat=>V.int (t*k:Nat)) acc.toList:=P5 (by rw [List.length_map,List.length_range,Array.length_toList,it.1]) fun i x u e1 e3=>by
     have hi:i<m:=by have:=(List.getElem?_eq_some_iff.mp e1).1;simpa using this
     rw [List.getElem?_map,List.getElem?_range hi] at e1
     cases e1
     have e4:acc[i]?=some u:=by rw [<- Array.getElem?_toList];exact e3
     obtain ⟨t,e5⟩:=it.2 i u e4
     exact ⟨t,by rw [e5,show (0:Int)+(i:Int)*(k:Int)=((i*k:Nat):Int) by rw [Int.zero_add,Int.natCast_mul]]⟩
    have up:∀ b o,s1.heap.get? b=some o->h'.get? b=some o:=fun b o e=>kp _ _ (Heap.get?_push_of_some _ e)
    have hle:s1.heap.objs.size<=(s1.heap.push { cls:=.type "range",data:=.fields #[.int 0 t,.int j t',.int k t''] }).objs.size:=by rw [Heap.size_push];omega
    refine ⟨.ref _,_,I1.laid (t':=tk) (o:=.lst _) up hle ⟨?_,acc.toList,c,hv,ho⟩,rfl,q _ (I1.hok.fresh hle)⟩
    rw [List.length_map,List.length_range]
    exact Nat.le_of_lt (Nat.lt_of_le_of_lt (show m<=100000 by omega) (by decide))
theorem pQ {σ:St}{H:Hp}{Q:VK}{ta:TA}(h:ta σ H fun vs H1=>∃ j k:Nat,vs=[.int 0,.int j,.int k]/\j<=100000/\0<k/\k<=100000/\∀ p,H1 p=none->Q (.ref p) (upd H1 p (.lst ((List.range ((j+k-1)/k)).map fun t:Nat=>V.int (t*k:Nat))))):jR ta σ H Q:=h
end
section
variable {X:Cx}
theorem Pi (K:PySem.W.Frag){X:Cx}(hc:X.calm=true)(h:X.K=K:=by rfl):Dj X (.builtin "min") (qK K):=by
 subst h
 exact S3 hc
theorem cQ (K:PySem.W.Frag){X:Cx}(hc:X.calm=true)(h:X.K=K:=by rfl):Dj X (.builtin "max") (rJ K):=by
 subst h
 exact gT hc
theorem cC (K:PySem.W.Frag){X:Cx}{T name id:String}{r:V->List V->Hp->VK->Prop}{o e:Expr}{es:List Expr}{to:TE}{t:TA}{apos cpos:Pos}(pa:PlainAttrs T)(slot:Slot T name id)(hty:typeOf (.builtin id)=pure (.type "method_descriptor"))(hm:MtR X id r)(ho:PE X o to)(ha:PA X (e::es) t)(h:X.K=K:=by rfl)
  (hbase:attributeBase o name X.env (eval o X.env)=eval o X.env:=by rfl)
  (hfew:((backTo cpos (starEach (e::es) X.env)).all (fun x=>!x.1)&&(backToKw cpos (keywordEach [] X.env)).all (fun x=>x.1.isSome)
   && decide ((e::es).length+([]:List Keyword).length+(if ([]:List Keyword).isEmpty then 0 else 1)<30))=true:=by rfl)
  (hline:(apos.endLine==cpos.line)=true:=by rfl)(hs:starEach (e::es) X.env=(false,eval e X.env)::starEach es X.env:=by rfl)(hplain:(backTo cpos (starEach es X.env)).any (·.1)=false:=by rfl) :
  PE X (.Call (.Attribute o name apos) (e::es) [] cpos) (tBM K T r to t):=by
 subst h
 exact Ey pa slot hty hm ho ha hbase hfew hline hs hplain
end
theorem iG {K:PySem.W.Frag}{a:Addr}{xs:List V}{H1:Hp}{fr:St}{tc:TT}{te:TE}{Q:VK}(hl:SqL K H1 a xs)(Pv:Nat->List V->Hp->Prop)(h0:∀ H,Ak H1 H->Pv 0 [] H)
  (stab:∀ i ys H D zs o,H D=some (.lst zs)->Pv i ys H->Pv i ys (upd H D o))(hz:∀ i ys H,i<xs.length->Pv i ys H->ys.length<sizeLine)
  (turn:∀ (i:Nat) ys x H (A:VK) (R:Hp->Prop),xs[i]?=some x->Ak H1 H->Pv i ys H->(∀ y H',Ak H H'->Pv (i+1) (ys++[y]) H'->A y H')->tc (some x::fr) H fun b H3=>if b=true then te (some x::fr) H3 A else R H3)
  (fin:∀ D ys H,H1 D=none->Ak H1 H->Pv xs.length ys H->H D=some (.lst ys)->Q (.ref D) H):Ry (Itl K a) H1 fr tc te Q:=by
 refine lH xs.length (fun i=>xs.getD i .non) Pv h0 stab hz (fun i H hi sm=>⟨xs,xs[i],sm.seq hl,by simp [hi]⟩) (fun i H x H' hi sm h=>⟨?_,h.1⟩) (fun H sm=>⟨xs,sm.seq hl,Nat.le_refl _⟩) (fun i ys H A R hi sm=>turn i ys _ H A R (by simp [hi]) sm) fin
 have:=h.2 xs (sm.seq hl)
 simp [List.getD,this]
open PySem.W
structure rM (P:Program) (w:World) (K:PySem.W.Frag) (mg:Str->Option Value) (base:Heap) (x m:Str) (k:Nat) (ps:List Str) (sp:Sp):Prop where
 ex:∃ (W f:Addr) (fd:FuncData),Ax P w K mg base CX0 k f fd ps sp/\Dk K fd ps []/\mg x=some (.ref W)/\specialIn K (.ref W) "__getattribute__"=some (some (.builtin "type.__getattribute__")) /\
  readsIn K W (.type "type")=true/\findCls K (.ref W) (.type "type") m=some (.val (.ref f))/\keepIn K (.ref f)=true
section
variable {X:Cx} {x m:Str} {k:Nat} {ps:List Str} {sp:Sp} {np apos pos:Pos} {e:Expr} {es:List Expr} {t:TA} {pl:Sem Bool}
theorem wH (M:rM X.prog X.w X.K X.mg X.base x m k ps sp)(hr:B2 k X.A)(hg:Gl X x)(ha:PA X (e::es) t)(hdb:(x==("__debug__":Str))=false:=by decide)
  (hst:starEach (e::es) X.env=(false,eval e X.env)::starEach es X.env:=by rfl)(hpl:(backTo pos (starEach es X.env)).any (·.1)=false:=by rfl)
  (ht:eval (.Call (.Attribute (.Name x np) m apos) (e::es) [] pos) X.env=(do
   let ov <- eval (.Name x np) X.env
   standAt apos.atName
   let (f,first) <- holding [ov] (getMethod ov m pl)
   callWith pos f first (backTo pos (starEach (e::es) X.env)) (backToKw pos (keywordEach [] X.env))):=by rfl) :
  PE X (.Call (.Attribute (.Name x np) m apos) (e::es) [] pos) (T5 sp [] E0 t):=by
 obtain ⟨W,f,fd,F,hb,hm,ga,rd,ini,kp⟩:=M.ex
 intro pins s σ H Q I h
 refine methodCall_KW (Ei I hg hm ?_ hdb) ht
 refine method_cls I.kIn ga (cls_value I.kIn rd ini rfl ?_)
 refine callWith_K (h₀:=X.base) I.ok.mod.kin kp (thn (ha pos pins _ σ H _ (I.tok (s.toks+1)) h) fun us s1 ⟨vs,H1,I1,r,q⟩=>⟨I1.kIn,?_⟩) hst hpl
 exact Vn F hr hb .nil Xn I1 r q
end
theorem kD {K:PySem.W.Frag}{J:It}{H1:Hp}{fr:St}{tc:TT}{te:TE}{Q:VK}(n:Nat)(f1 f2:Nat->V)(Pv:Addr->Nat->List V->Hp->Prop)(h0:∀ D H,H1 D=none->Ak H1 H->Pv D 0 [] H)
  (stab:∀ D i ys H xs o,H D=some (.lst xs)->Pv D i ys H->Pv D i ys (upd H D o))(hz:∀ D i ys H,i<n->Pv D i ys H->ys.length<sizeLine)(psame:∀ D i ys H H',Ak H H'->Pv D i ys H->Pv D i ys H')
  (hgo:∀ i H,i<n->Ak H1 H->J.go i H)(hy:∀ i H v H',i<n->Ak H1 H->J.yld i H v H'->∃ a,v=.ref a/\SqT K H' a [f1 i,f2 i]/\Ak H H')(hst:∀ H,Ak H1 H->J.stop n H)
  (turn:∀ D i ys H (A:VK) (R:Hp->Prop),i<n->Ak H1 H->H1 D=none->H D=some (.lst ys)->Pv D i ys H->(∀ H',Ak H H'->Pv D (i+1) ys H'->R H')->(∀ y H',Ak H H'->Pv D (i+1) (ys++[y]) H'->A y H') ->
   tc (some (f1 i)::some (f2 i)::fr) H fun b H3=>if b=true then te (some (f1 i)::some (f2 i)::fr) H3 A else R H3)
  (fin:∀ D ys H,H1 D=none->Ak H1 H->Pv D n ys H->H D=some (.lst ys)->Q (.ref D) H):Rc K J H1 fr tc te Q:=by
 intro D hD
 refine ⟨fun i m H=>i<=n/\m=n-i/\Ak H1 H/\∃ ys,H D=some (.lst ys)/\Pv D i ys H,⟨n,Nat.zero_le _,rfl,Ah hD,[],Ac,h0 D _ hD (Ah hD)⟩,?_⟩
 rintro i m H ⟨hi,rfl,sm,ys,hl,hp⟩
 by_cases h:i=n
 ·subst h
  exact .inl ⟨hst H sm,fin D ys H hD sm hp hl⟩
 ·have hlt:i<n:=Nat.lt_of_le_of_ne hi h
  refine .inr ⟨hgo i H hlt sm,fun v H' hyl=>?_⟩
  obtain ⟨a,rfl,ht,s2⟩:=hy i H v H' hlt sm hyl
  refine ⟨a,_,_,rfl,ht,turn D i ys H' _ _ hlt (sm.trans s2) hD (s2 _ _ hl) (psame _ _ _ _ _ s2 hp) (fun H3 s3 hp3=>?_) (fun y H4 s4 hp4=>?_)⟩
  ·exact ⟨n-(i+1),by omega,by omega,rfl,(sm.trans s2).trans s3,ys,s3 _ _ (s2 _ _ hl),hp3⟩
  refine ⟨ys,s4 _ _ (s2 _ _ hl),hz D i ys _ hlt hp,n-(i+1),by omega,by omega,rfl,fun b u e=>?_,ys++[y],Ac,stab _ _ _ _ _ _ (s4 _ _ (s2 _ _ hl)) hp4⟩
  rw [Al (Aq e hD)]
  exact s4 _ _ (s2 _ _ (sm _ _ e))
theorem jL {K:PySem.W.Frag}{a:Addr}{xs:List V}{H1:Hp}{fr:St}{tc:TT}{te:TE}{Q:VK}(ha:SqL K H1 a xs)(Pv:Addr->Nat->List V->Hp->Prop)(h0:∀ D H,H1 D=none->Ak H1 H->Pv D 0 [] H)
  (stab:∀ D i zs H us o,H D=some (.lst us)->Pv D i zs H->Pv D i zs (upd H D o))(hz:∀ D i zs H,i<xs.length->Pv D i zs H->zs.length<sizeLine)(psame:∀ D i zs H H',Ak H H'->Pv D i zs H->Pv D i zs H')
  (turn:∀ D (i:Nat) zs x H (A:VK) (R:Hp->Prop),xs[i]?=some x->Ak H1 H->H1 D=none->H D=some (.lst zs)->Pv D i zs H->(∀ H',Ak H H'->Pv D (i+1) zs H'->R H')->(∀ y H',Ak H H'->Pv D (i+1) (zs++[y]) H'->A y H') ->
   tc (some (.int i)::some x::fr) H fun b H3=>if b=true then te (some (.int i)::some x::fr) H3 A else R H3)
  (fin:∀ D zs H,H1 D=none->Ak H1 H->Pv D xs.length zs H->H D=some (.lst zs)->Q (.ref D) H):Rc K (Ite K a) H1 fr tc te Q:=by
 refine kD xs.length (fun i=>.int i) (fun i=>xs.getD i .non) Pv h0 stab hz psame (fun i H hi sm=>⟨xs,xs[i]'(by omega),sm.seq ha,by simp⟩) (fun i H v H' hi sm h=>?_)
  (fun H sm=>⟨xs,sm.seq ha,rfl⟩) (fun D i zs H A R hi sm=>turn D i zs _ H A R (by simp [hi]) sm) fin
 obtain ⟨t,x,hn,rfl,h1,rfl⟩:=h
 have e1:=h1 xs (sm.seq ha)
 refine ⟨t,rfl,?_,Ah hn⟩
 simp only [List.getD,e1,Option.getD_some]
 exact SqT.of Ac
end L2
end
section
namespace HD
open PySem PySem.W PySem.Calls PyProof.Rows
def oneA (s0:SharedT)(h0:Heap)(m:Nat)(p:Program)(M:Nat)(w:World) :=
 (G2 treeTable p w m (some (.ref 6)) M s0 (topStub p)).map fun s=>staticsOk (importedModules p.main.body) h0 s.abs.heap&&namesBound p s.abs.heap&&gensDone s.abs&&laidKept h0 s.abs.heap
def oneB (s0:SharedT)(m:Nat)(p q:Program)(loose:List Str)(M:Nat)(w:World) :=
 (G2 treeTable p w m (some (.ref 6)) M s0 (topStub p)).map fun s=>openSeen q loose (importedModules p.main.body) (fun _=>true) true s.abs
def iK {α:Type}(Yf:Shared->α)(s0:SharedT)(m:Nat)(p:Program)(M:Nat)(w:World) :=
 (G2 treeTable p w m (some (.ref 6)) M s0 (topStub p)).map fun s=>Yf s.abs
theorem vF {α:Type}{Yf:Shared->α}{s0:SharedT}{h0:Heap}{m:Nat}{p q:Program}{loose:List Str}{M:Nat}{w:World}{a:α}
  (hA:oneA s0 h0 m p M w=some true)(hB:oneB s0 m p q loose M w=some (openGood q loose))(hC:iK Yf s0 m p M w=some a) :
  bothT Yf s0 h0 m p q loose M w=some (true,openGood q loose,a):=by
 unfold oneA at hA
 unfold oneB at hB
 unfold iK at hC
 unfold bothT Zr
 obtain ⟨s,r,l⟩:=Option.map_eq_some_iff.mp hA
 rw [r] at hB hC ⊢
 have hB:=Option.some.inj hB
 have hC:=Option.some.inj hC
 exact congrArg some (Prod.ext l (Prod.ext hB hC))
theorem left_of3 {p q:Program}{loose:List Str}{α:Type}{Yf:Shared->α}{Ya:World->α}{M N:Nat}(e:opening p=plainProg p.main.scope.names)(f:∀ s,fenceModules? p s=some s)(hN:Nat.ble 600 N=true)(le:Nat.ble M N=true)
  (hA:∀ w:World,(fun os=>oneA (bootT w os) (boot_heap w.params) bootSize p M w)=fun _=>some true)(hB:∀ w:World,(fun os=>oneB (bootT w os) bootSize p q loose M w)=fun _=>some (openGood q loose))
  (hC:∀ w:World,(fun os=>iK Yf (bootT w os) bootSize p M w)=fun _=>some (Ya w)):LeftO p q loose (fun _=>true) Yf Ya N :=
 pN e f hN le fun w=>funext fun os=>vF (congrFun (hA w) os) (congrFun (hB w) os) (congrFun (hC w) os)
def Yi (s:SharedT)(a:Nat):Option Obj:=match Nat.blt a s.n with
 | true=>(match s.tree.get a with
  | some o=>alive o
  | none=>none)
 | false=>none
theorem lP {s:SharedT}{a:Nat}{o:Obj}(h:Yi s a=some o):s.abs.heap.get? a=some o:=by
 unfold Yi at h
 cases hb:Nat.blt a s.n with
 | false=>rw [hb] at h;cases h
 | true =>
  rw [hb] at h
  cases hg:s.tree.get a with
  | none=>rw [hg] at h;cases h
  | some u =>
   rw [hg] at h
   have hlt:a<s.n:=by
    have:=Nat.le_of_ble_eq_true hb
    omega
   exact (abs_get hlt hg).trans h
theorem Ra {s:SharedT}:∀ {as:List Nat} {L:List (Option Obj)},(∀ x∈L,x.isSome=true)->as.map (Yi s)=L->as.map s.abs.heap.get?=L
 | [],L,_,e=>e
 | a::as,[],_,e=>by cases e
 | a::as,x::L,h,e=>by
  obtain ⟨e1,e2⟩:=List.cons.inj e
  obtain ⟨o,ho⟩:=Option.isSome_iff_exists.mp (h x List.mem_cons_self)
  subst ho
  show s.abs.heap.get? a::as.map s.abs.heap.get?=_
  rw [lP e1,Ra (fun y hy=>h y (List.mem_cons_of_mem _ hy)) e2]
def oneP (as ts:List Addr)(s0:SharedT)(m:Nat)(p:Program)(M:Nat)(w:World) :=
 (G2 treeTable p w m (some (.ref 6)) M s0 (topStub p)).map fun s=>(as.map (Yi s),ts.map (Yi s))
theorem hC_km {K:Params->Frag}{as:List Addr}{e:∀ P,as=(K P).map (·.1)}{ts:List Addr}{p:Program}{M:Nat}
  (h:∀ w:World,(fun os=>oneP as ts (bootT w os) bootSize p M w)=fun _=>some ((K w.params).map fun q=>some q.2,ts.map fun _=>some (tabObj #[]))) :
  ∀ w:World,(fun os=>iK (kmHook K as e ts).obs (bootT w os) bootSize p M w)=fun _=>some ((kmHook K as e ts).val w):=fun w=>funext fun os=>by
 have h:=congrFun (h w) os
 unfold oneP at h
 unfold iK
 obtain ⟨s,r,l⟩:=Option.map_eq_some_iff.mp h
 obtain ⟨l1,l2⟩:=Prod.mk.inj l
 rw [r]
 show some (as.map s.abs.heap.get?,ts.map s.abs.heap.get?)=some ((K w.params).map fun q=>some q.2,ts.map fun _=>some (tabObj #[]))
 rw [Ra (fun x hx=>by obtain ⟨q,_,rfl⟩:=List.mem_map.mp hx;rfl) l1,Ra (fun x hx=>by obtain ⟨q,_,rfl⟩:=List.mem_map.mp hx;rfl) l2]
end HD
lay_quick HD.oneP
theorem HD.oneP_eq:@HD.oneP=@PySem.W.Fast.tw13831889492591282369:=PySem.W.Fast.te13831889492591282369
lay_quick HD.oneA
lay_quick HD.oneB
theorem HD.oneA_eq:@HD.oneA=@PySem.W.Fast.tw6247638121477898359:=PySem.W.Fast.te6247638121477898359
theorem HD.oneB_eq:@HD.oneB=@PySem.W.Fast.tw4394042064226896843:=PySem.W.Fast.te4394042064226896843
end
section
namespace L2
open PySem PySem.Spec PyProof.Rows
open PySem.W
def GD (K:Frag)(x:Str)(st:Stmt):Prop:=∃ (f:Addr) (fd:FuncData),Fun K x x st f fd/\nsIn K mainGlobals x=some (some (.ref f))
def MD (K:Frag)(C:Addr)(x q:Str)(st:Stmt):Prop:=∃ (f:Addr) (fd:FuncData),Fun K x q st f fd/\findIn K (.ref C) x=some (some (.ref f))/\isFn K (.ref f)=true
def BD (K:Frag)(C:Addr)(x q:Str)(st:Stmt):Prop:=∃ (f:Addr) (fd:FuncData),Fun K x q st f fd/\findCls K (.ref C) (.type "type") x=some (.val (.ref f))
structure CD (K:Frag) (C:Addr) (x:Str):Prop where
 a:nsIn K mainGlobals x=some (some (.ref C))
 ma:makesIn K C=true
 kc:keepIn K (.ref C)=true
structure BC (K:Frag) (C:Addr) (x:Str):Prop where
 a:nsIn K mainGlobals x=some (some (.ref C))
 bg:specialIn K (.ref C) "__getattribute__"=some (some (.builtin "type.__getattribute__"))
 br:readsIn K C (.type "type")=true
def noB:Option (Option Value)->Bool
 | some none=>true
 | _=>false
structure FD (K:Frag) (C:Addr) (fs:List Str):Prop where
 cl:Cls K C
 al:(fs.all fun f=>noB (findIn K (.ref C) f))=true
section
variable {P:Program} {w:World} {K:Frag} {mg:Str->Option Value} {base h:Heap} {x q:Str} {st:Stmt} {f C:Addr} {oc:Value} {od an:Option Addr} {osl:Array (Option Value)} {kV doc pm cdv ct:Value} {fs ps:List Str} {k:Nat} {sp:Sp}
theorem gD (a:nsIn K mainGlobals x=some (some (.ref f)))(l:K.lookup f=some ⟨oc,od,.func (fnOf x x (Cw st) (B5 st) (Ae st) .none kV doc pm an cdv ct),osl⟩)(c:codeIn K cdv x=true)(k:keepIn K (.ref f)=true):GD K x st:=⟨f,_,Vc l c k,a⟩
theorem mD (a:findIn K (.ref C) x=some (some (.ref f)))(i:isFn K (.ref f)=true)(l:K.lookup f=some ⟨oc,od,.func (fnOf x q (Cw st) (B5 st) (Ae st) .none kV doc pm an cdv ct),osl⟩)(c:codeIn K cdv q=true)(k:keepIn K (.ref f)=true):MD K C x q st:=⟨f,_,Vc l c k,a,i⟩
theorem bD (a:findCls K (.ref C) (.type "type") x=some (.val (.ref f)))(l:K.lookup f=some ⟨oc,od,.func (fnOf x q (Cw st) (B5 st) (Ae st) .none kV doc pm an cdv ct),osl⟩)(c:codeIn K cdv q=true)(k:keepIn K (.ref f)=true):BD K C x q st:=⟨f,_,Vc l c k,a⟩
theorem fD (pg:plainGet K C Str.empty=true)(hd:hasDictIn K C=true)(po:plainOver K C=true)(sa:findIn K (.ref C) "__setattr__"=some (some (.builtin "object.__setattr__")))(al:(fs.all fun f=>noB (findIn K (.ref C) f))=true):FD K C fs:=⟨⟨pg,hd,po,sa⟩,al⟩
theorem FD.no (D:FD K C fs)(i:Nat){g:Str}(h:fs[i]?=some g:=by rfl):Br K C g:=by
 have:=List.all_eq_true.mp D.al g (List.mem_of_getElem? h)
 show findIn K (.ref C) g=some none
 cases e:findIn K (.ref C) g with
 | none=>rw [e] at this;cases this
 | some o =>
  cases o with
  | none=>rfl
  | some v=>rw [e] at this;cases this
def Cur:Nat->(List Value->Prop)->Prop
 | 0,P=>P []
 | n+1,P=>∀ a,Cur n fun l=>P (a::l)
theorem Cur.all:∀ {n:Nat} {P:List Value->Prop},Cur n P->∀ us:List Value,us.length=n->P us
 | 0,_,h,[],_=>h
 | n+1,_,h,a::l,e=>Cur.all (n:=n) (h a) l (Nat.succ.inj e)
abbrev Ep (x q:Str)(st:Stmt)(ps:List Str):Prop:=∀ (kV doc pm:Value) (an:Option Addr) (cdv ct:Value),Cur ps.length fun us=>bindArgs (fnOf x q (Cw st) (B5 st) (Ae st) .none kV doc pm an cdv ct) ⟨us,[]⟩=pure (ps.zip us)
theorem Fun.bd {fd:FuncData}(F:Fun K x q st f fd)(hb:Ep x q st ps):Dk K fd ps []:=F.binds fun a b c d e g=>(hb a b c d e g).all
theorem GD.cal (X:K.In h)(G:h.Ns mainGlobals mg)(g:GD K x st)(ok:∀ {f fd},Fun K x x st f fd->Ax P w K mg base CX0 k f fd ps sp)
  (hb:Ep x x st ps:=by (repeat intro _);rfl):Cal P w K mg base x k ps sp :=
 let ⟨f,fd,F,a⟩:=g
 ⟨⟨f,fd,ok F,F.bd hb,mg_of X G a,F.kp⟩⟩
theorem MD.mth (c:Cls K C)(g:MD K C x q st)(ok:∀ {f fd},Fun K x q st f fd->Ax P w K mg base CX0 k f fd ps sp)
  (hb:Ep x q st ps:=by (repeat intro _);rfl):Mth P w K mg base C x k ps sp :=
 let ⟨f,fd,F,a,i⟩:=g
 ⟨⟨f,fd,ok F,F.bd hb,⟨a,i,F.kp⟩⟩,c⟩
theorem MD.mkr {y:Str}(X:K.In h)(G:h.Ns mainGlobals mg)(c:CD K C y)(g:MD K C "__init__" q st)(ok:∀ {f fd},Fun K "__init__" q st f fd->Ax P w K mg base CX0 k f fd ps sp)
  (hb:Ep "__init__" q st ps:=by (repeat intro _);rfl):Mkr P w K mg base y C k ps sp :=
 let ⟨f,fd,F,a,i⟩:=g
 ⟨⟨f,fd,ok F,F.bd hb,⟨c.ma,a,i,c.kc⟩,mg_of X G c.a⟩⟩
theorem BD.calC {y:Str}(X:K.In h)(G:h.Ns mainGlobals mg)(c:BC K C y)(g:BD K C x q st)(ok:∀ {f fd},Fun K x q st f fd->Ax P w K mg base CX0 k f fd ps sp)
  (hb:Ep x q st ps:=by (repeat intro _);rfl):rM P w K mg base y x k ps sp :=
 let ⟨f,fd,F,a⟩:=g
 ⟨⟨C,f,fd,ok F,F.bd hb,mg_of X G c.a,c.bg,c.br,a,F.kp⟩⟩
end
section
variable {P:Program} {w:World} {K:Frag} {mg:Str->Option Value} {base h:Heap} {x q:Str} {st:Stmt} {C:Addr} {ps:List Str} {k:Nat} {sp:Sp}
theorem GD.calE (X:K.In h)(G:h.Ns mainGlobals mg)(g:GD K x st)(ok:∀ {f fd},Fun K x x st f fd->Ax P w K mg base (CXE P w) k f fd ps sp)(hb:Ep x x st ps:=by (repeat intro _);rfl):Yu P w K mg base x k ps sp :=
 let ⟨f,fd,F,a⟩:=g
 ⟨⟨f,fd,ok F,F.bd hb,mg_of X G a,F.kp⟩⟩
theorem GD.calU (X:K.In h)(G:h.Ns mainGlobals mg)(g:GD K x st)(ok:∀ {f fd},Fun K x x st f fd->eO P w K mg base k f fd ps sp)(hb:Ep x x st ps:=by (repeat intro _);rfl):nO P w K mg base x k ps sp :=
 let ⟨f,fd,F,a⟩:=g
 ⟨⟨f,fd,ok F,F.bd hb,mg_of X G a,F.kp⟩⟩
theorem MD.mthE (c:Cls K C)(g:MD K C x q st)(ok:∀ {f fd},Fun K x q st f fd->Ax P w K mg base (CXE P w) k f fd ps sp)(hb:Ep x q st ps:=by (repeat intro _);rfl):Fi P w K mg base C x k ps sp :=
 let ⟨f,fd,F,a,i⟩:=g
 ⟨⟨f,fd,ok F,F.bd hb,⟨a,i,F.kp⟩⟩,c⟩
theorem MD.mkrE {y:Str}(X:K.In h)(G:h.Ns mainGlobals mg)(c:CD K C y)(g:MD K C "__init__" q st)(ok:∀ {f fd},Fun K "__init__" q st f fd->Ax P w K mg base (CXE P w) k f fd ps sp)(hb:Ep "__init__" q st ps:=by (repeat intro _);rfl):kO P w K mg base y C k ps sp :=
 let ⟨f,fd,F,a,i⟩:=g
 ⟨⟨f,fd,ok F,F.bd hb,⟨c.ma,a,i,c.kc⟩,mg_of X G c.a⟩⟩
end
end L2
end
section
namespace TW
def yD (ds:List Nat)(j:Nat):Nat:=((List.range ds.length).filter fun i=>decide (j<i)&&decide (eld ds i<j)).length
theorem oW {p q:Nat->Bool}{l:List Nat}(h:∀ i∈l,p i=q i):(l.filter p).length=(l.filter q).length:=by rw [List.filter_congr h]
theorem eW {ds:List Nat}(h:Dok ds){k:Nat}(hk:k<ds.length):eld ds k<k:=by
 by_cases e:eld ds k=-1
 ·omega
 ·obtain ⟨v,hv,hvk,_⟩:=Hs h hk e
  omega
def Io (ds:List Nat)(j:Nat):Nat:=((List.range ds.length).filter fun i=>decide (eld ds i<j)).length
theorem Pl {p q r:Nat->Bool}:∀ {l:List Nat},(∀ i∈l,r i=(p i||q i))->(∀ i∈l,p i=true->q i=false)->(l.filter r).length=(l.filter p).length+(l.filter q).length
 | [],_,_=>rfl
 | x::t,h1,h2=>by
  have ih:=Pl (l:=t) (fun i hi=>h1 i (by simp [hi])) (fun i hi=>h2 i (by simp [hi]))
  have hx:=h1 x (by simp)
  have hy:=h2 x (by simp)
  rw [List.filter_cons,List.filter_cons,List.filter_cons,hx]
  cases hp:p x<;>cases hq:q x
  ·simpa using ih
  ·simp only [Bool.false_or,Bool.false_eq_true,if_false,if_true,List.length_cons,ih];omega
  ·simp only [Bool.true_or,Bool.false_eq_true,if_false,if_true,List.length_cons,ih];omega
  ·rw [hy hp] at hq;cases hq
theorem Yb {ds:List Nat}(h:Dok ds):Io ds 0=(C7 ds ds.length (-1)).length:=by
 unfold Io C7
 refine oW fun i hi=>decide_eq_decide.mpr ?_
 have:=kU h (List.mem_range.mp hi)
 omega
theorem Xu {ds:List Nat}(j:Nat):Io ds (j+1)=Io ds j+(C7 ds ds.length j).length:=by
 unfold Io C7
 refine Pl (fun i hi=>?_) (fun i hi hp=>?_)
 ·rw [Bool.eq_iff_iff,Bool.or_eq_true,decide_eq_true_iff,decide_eq_true_iff,decide_eq_true_iff]
  omega
 ·rw [decide_eq_true_iff] at hp
  exact decide_eq_false (by omega)
theorem Va {ds:List Nat}(h:Dok ds):∀ j,j<=ds.length->((gsC ds).take (j+1)).sum=Io ds j
 | 0,_=>by
  rw [Yb h]
  unfold gsC
  simp
 | j+1,hj=>by
  rw [List.take_add_one,Y4 (by omega),List.sum_append,Va h j (by omega),Xu]
  simp
theorem uA {n j:Nat}(h:j<n):((List.range n).filter fun i=>decide (i<=j)).length=j+1:=by
 have e:(List.range n).filter (fun i=>decide (i<=j))=List.range (j+1):=by
  obtain ⟨d,rfl⟩:∃ d,n=j+1+d:=⟨n-(j+1),by omega⟩
  rw [List.range_add,List.filter_append,List.filter_eq_self.mpr (fun i hi=>decide_eq_true (by have:=List.mem_range.mp hi;omega)),List.filter_eq_nil_iff.mpr (fun i hi=>by
   obtain ⟨x,hx,rfl⟩:=List.mem_map.mp hi
   rw [decide_eq_true_iff]
   omega),List.append_nil]
 rw [e,List.length_range]
theorem Zl {ds:List Nat}(h:Dok ds){j:Nat}(hj:j<ds.length):Io ds j=j+1+yD ds j:=by
 rw [<- uA hj]
 refine Pl (fun i hi=>?_) (fun i hi hp=>?_)
 ·have h1:=eW h (List.mem_range.mp hi)
  rw [Bool.eq_iff_iff,Bool.or_eq_true,Bool.and_eq_true,decide_eq_true_iff,decide_eq_true_iff,decide_eq_true_iff]
  omega
 ·rw [decide_eq_true_iff] at hp
  rw [decide_eq_false (show ¬ j<i by omega),Bool.false_and]
theorem cN {ds:List Nat}(h:Dok ds):Io ds ds.length=ds.length:=by
 unfold Io
 rw [List.filter_eq_self.mpr (fun i hi=>decide_eq_true (by have:=eW h (List.mem_range.mp hi);have:=List.mem_range.mp hi;omega)),List.length_range]
theorem kP:∀ {ns:List Nat} {h:Nat},(∀ j,j<ns.length->j+1<=h+(ns.take j).sum)->h+ns.sum=ns.length->Gd h ns
 | [],h,_,e=>e
 | n::r,h,h1,e=>by
  have h0:=h1 0 (Nat.succ_pos _)
  rw [List.take_zero,List.sum_nil] at h0
  refine ⟨by omega,kP (fun j hj=>?_) ?_⟩
  ·have:=h1 (j+1) (by rw [List.length_cons];omega)
   rw [List.take_succ_cons,List.sum_cons] at this
   omega
  ·rw [List.sum_cons,List.length_cons] at e
   omega
theorem Yt {ds:List Nat}(h:Dok ds):(gsC ds).sum=ds.length:=by
 have h1:=Va h ds.length (Nat.le_refl _)
 rw [List.take_of_length_le (by rw [Ir];exact Nat.le_refl _),cN h] at h1
 exact h1
theorem uG {ds:List Nat}(h:Dok ds):Gd 1 (gsC ds):=by
 refine kP (fun j hj=>?_) (by rw [Yt h,Ir];omega)
 rw [Ir] at hj
 cases j with
 | zero=>exact Nat.le_add_right _ _
 | succ j =>
  rw [Va h j (by omega),Zl h (by omega)]
  omega
end TW
end
local macro_rules | `(tactic| walk_at "rd")=>`(tactic| repeat (first | with_reducible refine L2.vT ?_ | with_reducible refine L2.sP ?_ | with_reducible refine L2.wW ?_ | with_reducible refine L2.pF ?_ | with_reducible refine L2.wI ?_ | with_reducible refine L2.r_retN ?_ | with_reducible refine L2.rS ?_ | with_reducible refine L2.xF ?_ | with_reducible refine L2.rN ?_ | with_reducible refine L2.xR ?_ | with_reducible refine L2.xC ?_ | with_reducible refine L2.wD ?_ | with_reducible refine L2.yB ?_ | with_reducible refine L2.uK ?_ | with_reducible refine L2.tQ ?_ | with_reducible refine L2.yF ?_ | with_reducible refine L2.xO ?_ | with_reducible refine L2.yI ?_ | with_reducible refine L2.r_c ?_ | with_reducible refine L2.rK ?_ | with_reducible refine L2.vO ?_ | with_reducible refine L2.yE ?_ | with_reducible refine L2.uW ?_ | with_reducible refine L2.uL ?_ | with_reducible refine L2.sO ?_ | with_reducible refine L2.tK ?_ | with_reducible refine L2.xT ?_ | with_reducible refine L2.uR ?_ | with_reducible refine L2.vP ?_ | with_reducible refine L2.yC ?_ | with_reducible refine L2.vW ?_ | with_reducible refine L2.xV ?_ | with_reducible refine L2.lE ?_ | with_reducible refine L2.uJ ?_ | with_reducible refine L2.uY ?_ | with_reducible refine L2.sE ?_ | with_reducible refine L2.r_rng2 ?_ | with_reducible refine L2.uF ?_ | with_reducible refine L2.oB ?_ | with_reducible refine L2.uB ?_ | with_reducible refine L2.sA ?_ | with_reducible refine L2.xQ ?_ | with_reducible refine L2.vI ?_ | with_reducible refine L2.xB ?_ | with_reducible refine L2.nX ?_ | with_reducible refine L2.rQ ?_ | with_reducible refine L2.r_orV ?_ | with_reducible refine L2.sD ?_ | with_reducible refine L2.vB ?_ | with_reducible refine L2.sK ?_ | with_reducible refine L2.tS ?_ | with_reducible refine L2.tL ?_ | with_reducible refine L2.vG ?_ | with_reducible refine L2.r_cBK ?_ | with_reducible refine L2.sR ?_ | with_reducible refine L2.qF ?_ | with_reducible refine L2.uQ ?_ | with_reducible refine L2.jK ?_ | with_reducible refine L2.r_rngD ?_ | with_reducible refine L2.sS ?_ | with_reducible refine L2.pD ?_ | with_reducible refine L2.tU ?_ | with_reducible refine L2.iO ?_ | with_reducible refine L2.pC ?_ | with_reducible refine L2.iE ?_ | with_reducible refine L2.r_lzip ?_ | with_reducible refine L2.r_revL ?_ | with_reducible refine L2.r_lrev ?_ | with_reducible refine L2.r_lrng ?_ | with_reducible refine L2.pQ ?_ | with_reducible refine L2.uD ?_ | with_reducible refine L2.pS ?_ | with_reducible refine L2.vU ?_ | with_reducible refine L2.W7 (by decide) ?_ | with_reducible refine L2.iS (by decide) ?_ | with_reducible refine L2.lS (by decide) (by decide) ?_ | with_reducible refine L2.mT (by decide) (by decide) ?_ | with_reducible refine L2.tZ (by decide) (by decide) ?_ | with_reducible refine L2.uM rfl ?_ | with_reducible refine L2.uX rfl ?_ | with_reducible refine L2.xW ?_ | with_reducible refine L2.xN ?_ | with_reducible refine L2.vY ?_ | with_reducible refine L2.vV ?_ | refine L2.wY rfl ?_ | refine L2.vZ rfl ?_ | dsimp only))
namespace TK
open PySem L2 TW
def top (i:Nat):Stmt:=PySem.Challenge.pw_tightwood_k54_refused_by_counts.main.body.getD i (.Pass ⟨0,0,0,0⟩)
abbrev C4:Stmt:=Ay (top 6) 0
theorem R1:Ai ["self","place"] ["self","place"] (Ae C4):=⟨rfl,rfl,rfl,by decide +kernel,rfl,by decide +kernel,by decide +kernel⟩
abbrev Ld:Stmt:=top 19
theorem Yq:Ai ["thing"] ["thing"] (Ae Ld):=⟨rfl,rfl,rfl,by decide +kernel,rfl,by decide +kernel,by decide +kernel⟩
abbrev J6:Stmt:=top 20
theorem Vo:Ai ["thing","low","high"] ["thing","low","high"] (Ae J6):=⟨rfl,rfl,rfl,by decide +kernel,rfl,by decide +kernel,by decide +kernel⟩
abbrev Kl:Stmt:=top 21
theorem Vv:Ai ["bit"] ["bit"] (Ae Kl):=⟨rfl,rfl,rfl,by decide +kernel,rfl,by decide +kernel,by decide +kernel⟩
abbrev G8:Stmt:=top 22
theorem Pq:Ai ["place","greatest"] ["place","greatest"] (Ae G8):=⟨rfl,rfl,rfl,by decide +kernel,rfl,by decide +kernel,by decide +kernel⟩
abbrev Fw:Stmt:=top 23
theorem Nb:Ai ["low","high","greatest"] ["low","high","greatest"] (Ae Fw):=⟨rfl,rfl,rfl,by decide +kernel,rfl,by decide +kernel,by decide +kernel⟩
abbrev Dp:Stmt:=top 24
theorem J3:Ai ["number"] ["number"] (Ae Dp):=⟨rfl,rfl,rfl,by decide +kernel,rfl,by decide +kernel,by decide +kernel⟩
abbrev Il:Stmt:=top 25
theorem Sr:Ai ["k","many_knots"] ["k","many_knots"] (Ae Il):=⟨rfl,rfl,rfl,by decide +kernel,rfl,by decide +kernel,by decide +kernel⟩
abbrev M4:Stmt:=top 30
theorem Iv:Ai ["word","ones"] ["word"] (Ae M4):=⟨rfl,rfl,rfl,by decide +kernel,rfl,by decide +kernel,by decide +kernel⟩
abbrev Fb:Stmt:=top 31
theorem J8:Ai ["four","nth","places"] ["four","nth"] (Ae Fb):=⟨rfl,rfl,rfl,by decide +kernel,rfl,by decide +kernel,by decide +kernel⟩
theorem Nm:Bq ["four","nth","places"] (Ae Fb) { kind:=.function,names:=[(".0",.local),("place",.local),("four",.free)],isGenerator:=false,isCoroutine:=false,more:=[] } "place" ["place","four"] [0]:=⟨rfl,by decide +kernel,by decide +kernel,by decide +kernel,by decide +kernel,rfl,rfl,rfl,by decide +kernel⟩
abbrev M3:Stmt:=top 32
theorem E2:Ai ["word","nth","low","ones"] ["word","nth"] (Ae M3):=⟨rfl,rfl,rfl,by decide +kernel,rfl,by decide +kernel,by decide +kernel⟩
abbrev Po:Stmt:=top 36
theorem fQ:Ai ["thing"] ["thing"] (Ae Po):=⟨rfl,rfl,rfl,by decide +kernel,rfl,by decide +kernel,by decide +kernel⟩
abbrev Nf:Stmt:=top 37
theorem cP:Ai ["signs"] ["signs"] (Ae Nf):=⟨rfl,rfl,rfl,by decide +kernel,rfl,by decide +kernel,by decide +kernel⟩
abbrev Ig:Stmt:=top 38
theorem X6:Ai ["text"] ["text"] (Ae Ig):=⟨rfl,rfl,rfl,by decide +kernel,rfl,by decide +kernel,by decide +kernel⟩
theorem Sv:Bq ["text"] (Ae Ig) { kind:=.function,names:=[(".0",.local),("low",.local),("word_of",.globalImplicit),("WORD_BITS",.globalImplicit),("text",.free)],isGenerator:=false,isCoroutine:=false,more:=[] } "low" ["low","text"] [0]:=⟨rfl,by decide +kernel,by decide +kernel,by decide +kernel,by decide +kernel,rfl,rfl,rfl,by decide +kernel⟩
abbrev Ij:Stmt:=top 39
theorem Yl:Ai ["word"] ["word"] (Ae Ij):=⟨rfl,rfl,rfl,by decide +kernel,rfl,by decide +kernel,by decide +kernel⟩
theorem Sw:Bq ["word"] (Ae Ij) { kind:=.function,names:=[(".0",.local),("low",.local),("SIGNS_OF_FOUR",.globalImplicit),("word",.free)],isGenerator:=false,isCoroutine:=false,more:=[] } "low" ["low","word"] [0]:=⟨rfl,by decide +kernel,by decide +kernel,by decide +kernel,by decide +kernel,rfl,rfl,rfl,by decide +kernel⟩
abbrev Jt:Stmt:=Ay (top 40) 0
theorem Vk:Ai ["self","text"] ["self","text"] (Ae Jt):=⟨rfl,rfl,rfl,by decide +kernel,rfl,by decide +kernel,by decide +kernel⟩
abbrev J4:Stmt:=Ay (top 40) 1
theorem U2:Ai ["self"] ["self"] (Ae J4):=⟨rfl,rfl,rfl,by decide +kernel,rfl,by decide +kernel,by decide +kernel⟩
abbrev Hx:Stmt:=Ay (top 40) 3
theorem Sx:Ai ["self"] ["self"] (Ae Hx):=⟨rfl,rfl,rfl,by decide +kernel,rfl,by decide +kernel,by decide +kernel⟩
abbrev El:Stmt:=Ay (top 40) 5
theorem C1:Ai ["self","low","high","first","beyond","signs","begin"] ["self","low","high"] (Ae El):=⟨rfl,rfl,rfl,by decide +kernel,rfl,by decide +kernel,by decide +kernel⟩
theorem Lv:Bq ["self","low","high","first","beyond","signs","begin"] (Ae El) { kind:=.function,names:=[(".0",.local),("word",.local),("signs_of",.globalImplicit)],isGenerator:=false,isCoroutine:=false,more:=[] } "word" ["word"] []:=⟨rfl,by decide +kernel,by decide +kernel,by decide +kernel,by decide +kernel,rfl,rfl,rfl,by decide +kernel⟩
abbrev Ix:Stmt:=top 44
theorem E9:Ai ["low","high","holds","middle"] ["low","high","holds"] (Ae Ix):=⟨rfl,rfl,rfl,by decide +kernel,rfl,by decide +kernel,by decide +kernel⟩
abbrev Gu:Stmt:=top 45
theorem Fv:Ai ["numbers","sums","number"] ["numbers"] (Ae Gu):=⟨rfl,rfl,rfl,by decide +kernel,rfl,by decide +kernel,by decide +kernel⟩
abbrev Cj:Stmt:=top 46
theorem Gx:Ai ["words","blocks"] ["words"] (Ae Cj):=⟨rfl,rfl,rfl,by decide +kernel,rfl,by decide +kernel,by decide +kernel⟩
theorem Ku:Bq ["words","blocks"] (Ae Cj) { kind:=.function,names:=[(".0",.local),("low",.local),("BLOCK_WORDS",.globalImplicit),("words",.free)],isGenerator:=false,isCoroutine:=false,more:=[] } "low" ["low","words"] [0]:=⟨rfl,by decide +kernel,by decide +kernel,by decide +kernel,by decide +kernel,rfl,rfl,rfl,by decide +kernel⟩
theorem Kw:Bq ["words","blocks"] (Ae Cj) { kind:=.function,names:=[(".0",.local),("block",.local),("sum",.globalImplicit)],isGenerator:=false,isCoroutine:=false,more:=[] } "block" ["block"] []:=⟨rfl,by decide +kernel,by decide +kernel,by decide +kernel,by decide +kernel,rfl,rfl,rfl,by decide +kernel⟩
theorem Ky (sc₀:Scope):Bq ["block"] sc₀ { kind:=.function,names:=[(".0",.local),("word",.local),("ones_in",.globalImplicit)],isGenerator:=false,isCoroutine:=false,more:=[] } "word" ["word"] []:=⟨rfl,by decide +kernel,by decide +kernel,(fun y hy h=>absurd h ((by decide +kernel:∀ y∈({ kind:=.function,names:=[(".0",.local),("word",.local),("ones_in",.globalImplicit)],isGenerator:=false,isCoroutine:=false,more:=[] }:Scope).names,y.2≠NameKind.free) y hy)),by decide +kernel,rfl,rfl,rfl,by decide +kernel⟩
abbrev G4:Stmt:=Ay (top 47) 0
theorem R7:Ai ["self","bits"] ["self","bits"] (Ae G4):=⟨rfl,rfl,rfl,by decide +kernel,rfl,by decide +kernel,by decide +kernel⟩
abbrev Dr:Stmt:=Ay (top 47) 6
theorem A8:Ai ["self","place","number","block","ones","word","rest"] ["self","place"] (Ae Dr):=⟨rfl,rfl,rfl,by decide +kernel,rfl,by decide +kernel,by decide +kernel⟩
abbrev Gq:Stmt:=Ay (top 47) 2
theorem Jd:Ai ["self","bit","place","ones"] ["self","bit","place"] (Ae Gq):=⟨rfl,rfl,rfl,by decide +kernel,rfl,by decide +kernel,by decide +kernel⟩
abbrev Ck:Stmt:=Ay (top 47) 7
theorem Du:Ai ["self","bit","block","ones"] ["self","bit","block"] (Ae Ck):=⟨rfl,rfl,rfl,by decide +kernel,rfl,by decide +kernel,by decide +kernel⟩
abbrev D5:Stmt:=Ay (top 47) 8
theorem Kv:Ai ["self","bit"] ["self","bit"] (Ae D5):=⟨rfl,rfl,rfl,by decide +kernel,rfl,by decide +kernel,by decide +kernel⟩
abbrev Bg:Stmt:=Ay (top 47) 9
theorem J0:Ai ["self","bit","nth"] ["self","bit","nth"] (Ae Bg):=⟨rfl,rfl,rfl,by decide +kernel,rfl,by decide +kernel,by decide +kernel⟩
theorem Hj:Bq ["self","bit","nth"] (Ae Bg) { kind:=.function,names:=[("block",.local),("bit",.free),("nth",.free),("self",.free)],isGenerator:=false,isCoroutine:=false,more:=[] } "block" ["block","bit","nth","self"] [1,2,0]:=⟨rfl,by decide +kernel,by decide +kernel,by decide +kernel,by decide +kernel,rfl,rfl,rfl,by decide +kernel⟩
abbrev Dn:Stmt:=Ay (top 47) 10
theorem Bm:Ai ["self","bit","number","nth","flip","inside"] ["self","bit","number","nth"] (Ae Dn):=⟨rfl,rfl,rfl,by decide +kernel,rfl,by decide +kernel,by decide +kernel⟩
abbrev Eh:Stmt:=Ay (top 47) 3
theorem Gs:Ai ["self","bit","nth","block"] ["self","bit","nth"] (Ae Eh):=⟨rfl,rfl,rfl,by decide +kernel,rfl,by decide +kernel,by decide +kernel⟩
abbrev Iu:Stmt:=top 49
theorem Dx:Ai ["text","begin","height","heights","sign"] ["text","begin"] (Ae Iu):=⟨rfl,rfl,rfl,by decide +kernel,rfl,by decide +kernel,by decide +kernel⟩
abbrev Jm:Stmt:=top 55
theorem Eo:Ai ["text","height","place","sign"] ["text"] (Ae Jm):=⟨rfl,rfl,rfl,by decide +kernel,rfl,by decide +kernel,by decide +kernel⟩
abbrev Gp:Stmt:=Ay (top 51) 0
theorem Ow:Ai ["self","length","table","often_least"] ["self","length","table","often_least"] (Ae Gp):=⟨rfl,rfl,rfl,by decide +kernel,rfl,by decide +kernel,by decide +kernel⟩
abbrev Do:Stmt:=Ay (top 56) 4
theorem Jp:Ai ["self","place"] ["self","place"] (Ae Do):=⟨rfl,rfl,rfl,by decide +kernel,rfl,by decide +kernel,by decide +kernel⟩
abbrev C9:Stmt:=Ay (top 56) 5
theorem Jh:Ai ["self","place"] ["self","place"] (Ae C9):=⟨rfl,rfl,rfl,by decide +kernel,rfl,by decide +kernel,by decide +kernel⟩
abbrev E1:Stmt:=Ay (top 51) 9
theorem Mq:Ai ["self","place"] ["self","place"] (Ae E1):=⟨rfl,rfl,rfl,by decide +kernel,rfl,by decide +kernel,by decide +kernel⟩
abbrev Fz:Stmt:=Ay (top 56) 2
theorem Nx:Ai ["self","low","high"] ["self","low","high"] (Ae Fz):=⟨rfl,rfl,rfl,by decide +kernel,rfl,by decide +kernel,by decide +kernel⟩
abbrev Gb:Stmt:=Ay (top 51) 7
theorem Ol:Ai ["self"] ["self"] (Ae Gb):=⟨rfl,rfl,rfl,by decide +kernel,rfl,by decide +kernel,by decide +kernel⟩
abbrev Gc:Stmt:=Ay (top 51) 8
theorem Ov:Ai ["self"] ["self"] (Ae Gc):=⟨rfl,rfl,rfl,by decide +kernel,rfl,by decide +kernel,by decide +kernel⟩
abbrev Cv:Stmt:=Ay (top 56) 0
theorem Dt:Ai ["self","text","lows","begins","heights","table"] ["self","text"] (Ae Cv):=⟨rfl,rfl,rfl,by decide +kernel,rfl,by decide +kernel,by decide +kernel⟩
theorem Oj:Bq ["self","text","lows","begins","heights","table"] (Ae Cv) { kind:=.function,names:=[(".0",.local),("low",.local),("self",.free)],isGenerator:=false,isCoroutine:=false,more:=[] } "low" ["low","self"] [0]:=⟨rfl,by decide +kernel,by decide +kernel,by decide +kernel,by decide +kernel,rfl,rfl,rfl,by decide +kernel⟩
theorem Om:Gj ["self","text","lows","begins","heights","table"] (Ae Cv) { kind:=.function,names:=[(".0",.local),("low",.local),("begin",.local),("heights_of",.globalImplicit),("STRETCH_BITS",.globalImplicit),("text",.free)],isGenerator:=false,isCoroutine:=false,more:=[] } "low" "begin" ["low","begin","text"] [1]:=⟨rfl,by decide +kernel,by decide +kernel,by decide +kernel,by decide +kernel,rfl,rfl,rfl,rfl,rfl,by decide +kernel⟩
theorem Oh:Gj ["self","text","lows","begins","heights","table"] (Ae Cv) { kind:=.function,names:=[(".0",.local),("begin",.local),("some",.local),("min",.globalImplicit),("max",.globalImplicit)],isGenerator:=false,isCoroutine:=false,more:=[] } "begin" "some" ["begin","some"] []:=⟨rfl,by decide +kernel,by decide +kernel,by decide +kernel,by decide +kernel,rfl,rfl,rfl,rfl,rfl,by decide +kernel⟩
theorem Os:Bq ["self","text","lows","begins","heights","table"] (Ae Cv) { kind:=.function,names:=[(".0",.local),("some",.local),("min",.globalImplicit)],isGenerator:=false,isCoroutine:=false,more:=[] } "some" ["some"] []:=⟨rfl,by decide +kernel,by decide +kernel,by decide +kernel,by decide +kernel,rfl,rfl,rfl,by decide +kernel⟩
abbrev Fu:Stmt:=Ay (top 56) 7
theorem Nt:Ai ["self","number"] ["self","number"] (Ae Fu):=⟨rfl,rfl,rfl,by decide +kernel,rfl,by decide +kernel,by decide +kernel⟩
abbrev M7:Stmt:=top 60
theorem Ih:Ai ["elders","path","k","elder"] ["elders"] (Ae M7):=⟨rfl,rfl,rfl,by decide +kernel,rfl,by decide +kernel,by decide +kernel⟩
abbrev Kj:Stmt:=top 61
theorem Iy:Ai ["elders","depths","elder"] ["elders"] (Ae Kj):=⟨rfl,rfl,rfl,by decide +kernel,rfl,by decide +kernel,by decide +kernel⟩
abbrev D1:Stmt:=top 62
theorem Dq:Ai ["elders","many","elder"] ["elders"] (Ae D1):=⟨rfl,rfl,rfl,by decide +kernel,rfl,by decide +kernel,by decide +kernel⟩
abbrev Fd:Stmt:=top 63
theorem Se:Ai ["many"] ["many"] (Ae Fd):=⟨rfl,rfl,rfl,by decide +kernel,rfl,by decide +kernel,by decide +kernel⟩
theorem M2:Bq ["many"] (Ae Fd) { kind:=.function,names:=[(".0",.local),("one",.local)],isGenerator:=false,isCoroutine:=false,more:=[] } "one" ["one"] []:=⟨rfl,by decide +kernel,by decide +kernel,by decide +kernel,by decide +kernel,rfl,rfl,rfl,by decide +kernel⟩
abbrev Js:Stmt:=top 64
theorem Iq:Ai ["depths","many","depth"] ["depths"] (Ae Js):=⟨rfl,rfl,rfl,by decide +kernel,rfl,by decide +kernel,by decide +kernel⟩
abbrev Dz:Stmt:=top 67
theorem E5:Ai ["elders","depths","rest"] ["elders"] (Ae Dz):=⟨rfl,rfl,rfl,by decide +kernel,rfl,by decide +kernel,by decide +kernel⟩
theorem Lo:Gj ["elders","depths","rest"] (Ae Dz) { kind:=.function,names:=[(".0",.local),("k",.local),("depth",.local),("MARK_STEP",.globalImplicit),("rest",.free)],isGenerator:=false,isCoroutine:=false,more:=[] } "k" "depth" ["k","depth","rest"] [2]:=⟨rfl,by decide +kernel,by decide +kernel,by decide +kernel,by decide +kernel,rfl,rfl,rfl,rfl,rfl,by decide +kernel⟩
abbrev Go:Stmt:=Ay (top 68) 0
theorem Jf:Ai ["self","elders","wood"] ["self","elders"] (Ae Go):=⟨rfl,rfl,rfl,by decide +kernel,rfl,by decide +kernel,by decide +kernel⟩
abbrev G3:Stmt:=Ay (top 68) 2
theorem Sf:Ai ["self"] ["self"] (Ae G3):=⟨rfl,rfl,rfl,by decide +kernel,rfl,by decide +kernel,by decide +kernel⟩
abbrev Dh:Stmt:=Ay (top 68) 3
theorem Cd:Ai ["self","many","elders","waiting","k"] ["self"] (Ae Dh):=⟨rfl,rfl,rfl,by decide +kernel,rfl,by decide +kernel,by decide +kernel⟩
theorem Kx:Bq ["self","many","elders","waiting","k"] (Ae Dh) { kind:=.function,names:=[(".0",.local),("group",.local),("len",.globalImplicit)],isGenerator:=false,isCoroutine:=false,more:=[] } "group" ["group"] []:=⟨rfl,by decide +kernel,by decide +kernel,by decide +kernel,by decide +kernel,rfl,rfl,rfl,by decide +kernel⟩
abbrev Ge:Stmt:=Ay (top 68) 7
theorem Oi:Ai ["self","k"] ["self","k"] (Ae Ge):=⟨rfl,rfl,rfl,by decide +kernel,rfl,by decide +kernel,by decide +kernel⟩
abbrev K7:Stmt:=Ay (top 65) 10
theorem Og:Ai ["self","k","i","many"] ["self","k","i"] (Ae K7):=⟨rfl,rfl,rfl,by decide +kernel,rfl,by decide +kernel,by decide +kernel⟩
abbrev Hy:Stmt:=Ay (top 65) 4
theorem Su:Ai ["self","k"] ["self","k"] (Ae Hy):=⟨rfl,rfl,rfl,by decide +kernel,rfl,by decide +kernel,by decide +kernel⟩
abbrev Jq:Stmt:=Ay (top 65) 5
theorem Mm:Ai ["self","k","many"] ["self","k"] (Ae Jq):=⟨rfl,rfl,rfl,by decide +kernel,rfl,by decide +kernel,by decide +kernel⟩
abbrev Gn:Stmt:=Ay (top 68) 15
theorem Oy:Ai ["self","k"] ["self","k"] (Ae Gn):=⟨rfl,rfl,rfl,by decide +kernel,rfl,by decide +kernel,by decide +kernel⟩
abbrev Eu:Stmt:=Ay (top 68) 14
theorem Li:Ai ["self","k","low","high"] ["self","k"] (Ae Eu):=⟨rfl,rfl,rfl,by decide +kernel,rfl,by decide +kernel,by decide +kernel⟩
abbrev Fy:Stmt:=Ay (top 68) 4
theorem Hl:Ai ["self","k","group"] ["self","k"] (Ae Fy):=⟨rfl,rfl,rfl,by decide +kernel,rfl,by decide +kernel,by decide +kernel⟩
abbrev Fx:Stmt:=Ay (top 68) 5
theorem He:Ai ["self","k","place"] ["self","k"] (Ae Fx):=⟨rfl,rfl,rfl,by decide +kernel,rfl,by decide +kernel,by decide +kernel⟩
abbrev Gk:Stmt:=Ay (top 68) 6
theorem Jc:Ai ["self","k","place"] ["self","k"] (Ae Gk):=⟨rfl,rfl,rfl,by decide +kernel,rfl,by decide +kernel,by decide +kernel⟩
abbrev C6:Stmt:=Ay (top 68) 11
theorem En:Ai ["self","k","stem"] ["self","k"] (Ae C6):=⟨rfl,rfl,rfl,by decide +kernel,rfl,by decide +kernel,by decide +kernel⟩
abbrev E4:Stmt:=Ay (top 68) 13
theorem Gw:Ai ["self","k","stretch"] ["self","k"] (Ae E4):=⟨rfl,rfl,rfl,by decide +kernel,rfl,by decide +kernel,by decide +kernel⟩
abbrev Ev:Stmt:=Ay (top 68) 9
theorem Lq:Ai ["self","k"] ["self","k"] (Ae Ev):=⟨rfl,rfl,rfl,by decide +kernel,rfl,by decide +kernel,by decide +kernel⟩
abbrev Ft:Stmt:=Ay (top 68) 10
theorem Ez:Ai ["self","k","steps","elder"] ["self","k"] (Ae Ft):=⟨rfl,rfl,rfl,by decide +kernel,rfl,by decide +kernel,by decide +kernel⟩
abbrev Cy:Stmt:=Ay (top 68) 12
theorem Hq:Ai ["self","k","other"] ["self","k","other"] (Ae Cy):=⟨rfl,rfl,rfl,by decide +kernel,rfl,by decide +kernel,by decide +kernel⟩
abbrev G6:Stmt:=top 70
theorem Rw:Ai ["_law_script","_law_k"] ["_law_script","_law_k"] (Ae G6):=⟨rfl,rfl,rfl,by decide +kernel,rfl,by decide +kernel,by decide +kernel⟩
abbrev Kg:Stmt:=top 71
theorem Ms:Ai ["_law_cell","_law_k","_law_number"] ["_law_cell","_law_k"] (Ae Kg):=⟨rfl,rfl,rfl,by decide +kernel,rfl,by decide +kernel,by decide +kernel⟩
abbrev Km:Stmt:=top 72
theorem Ct:Ai ["_law_cell","_law_many","_law_elders","_law_way","_law_k","_law_at"] ["_law_cell","_law_many"] (Ae Km):=⟨rfl,rfl,rfl,by decide +kernel,rfl,by decide +kernel,by decide +kernel⟩
abbrev Kb:Stmt:=top 73
theorem B6:Ai ["_law_script","_law_many","_law_elders","_law_way","_law_k","_law_number","_law_size","_law_turn","_law_at"] ["_law_script","_law_many"] (Ae Kb):=⟨rfl,rfl,rfl,by decide +kernel,rfl,by decide +kernel,by decide +kernel⟩
abbrev Et:Stmt:=top 74
theorem B0:Ai ["_law_elders","_law_times","_law_hung","_law_found","_law_turn","_law_size","_law_base"] ["_law_elders","_law_times","_law_hung"] (Ae Et):=⟨rfl,rfl,rfl,by decide +kernel,rfl,by decide +kernel,by decide +kernel⟩
theorem Ly:Bq ["_law_elders","_law_times","_law_hung","_law_found","_law_turn","_law_size","_law_base"] (Ae Et) { kind:=.function,names:=[(".0",.local),("_law_elder",.local),("_law_base",.free),("_law_size",.free)],isGenerator:=false,isCoroutine:=false,more:=[] } "_law_elder" ["_law_elder","_law_base","_law_size"] [6,5]:=⟨rfl,by decide +kernel,by decide +kernel,by decide +kernel,by decide +kernel,rfl,rfl,rfl,by decide +kernel⟩
abbrev Lp:Stmt:=top 75
theorem Ec:Ai ["_law_script","_law_most","_law_large","_law_number","_law_many","_law_elders"] ["_law_script","_law_most","_law_large"] (Ae Lp):=⟨rfl,rfl,rfl,by decide +kernel,rfl,by decide +kernel,by decide +kernel⟩
abbrev J5:Stmt:=top 76
theorem Mv:Ai ["_law_e","_law_kinds"] ["_law_e"] (Ae J5):=⟨rfl,rfl,rfl,by decide +kernel,rfl,by decide +kernel,by decide +kernel⟩
abbrev M8:Stmt:=top 77
theorem E8:Ai ["_law_things","_law_way","_law_place","_law_thing"] ["_law_things"] (Ae M8):=⟨rfl,rfl,rfl,by decide +kernel,rfl,by decide +kernel,by decide +kernel⟩
abbrev Ie:Stmt:=top 78
theorem Hc:Ai ["_law_elders","_law_number","_law_at","_law_odd"] ["_law_elders","_law_number"] (Ae Ie):=⟨rfl,rfl,rfl,by decide +kernel,rfl,by decide +kernel,by decide +kernel⟩
abbrev G5:Stmt:=top 79
theorem Ek:Ai ["_law_wood_here","_law_word","_law_k","_law_i","_law_told","_law_e"] ["_law_wood_here","_law_word","_law_k","_law_i"] (Ae G5):=⟨rfl,rfl,rfl,by decide +kernel,rfl,by decide +kernel,by decide +kernel⟩
abbrev Lh:Stmt:=top 80
theorem Fg:Ai ["_law_things","_law_found","_law_e"] ["_law_things"] (Ae Lh):=⟨rfl,rfl,rfl,by decide +kernel,rfl,by decide +kernel,by decide +kernel⟩
abbrev Gf:Stmt:=top 81
theorem Je:Ai ["_law_many","_law_number","_law_some"] ["_law_many","_law_number"] (Ae Gf):=⟨rfl,rfl,rfl,by decide +kernel,rfl,by decide +kernel,by decide +kernel⟩
abbrev Fs:Stmt:=top 82
theorem Ny:Ai ["_law_number"] ["_law_number"] (Ae Fs):=⟨rfl,rfl,rfl,by decide +kernel,rfl,by decide +kernel,by decide +kernel⟩
abbrev Th:Stmt:=top 83
theorem Dm:Ai ["_law_script","_law_elders","_law_many","_law_wood_here","_law_words","_law_j","_law_word","_law_number","_law_knot","_law_odd","_law_spoilt_here","_law_due"] ["_law_script"] (Ae Th):=⟨rfl,rfl,rfl,by decide +kernel,rfl,by decide +kernel,by decide +kernel⟩
abbrev At:Pos:=⟨216,55,216,110⟩
def Aw (l:List Bool):Str:=⟨(l.map fun b=>if b then 49 else 48).toArray⟩
def xH:Option Nat->V
 | none=>.non
 | some p=>.int p
theorem cX (m:Nat):Builtin.bitAnd (m:Int) 15=((m%16:Nat):Int):=by
 unfold Builtin.bitAnd
 rw [decide_eq_true (Int.natCast_nonneg m),decide_eq_true (by decide:(0:Int)<=15)]
 show ((m &&& 15:Nat):Int)=_
 rw [show (15:Nat)=2 ^ 4-1 by decide,Nat.and_two_pow_sub_one_eq_mod]
theorem pW (m:Nat):(m:Int)/2 ^ (4:Int).toNat=((m/16:Nat):Int):=by
 show (m:Int)/16=_
 omega
theorem eG (r:Nat)(h:r<16):atI (Tf.map fun n:Nat=>V.int (n:Int)) (r:Int)=some (.int (pc r)):=by
 refine Bx ?_
 rw [List.getElem?_map,jX r h]
 rfl
theorem xK (m:Nat):Builtin.bitAnd (m:Int) 1=((m%2:Nat):Int):=by
 unfold Builtin.bitAnd
 rw [decide_eq_true (Int.natCast_nonneg m),decide_eq_true (by decide:(0:Int)<=1)]
 show ((m &&& 1:Nat):Int)=_
 rw [Nat.and_one_is_mod]
theorem A5 (l:List Bool):(Aw l).length=l.length:=by
 show (l.map _).toArray.size=_
 rw [List.size_toArray,List.length_map]
theorem fN (b:Bool)(k:Nat):Vb (sgn (if b then 49 else 48)) k=Aw (List.replicate k b):=by
 refine G1 ?_
 show (List.replicate k [if b then 49 else 48]).flatten.toArray.toList=((List.replicate k b).map _).toArray.toList
 rw [List.toList_toArray,List.toList_toArray,List.map_replicate]
 induction k with
 | zero=>rfl
 | succ k ih =>
  rw [List.replicate_succ,List.flatten_cons,ih,List.replicate_succ]
  rfl
theorem Cn (l:List Bool):(Aw l).cps.toList=l.map fun b=>if b then 49 else 48:=by
 show (l.map _).toArray.toList=_
 rw [List.toList_toArray]
theorem cI (l:List Bool):IB.bits (Aw l).cps.toList:=fun c hc=>by
 rw [Cn] at hc
 obtain ⟨b,_,rfl⟩:=List.mem_map.mp hc
 cases b
 ·exact .inl rfl
 ·exact .inr rfl
theorem L6 (a b:List Bool):Aw a++Aw b=Aw (a++b):=by
 refine G1 ?_
 show ((Aw a).cps++(Aw b).cps).toList=_
 rw [Array.toList_append,Cn,Cn,Cn,List.map_append]
theorem K3 {α:Type}(l:List α)(a b:Nat):(l.drop (min a l.length)).take (min b l.length-min a l.length)=(l.drop a).take (b-a):=by
 by_cases h:a<=l.length
 ·rw [Nat.min_eq_left h]
  by_cases h2:b<=l.length
  ·rw [Nat.min_eq_left h2]
  ·rw [Nat.min_eq_right (by omega),List.take_of_length_le (by rw [List.length_drop];omega),List.take_of_length_le (by rw [List.length_drop];omega)]
 ·have e:min a l.length=l.length:=by omega
  rw [e,List.drop_of_length_le (Nat.le_refl _),List.drop_of_length_le (by omega)]
  simp
theorem Ko (l:List Bool)(a b:Nat):Vw (Aw l) (some (a:Int)) (some (b:Int))=Aw ((l.drop a).take (b-a)):=by
 refine G1 ?_
 show (List.take _ (List.drop _ _)).toArray.toList=_
 rw [List.toList_toArray,HT.sIx_nat,HT.sIx_nat]
 have e:(Aw l).cps.size=l.length:=A5 l
 rw [e,Cn,Cn,List.map_take,List.map_drop]
 have:=K3 (l.map fun b=>if b=true then 49 else 48) a b
 rw [List.length_map] at this
 exact this
theorem Rk (xs:List V)(a b:Nat):Lr xs (some (a:Int)) (some (b:Int))=(xs.drop a).take (b-a):=by
 unfold Lr
 rw [HT.sIx_nat,HT.sIx_nat]
 exact K3 xs a b
theorem S5 (l:List Bool):Mz (Aw l) 49=l.count true/\Mz (Aw l) 48+Mz (Aw l) 49=l.length:=by
 unfold Mz
 rw [Cn]
 induction l with
 | nil=>exact ⟨rfl,rfl⟩
 | cons b r ih=>cases b<;>simp [List.count_cons]<;>omega
theorem sQ (l:List Bool):IB.v2 (Sy (Aw l)).cps.toList=val l:=by
 show IB.v2 (Aw l).cps.toList.reverse.toArray.toList=_
 rw [List.toList_toArray,Cn,<- List.map_reverse]
 unfold IB.v2
 rw [List.foldl_map]
 have e:=dS l 0
 rw [Nat.zero_mul,Nat.zero_add] at e
 rw [<- e]
 congr 1
 funext a b
 cases b<;>rfl
abbrev nV (ns:List Nat):List V:=ns.map fun n:Nat=>V.int n
theorem dY (ns:List Nat):nV ns=(ns.map fun n:Nat=>(n:Int)).map V.int:=by rw [List.map_map];rfl
theorem Kc (f:Nat->Nat)(i:Nat):nV ((List.range (i+1)).map f)=nV ((List.range i).map f)++[V.int (f i:Nat)]:=by
 unfold nV
 rw [List.range_succ,List.map_append,List.map_append]
 rfl
theorem kL (ns:List Nat):(ns.map fun n:Nat=>(n:Int)).sum=(ns.sum:Nat):=by
 induction ns with
 | nil=>rfl
 | cons n r ih=>rw [List.map_cons,List.sum_cons,ih,List.sum_cons];omega
theorem Sb (n d:Nat)(hd:0<d):B9 0 (n:Int) (d:Int)=(n+d-1)/d:=by
 unfold B9
 rw [show (n:Int)-0+(d:Int)-1=((n+d-1:Nat):Int) by omega,<- Int.natCast_ediv,Int.toNat_natCast]
theorem few {n:Nat}(h:n<=1000):n<=sizeLine:=Nat.le_of_lt (Df h)
theorem Ap {n:Nat}(h:n<=100000):n<sizeLine:=Nat.lt_of_le_of_lt h (by decide)
theorem eM {l:List Bool}{i c:Nat}(h:(Aw l).cps[i]?=some c):∃ b,l[i]?=some b/\c=if b then 49 else 48:=by
 have e:(Aw l).cps.toList[i]?=some c:=by rw [Array.getElem?_toList];exact h
 rw [Cn,List.getElem?_map] at e
 cases hb:l[i]? with
 | none=>rw [hb] at e;cases e
 | some b =>
  rw [hb] at e
  exact ⟨b,rfl,(Option.some.inj e).symm⟩
theorem Dl {α:Type}{l:List α}{i:Nat}{b:α}(h:l[i]?=some b):i<l.length:=(List.getElem?_eq_some_iff.mp h).1
def isI:V->Bool
 | .int _=>true
 | _=>false
def inI:V->Int->Int->Bool
 | .int i,lo,hi=>decide (lo<=i)&&decide (i<=hi)
 | _,_,_=>false
theorem Uj (i lo hi:Int):inI (.int i) lo hi=(decide (lo<=i)&&decide (i<=hi)):=rfl
def Any (K:PySem.W.Frag)(H:Hp)(x:V):Prop:=∃ t b1 b2,F1 K H x t/\kitOne K t (.type "int")=some b1/\kitOne K t (.type "bool")=some b2/\(b1&&!b2)=isI x
section
variable {K:PySem.W.Frag} {H H':Hp}
theorem Bt (i:Int):Any K H (.int i):=⟨_,true,false,.int i,by rfl,by rfl,rfl⟩
theorem Nw (b:Bool):Any K H (.bl b):=⟨_,true,true,.bl b,by rfl,by rfl,rfl⟩
theorem Vt:Any K H .non:=⟨_,false,false,.non,by rfl,by rfl,rfl⟩
theorem T7 (z:Str):Any K H (.str z):=⟨_,false,false,.str z,by rfl,by rfl,rfl⟩
theorem dH {a:Addr}{xs:List V}(h:H a=some (.tup xs)):Any K H (.ref a):=⟨_,false,false,.tup h,by rfl,by rfl,rfl⟩
theorem Uo {a:Addr}{xs:List V}(h:H a=some (.lst xs)):Any K H (.ref a):=⟨_,false,false,.lst h,by rfl,by rfl,rfl⟩
theorem F1.same {x:V}{t:Value}(s:Ak H H')(h:F1 K H x t):F1 K H' x t:=by
 cases h with
 | non=>exact .non
 | bl b=>exact .bl b
 | int i=>exact .int i
 | str z=>exact .str z
 | flt z=>exact .flt z
 | lst e=>exact .lst (s _ _ e)
 | frz e=>exact .frz (s _ _ e)
 | tup e=>exact .tup (s _ _ e)
 | dK e=>exact .dK (s _ _ e)
 | dT e=>exact .dT (s _ _ e)
 | ins e cl ha hn htk hm=>exact .ins (s _ _ e) cl ha hn htk hm
theorem Any.same {x:V}(s:Ak H H')(h:Any K H x):Any K H' x:=let ⟨t,b1,b2,h1,r⟩:=h;⟨t,b1,b2,F1.same s h1,r⟩
theorem Vq {x:V}(h:isI x=true):∃ i,x=.int i:=by cases x<;>first | exact ⟨_,rfl⟩ | cases h
theorem tP {x:V}{lo hi:Int}(h:inI x lo hi=true):∃ i,x=.int i/\lo<=i/\i<=hi:=by
 cases x<;>first | cases h | skip
 rename_i i
 have h:(decide (lo<=i)&&decide (i<=hi))=true:=h
 rw [Bool.and_eq_true] at h
 exact ⟨i,rfl,of_decide_eq_true h.1,of_decide_eq_true h.2⟩
end
theorem Pc {l:List Bool}{j:Nat}(h:j<Bp l.length):atI (nV (wordsOf l)) (j:Int)=some (.int (val (A1 l j):Nat)):=by
 refine Bx ?_
 unfold nV TW.wordsOf
 rw [List.getElem?_map,List.getElem?_map,List.getElem?_range h]
 rfl
theorem Ff (r:Int)(n:Nat):∃ k:Nat,r%((n:Int)+1)=(k:Int)/\k<=n:=by
 have h0:=Int.emod_nonneg r (show ((n:Int)+1)≠0 by omega)
 have h1:=Int.emod_lt_of_pos r (show (0:Int)<(n:Int)+1 by omega)
 exact ⟨(r%((n:Int)+1)).toNat,by omega,by omega⟩
def dP:List V:=[.str "0000",.str "1000",.str "0100",.str "1100",.str "0010",.str "1010",.str "0110",.str "1110",.str "0001",.str "1001",.str "0101",.str "1101",.str "0011",.str "1011",.str "0111",.str "1111"]
theorem lF (m k:Nat){j:Int}(h:j=(k:Int)):Builtin.bitAnd (m:Int) (1*2 ^ j.toNat-1)=((m%2 ^ k:Nat):Int):=by
 subst h
 rw [Int.toNat_natCast,Int.one_mul]
 have e:((2:Int) ^ k-1)=((2 ^ k-1:Nat):Int):=by
  have:1<=2 ^ k:=Nat.one_le_two_pow
  rw [Int.natCast_sub this,Int.natCast_pow]
  rfl
 rw [e]
 unfold Builtin.bitAnd
 rw [decide_eq_true (Int.natCast_nonneg m),decide_eq_true (Int.natCast_nonneg (2 ^ k-1))]
 show ((m &&& (2 ^ k-1):Nat):Int)=_
 rw [Nat.and_two_pow_sub_one_eq_mod]
theorem pZ {n:Nat}(h:n<2 ^ 32):n ||| 4294967295=4294967295:=by
 refine Nat.eq_of_testBit_eq fun i=>?_
 rw [Nat.testBit_or,show (4294967295:Nat)=2 ^ 32-1 by decide,Nat.testBit_two_pow_sub_one]
 by_cases hi:i<32
 ·rw [decide_eq_true hi,Bool.or_true]
 ·rw [decide_eq_false hi,Bool.or_false]
  exact Nat.testBit_lt_two_pow (Nat.lt_of_lt_of_le h (Nat.pow_le_pow_right (by decide) (by omega)))
theorem Y6 (m k:Nat):Builtin.bitXor (m:Int) (k:Int)=((m ||| k:Nat):Int)-((m &&& k:Nat):Int):=by
 have hn:∀ x:Int,Builtin.bitNot (Builtin.bitNot x)=x:=fun x=>by unfold Builtin.bitNot;omega
 have ho:Builtin.bitOr (m:Int) (k:Int)=((m ||| k:Nat):Int):=by
  unfold Builtin.bitOr Builtin.bitAnd
  rw [decide_eq_false (show ¬ (0:Int)<=Builtin.bitNot (m:Int) by unfold Builtin.bitNot;omega),decide_eq_false (show ¬ (0:Int)<=Builtin.bitNot (k:Int) by unfold Builtin.bitNot;omega)]
  show Builtin.bitNot (Builtin.bitNot _)=_
  rw [hn,hn,hn,Int.toNat_natCast,Int.toNat_natCast]
 have ha:Builtin.bitAnd (m:Int) (k:Int)=((m &&& k:Nat):Int):=by
  unfold Builtin.bitAnd
  rw [decide_eq_true (Int.natCast_nonneg m),decide_eq_true (Int.natCast_nonneg k)]
  rfl
 unfold Builtin.bitXor
 rw [ho,ha]
theorem Tp:∀ w:List Bool,val w+val (w.map fun b=>!b)+1=2 ^ w.length
 | []=>rfl
 | b::r=>by
  have:=Tp r
  rw [List.map_cons,List.length_cons,Nat.pow_succ]
  cases b<;>simp [val]<;>omega
theorem Rj (b:Bool)(l:List Bool)(j:Nat):Builtin.bitXor ((val (A1 l j):Nat):Int) ((Mp b:Nat):Int)=((val (A1 l j) ^^^ Mp b:Nat):Int):=by
 have hlt:val (A1 l j)<2 ^ 32:=Nat.lt_of_lt_of_le (iV _) (Nat.pow_le_pow_right (by decide) (by unfold A1;rw [List.length_take];omega))
 have h1:=Kq true l j
 have h0:=Kq b l j
 rw [Y6,h0]
 cases b with
 | true =>
  rw [<- h0]
  show (((val (A1 l j) ||| 0:Nat):Int)-((val (A1 l j) &&& 0:Nat):Int))=((val (A1 l j) ^^^ 0:Nat):Int)
  rw [Nat.or_zero,Nat.and_zero,Nat.xor_zero]
  omega
 | false =>
  show (((val (A1 l j) ||| 4294967295:Nat):Int)-((val (A1 l j) &&& 4294967295:Nat):Int))=_
  rw [pZ hlt,show (4294967295:Nat)=2 ^ 32-1 by decide,Nat.and_two_pow_sub_one_eq_mod,Nat.mod_eq_of_lt hlt]
  have hc:=Tp ((List.range 32).map fun p=>l.getD (32*j+p) false==true)
  rw [<- h1,List.map_map,List.length_map,List.length_range] at hc
  have e:((List.range 32).map ((fun b=>!b) ∘ fun p=>l.getD (32*j+p) false==true))=(List.range 32).map fun p=>l.getD (32*j+p) false==false:=List.map_congr_left fun p _=>by
   show (!(l.getD (32*j+p) false==true))=_
   cases l.getD (32*j+p) false<;>rfl
  rw [e] at hc
  have e0:val (A1 l j) ^^^ Mp true=val (A1 l j):=Nat.xor_zero _
  rw [e0] at hc
  omega
theorem Ng (l:List Nat):(nV l).length=l.length:=by unfold nV;rw [List.length_map]
theorem vJ {l:List Nat}{i:Nat}{n:Nat}(h:l[i]?=some n):(nV l)[i]?=some (.int (n:Nat)):=by
 unfold nV
 rw [List.getElem?_map,h]
 rfl
theorem tF (l m:List Nat):nV l++nV m=nV (l++m):=by unfold nV;rw [List.map_append]
theorem Cp {H H1:Hp}{a:Addr}{o:HO}(s:Ak H H1)(h:H a=none):Ak H (upd H1 a o):=fun b u e=>by
 rw [Al (Aq e h)]
 exact s _ _ e
theorem Sz {K:PySem.W.Frag}:kitOne K (.type "list") (.type "list")=some true:=by rfl
theorem eF {l:List Int}{i:Nat}{n:Int}(h:l[i]?=some n):(l.map V.int)[i]?=some (.int n):=by
 rw [List.getElem?_map,h]
 rfl
theorem cH {l:List Int}{i:Nat}{x:V}(h:(l.map V.int)[i]?=some x):∃ n,l[i]?=some n/\x=.int n:=by
 rw [List.getElem?_map] at h
 cases e:l[i]? with
 | none=>rw [e] at h;cases h
 | some n =>
  rw [e] at h
  exact ⟨n,rfl,(Option.some.inj h).symm⟩
theorem Tl {l:List Int}{m:Nat}{x:Int}(h0:0<m)(h:l[m-1]?=some x):atI ((l.take m).map V.int) (-1)=some (.int x):=by
 have hm:=Dl h
 have e:l.take m=l.take (m-1)++[x]:=by
  rw [show m=m-1+1 by omega,List.take_add_one,h]
  rfl
 rw [e,List.map_append]
 exact X5 _ _
theorem Lu {l:List Int}{m:Nat}(h:m<=l.length):((l.take m).map V.int).length=m:=by rw [List.length_map,List.length_take];omega
theorem gN {l:List Int}{m:Nat}(h:m<=l.length):((l.take m).map V.int).dropLast=(l.take (m-1)).map V.int:=by
 rw [<- List.map_dropLast,List.dropLast_eq_take,List.take_take,List.length_take]
 congr 2
 omega
def kY (H:Hp)(p:Addr):Nat:=match H p with | some (.lst xs)=>xs.length | _=>0
theorem Xs {H:Hp}{p:Addr}{xs:List V}(h:H p=some (.lst xs)):kY H p=xs.length:=by unfold kY;rw [h]
theorem mV {K:PySem.W.Frag}{H1:Hp}{Q:VK}{p:Addr}{ls:List (List Bool)}(hl:H1 p=some (.lst (ls.map fun l=>.str (Aw l))))(hz:ls.flatten.length<=100000)(q:Q (.str (Aw ls.flatten)) H1):mF K (.str "") [.ref p] H1 Q:=by
 refine ⟨"",p,ls.map Aw,rfl,rfl,SqL.of ?_,?_,?_⟩
 ·rw [hl,List.map_map]
  rfl
 ·have e:((ls.map Aw).map (·.length)).sum=ls.flatten.length:=by
   rw [List.length_flatten,List.map_map]
   congr 1
   refine List.map_congr_left fun l _=>?_
   exact A5 l
  rw [e]
  show ls.flatten.length+_*0<=_
  omega
 ·have e:Txt.join ("":Str) (ls.map Aw)=Aw ls.flatten:=by
   refine G1 ?_
   rw [Rb,List.map_map]
   show ((ls.map fun l=>(l.map fun b=>if b then 49 else 48).toArray.toList)).flatten=(ls.flatten.map _).toArray.toList
   simp only [List.toList_toArray]
   rw [List.map_flatten]
  rw [e]
  exact q
theorem P0 {ds:List Nat}(h:Dok ds):∀ k,k<=ds.length->opn ds k<=k
 | 0,_=>Nat.le_refl _
 | k+1,hk=>by
  show dAt ds k+1<=k+1
  have:=h k (by omega)
  have:=P0 h k (by omega)
  omega
theorem Jw {ds:List Nat}{d j:Nat}(h:j<ds.length):dAt (ds++[d]) j=dAt ds j:=by
 unfold dAt List.getD
 rw [List.getElem?_append_left h]
theorem Ph (ds:List Nat)(d:Nat):dAt (ds++[d]) ds.length=d:=by
 unfold dAt List.getD
 rw [List.getElem?_append_right (Nat.le_refl _),Nat.sub_self]
 rfl
theorem L5 {ds:List Nat}{d:Nat}:∀ k,k<=ds.length->opn (ds++[d]) k=opn ds k
 | 0,_=>rfl
 | k+1,h=>by
  show dAt (ds++[d]) k+1=dAt ds k+1
  rw [Jw (by omega)]
theorem Mu {ds:List Nat}{d:Nat}:∀ k,k<=ds.length->way (ds++[d]) k=way ds k
 | 0,_=>rfl
 | k+1,h=>by
  show (way (ds++[d]) k).take (dAt (ds++[d]) k+1)++[(k:Int)]=_
  rw [Mu k (by omega),Jw (by omega)]
  rfl
theorem Ga {ds:List Nat}{d:Nat}(h:Dok ds)(hd:d<=opn ds ds.length):Dok (ds++[d]):=fun k hk=>by
 rw [List.length_append] at hk
 simp only [List.length_cons,List.length_nil] at hk
 by_cases e:k=ds.length
 ·subst e
  rw [Ph,L5 _ (Nat.le_refl _)]
  exact hd
 ·rw [Jw (by omega),L5 k (by omega)]
  exact h k (by omega)
theorem Ee (ds:List Nat)(d:Nat):Az (ds++[d])=Az ds++[(way ds ds.length).getD d 0]:=by
 unfold Az
 rw [List.length_append]
 show (List.range (ds.length+1)).map _=_
 rw [List.range_succ,List.map_append]
 congr 1
 ·refine List.map_congr_left fun k hk=>?_
  have hk:=List.mem_range.mp hk
  unfold eld
  rw [Mu k (by omega),Jw hk]
 ·show [eld (ds++[d]) ds.length]=_
  unfold eld
  rw [Mu _ (Nat.le_refl _),Ph]
theorem Fm (ds:List Nat)(d:Nat):way (ds++[d]) (ds.length+1)=(way ds ds.length).take (d+1)++[(ds.length:Int)]:=by
 show (way (ds++[d]) ds.length).take (dAt (ds++[d]) ds.length+1)++_=_
 rw [Mu _ (Nat.le_refl _),Ph]
theorem Jx {ds:List Nat}(h:Dok ds){k:Nat}(hk:k<=ds.length):way ds k=-1::(way ds k).tail:=by
 have e:=Fe h k hk
 cases hw:way ds k with
 | nil=>rw [hw] at e;cases e
 | cons x r =>
  rw [hw] at e
  obtain rfl:=Option.some.inj e
  rfl
def hgt (l:List Bool)(i:Nat):Int:=2*((l.take i).count true:Int)-i
theorem R5 {l:List Bool}{i:Nat}{b:Bool}(h:l[i]?=some b):hgt l (i+1)=hgt l i+if b then 1 else -1:=by
 unfold hgt
 rw [List.take_add_one,h,List.count_append]
 cases b<;>simp<;>omega
theorem nN {row:List Bool}{i:Nat}{b:Bool}(h:row[i]?=some b):row.drop i=b::row.drop (i+1):=by
 have hi:=Dl h
 rw [List.drop_eq_getElem_cons hi]
 rw [List.getElem?_eq_getElem hi] at h
 rw [Option.some.inj h]
theorem mY {row:List Bool}(hv:Vs 0 row):∀ i,i<=row.length->∃ h:Nat,hgt row i=(h:Int)/\Vs h (row.drop i)/\True
 | 0,_=>⟨0,rfl,hv,trivial⟩
 | i+1,hi=>by
  obtain ⟨h,h1,h2,_⟩:=mY hv i (by omega)
  obtain ⟨b,hb⟩:∃ b,row[i]?=some b:=⟨row[i],List.getElem?_eq_getElem (by omega)⟩
  have hs:=R5 hb
  rw [nN hb] at h2
  cases b with
  | false =>
   obtain ⟨g,rfl⟩:∃ g,h=g+1:=⟨h-1,by have:=h2.1;omega⟩
   have hs:hgt row (i+1)=hgt row i + -1:=hs
   exact ⟨g,by omega,h2.2,trivial⟩
  | true =>
   have hs:hgt row (i+1)=hgt row i+1:=hs
   exact ⟨h+1,by omega,h2,trivial⟩
theorem Si (xs:List V)(m:Nat):Lr xs none (some (m:Int))=xs.take m:=by
 unfold Lr
 rw [HT.sIx_nat]
 show (xs.drop 0).take (min m xs.length-0)=xs.take m
 rw [List.drop_zero,Nat.sub_zero]
 by_cases h:m<=xs.length
 ·rw [Nat.min_eq_left h]
 ·rw [Nat.min_eq_right (by omega),List.take_of_length_le (Nat.le_refl _),List.take_of_length_le (by omega)]
theorem iF {ds:List Nat}{d:Nat}(h:Dok (ds++[d])):Dok ds/\d<=opn ds ds.length:=by
 refine ⟨fun k hk=>?_,?_⟩
 ·have:=h k (by rw [List.length_append];omega)
  rw [Jw hk,L5 k (by omega)] at this
  exact this
 ·have:=h ds.length (by rw [List.length_append];simp)
  rw [Ph,L5 _ (Nat.le_refl _)] at this
  exact this
def shI (n:Nat)(b e:Int):Int:=if e<0 then b else e+n
def Hg (ds:List Nat)(D:Nat)(es:List Nat):List Nat:=ds++es.map (·+D)
theorem Xz (ds:List Nat)(D:Nat)(es:List Nat):(Hg ds D es).length=ds.length+es.length:=by unfold Hg;rw [List.length_append,List.length_map]
theorem nY {ds:List Nat}(h1:Dok ds){D:Nat}(hD:D<=opn ds ds.length)(es:List Nat)(h2:Dok es):Dok (Hg ds D es)/\Az (Hg ds D es)=Az ds++(Az es).map (shI ds.length ((way ds ds.length).getD D 0)) /\
  (es≠[]->way (Hg ds D es) (Hg ds D es).length=(way ds ds.length).take (D+1)++(way es es.length).tail.map (fun x:Int=>x+(ds.length:Int))):=by
 have hw:=Cu h1 ds.length (Nat.le_refl _)
 induction es using jW with
 | h0 =>
  have e:Hg ds D []=ds:=by unfold Hg;simp
  rw [e]
  exact ⟨h1,by show Az ds=Az ds++[];simp,fun z=>absurd rfl z⟩
 | h1 es d ih =>
  obtain ⟨h2a,hd⟩:=iF h2
  obtain ⟨k1,k2,k3⟩:=ih h2a
  have ec:Hg ds D (es++[d])=Hg ds D es++[d+D]:=by unfold Hg;rw [List.map_append,<- List.append_assoc];rfl
  have hwe:=Cu h2a es.length (Nat.le_refl _)
  have hhe:=Jx h2a (k:=es.length) (Nat.le_refl _)
  have htl:(way es es.length).tail.length=opn es es.length:=by rw [List.length_tail];omega
  have hwc:=Cu k1 (Hg ds D es).length (Nat.le_refl _)
  by_cases he:es=[]
  ·subst he
   have e0:Hg ds D []=ds:=by unfold Hg;simp
   have d0:d=0:=Nat.le_zero.mp hd
   subst d0
   rw [ec,e0,Nat.zero_add]
   refine ⟨Ga h1 hD,?_,fun _=>?_⟩
   ·rw [Ee]
    rfl
   ·rw [List.length_append]
    show way (ds++[D]) (ds.length+1)=_
    rw [Fm]
    congr 1
    show [(ds.length:Int)]=[(0:Int)+(ds.length:Int)]
    rw [Int.zero_add]
  ·have k3:=k3 he
   have htk:((way ds ds.length).take (D+1)).length=D+1:=by rw [List.length_take];omega
   have hopn:opn (Hg ds D es) (Hg ds D es).length=D+opn es es.length:=by
    rw [k3,List.length_append,List.length_map,htl,htk] at hwc
    omega
   rw [ec]
   refine ⟨Ga k1 (by rw [hopn];omega),?_,fun _=>?_⟩
   ·rw [Ee,Ee,k2,List.map_append,<- List.append_assoc]
    congr 1
    show [_]=[_]
    congr 1
    rw [k3]
    cases d with
    | zero =>
     have e1:(way es es.length).getD 0 0=-1:=by rw [hhe];rfl
     rw [e1,Nat.zero_add]
     unfold shI
     rw [if_pos (by decide)]
     unfold List.getD
     rw [List.getElem?_append_left (by omega),List.getElem?_take_of_lt (by omega)]
    | succ d =>
     have hx:(way es es.length)[d+1]?=some ((way es es.length)[d+1]'(by omega)):=List.getElem?_eq_getElem _
     generalize (way es es.length)[d+1]'(by omega)=x at hx
     obtain ⟨v,rfl,_⟩:=Le h2a es.length d x (Nat.le_refl _) hx
     have e1:(way es es.length).getD (d+1) 0=(v:Int):=by unfold List.getD;rw [hx];rfl
     rw [e1]
     unfold shI
     rw [if_neg (by omega)]
     unfold List.getD
     rw [List.getElem?_append_right (by omega),htk,List.getElem?_map,show d+1+D-(D+1)=d by omega]
     rw [hhe] at hx
     rw [List.getElem?_cons_succ] at hx
     rw [hx]
     rfl
   ·have e2:(Hg ds D es++[d+D]).length=(Hg ds D es).length+1:=by rw [List.length_append];rfl
    have e3:(es++[d]).length=es.length+1:=by rw [List.length_append];rfl
    rw [e2,Fm,e3,Fm,k3]
    have e4:((way es es.length).take (d+1)++[(es.length:Int)]).tail=(way es es.length).tail.take d++[(es.length:Int)]:=by
     rw [hhe]
     rfl
    rw [e4,List.map_append,<- List.append_assoc]
    have e5:((way ds ds.length).take (D+1)++(way es es.length).tail.map (fun x:Int=>x+(ds.length:Int))).take (d+D+1)=(way ds ds.length).take (D+1)++((way es es.length).tail.take d).map (fun x:Int=>x+(ds.length:Int)):=by
     rw [List.take_append,htk,List.take_of_length_le (by omega),show d+D+1-(D+1)=d by omega,List.map_take]
    rw [e5]
    congr 1
    show [((Hg ds D es).length:Int)]=[(es.length:Int)+(ds.length:Int)]
    rw [Xz]
    congr 1
    omega
theorem cO {l:List Nat}{i:Nat}{x:V}(h:(nV l)[i]?=some x):∃ n,l[i]?=some n/\x=.int (n:Nat):=by
 unfold nV at h
 rw [List.getElem?_map] at h
 cases e:l[i]? with
 | none=>rw [e] at h;cases h
 | some n =>
  rw [e] at h
  exact ⟨n,rfl,(Option.some.inj h).symm⟩
def grB (ns:List Nat):List Bool:=(ns.map fun n=>List.replicate n true++[false]).flatten
theorem O2 (ns:List Nat):(grB ns).length=ns.sum+ns.length:=by
 induction ns with
 | nil=>rfl
 | cons n r ih =>
  show (List.replicate n true++[false]++grB r).length=_
  rw [List.length_append,ih]
  simp
  omega
theorem P7 {ns:List Nat}{i n:Nat}(h:ns[i]?=some n):n<=ns.sum:=by
 induction ns generalizing i with
 | nil=>cases h
 | cons m r ih =>
  cases i with
  | zero=>cases h;simp
  | succ i=>have:=ih (i:=i) h;simp;omega
def R0:Sp:=fun vs H Q _=>∃ (l:Addr) (ns:List Nat),vs=[.ref l]/\H l=some (.lst (nV ns))/\ns.sum+ns.length<=20000/\∀ H',Ak H H'->Q (.str (Aw (grB ns))) H'
theorem oJ (ns:List Nat):Aw (grB ns)=⟨(grC ns).toArray⟩:=by
 unfold Aw
 congr 2
 induction ns with
 | nil=>rfl
 | cons n r ih =>
  show (List.replicate n true++[false]++grB r).map _=List.replicate n 49++[48]++grC r
  rw [List.map_append,ih]
  simp
theorem T3:∀ (n h:Nat) (s:List Bool),Vs (h+n) s->Vs h (List.replicate n true++s)
 | 0,h,s,v=>v
 | n+1,h,s,v=>by
  rw [List.replicate_succ,List.cons_append]
  exact T3 n (h+1) s (by rw [show h+1+n=h+(n+1) by omega];exact v)
theorem S4:∀ {ns:List Nat} {h:Nat},Gd h ns->Vs h (grB ns)
 | [],h,g=>g
 | n::r,h,g=>by
  show Vs h (List.replicate n true++[false]++grB r)
  rw [List.append_assoc]
  refine T3 n h _ ⟨by have:=g.1;omega,?_⟩
  exact S4 g.2
structure Fk (H H':Hp):Prop where
 keep:∀ b u,(∀ ps,u≠.tbl ps)->H b=some u->H' b=some u
 tb:∀ b ps,H b=some (.tbl ps)->∃ ps',H' b=some (.tbl ps')
theorem Fk.refl (H:Hp):Fk H H:=⟨fun _ _ _ e=>e,fun _ ps e=>⟨ps,e⟩⟩
theorem Fk.trans {H H1 H2:Hp}(a:Fk H H1)(b:Fk H1 H2):Fk H H2:=⟨fun c u n e=>b.keep c u n (a.keep c u n e),fun c ps e=>let ⟨ps',e'⟩:=a.tb c ps e;b.tb c ps' e'⟩
theorem Fk.tup {H H':Hp}(s:Fk H H'){a:Addr}{xs:List V}(h:H a=some (.tup xs)):H' a=some (.tup xs):=s.keep _ _ (by intro ps e;cases e) h
theorem Fk.seq {K:PySem.W.Frag}{H H':Hp}{a:Addr}{xs:List V}(s:Fk H H')(h:SqL K H a xs):SqL K H' a xs:=by
 rcases h with (h | ⟨o,h⟩) | h
 ·exact .inl (.inl (s.keep _ _ (by intro ps e;cases e) h))
 ·exact .inl (.inr ⟨o,s.keep _ _ (by intro ps e;cases e) h⟩)
 ·exact .inr h
theorem jE {H H':Hp}(s:Ak H H'):Fk H H':=⟨fun b u _ e=>s b u e,fun b ps e=>⟨ps,s b _ e⟩⟩
theorem F1.sameT {K:PySem.W.Frag}{H H':Hp}{x:V}{t:Value}(s:Fk H H')(h:F1 K H x t):F1 K H' x t:=by
 cases h with
 | non=>exact .non
 | bl b=>exact .bl b
 | int i=>exact .int i
 | str z=>exact .str z
 | flt z=>exact .flt z
 | lst e=>exact .lst (s.keep _ _ (by intro ps e;cases e) e)
 | frz e=>exact .frz (s.keep _ _ (by intro ps e;cases e) e)
 | tup e=>exact .tup (s.keep _ _ (by intro ps e;cases e) e)
 | dK e=>exact .dK (s.keep _ _ (by intro ps e;cases e) e)
 | dT e=>exact .dT (s.keep _ _ (by intro ps e;cases e) e)
 | ins e cl ha hn htk hm=>exact .ins (s.keep _ _ (by intro ps e;cases e) e) cl ha hn htk hm
theorem Any.sameT {K:PySem.W.Frag}{H H':Hp}{x:V}(s:Fk H H')(h:Any K H x):Any K H' x:=let ⟨t,b1,b2,h1,r⟩:=h;⟨t,b1,b2,F1.sameT s h1,r⟩
structure Tb where
 P:Addr
 pos:Pos
 qual:Str
def Tb.ok (t:Tb)(H:Hp):Prop:=Sk H t.P t.pos t.qual
theorem Tb.same {t:Tb}{H H':Hp}(s:Ak H H')(h:t.ok H):t.ok H':=by
 obtain ⟨ps,e1,e2,e3⟩:=h
 exact ⟨ps,s _ _ e1,e2,e3.imp id fun ⟨c,oc,a1,a2,a3⟩=>⟨c,oc,a1,s _ _ a2,a3⟩⟩
theorem Tb.sameX {t:Tb}{P:Addr}{H H':Hp}(s:Oe P H H')(hP:∃ ps,H P=some (.tbl ps))(n:t.P≠P)(h:t.ok H):t.ok H':=by
 obtain ⟨ps,e1,e2,e3⟩:=h
 obtain ⟨ps',hP⟩:=hP
 exact ⟨ps,s _ _ n e1,e2,e3.imp id fun ⟨c,oc,a1,a2,a3⟩=>⟨c,oc,a1,s _ _ (fun z=>by rw [z,hP] at a2;cases a2) a2,a3⟩⟩
theorem pB {P:Addr}{H H':Hp}(s:Oe P H H')(hP:∃ ps,H P=some (.tbl ps))(hP':∃ ps,H' P=some (.tbl ps)):Fk H H':=by
 refine ⟨fun b u n e=>s b u (fun z=>?_) e,fun b ps e=>?_⟩
 ·obtain ⟨ps,hP⟩:=hP
  rw [z,hP] at e
  cases e
  exact n ps rfl
 ·by_cases hb:b=P
  ·rw [hb];exact hP'
  ·exact ⟨ps,s b _ hb e⟩
theorem Tb.tbl {t:Tb}{H:Hp}(h:t.ok H):∃ ps,H t.P=some (.tbl ps):=let ⟨ps,e,_⟩:=h;⟨ps,e⟩
def Tbs (ts:List Tb)(H:Hp):Prop:=(∀ t∈ts,t.ok H)/\(ts.map (·.P)).Nodup
structure SmT (ts:List Tb) (H H':Hp):Prop where
 sm:Fk H H'
 ok:Tbs ts H'
theorem Tbs.same {ts:List Tb}{H H':Hp}(h:Tbs ts H)(s:Ak H H'):Tbs ts H':=⟨fun t ht=>Tb.same s (h.1 t ht),h.2⟩
theorem SmT.of {ts:List Tb}{H H':Hp}(h:Tbs ts H)(s:Ak H H'):SmT ts H H':=⟨jE s,h.same s⟩
theorem SmT.refl {ts:List Tb}{H:Hp}(h:Tbs ts H):SmT ts H H:=⟨Fk.refl _,h⟩
theorem SmT.trans {ts:List Tb}{H H1 H2:Hp}(a:SmT ts H H1)(b:SmT ts H1 H2):SmT ts H H2:=⟨a.sm.trans b.sm,b.ok⟩
theorem SmT.then {ts:List Tb}{H H1 H2:Hp}(a:SmT ts H H1)(b:Ak H1 H2):SmT ts H H2:=a.trans (.of a.ok b)
theorem SmT.k {ts:List Tb}{H H':Hp}(s:SmT ts H H'){b:Addr}{u:HO}(h:H b=some u)(n:∀ ps,u≠.tbl ps:=by intro ps e;cases e):H' b=some u:=s.sm.keep _ _ n h
theorem SmT.any {K:PySem.W.Frag}{ts:List Tb}{H H':Hp}(s:SmT ts H H'){x:V}(h:Any K H x):Any K H' x:=h.sameT s.sm
theorem kK:∀ {ts:List Tb} {t u:Tb},(ts.map (·.P)).Nodup->t∈ts->u∈ts->t.P=u.P->t=u
 | [],_,_,_,h,_,_=>nomatch h
 | x::r,t,u,hn,ht,hu,e=>by
  rw [List.map_cons,List.nodup_cons] at hn
  rcases List.mem_cons.mp ht with rfl | ht'<;>rcases List.mem_cons.mp hu with rfl | hu'
  ·rfl
  ·exact absurd (List.mem_map_of_mem (f:=(·.P)) hu') (by rw [<- e];exact hn.1)
  ·exact absurd (List.mem_map_of_mem (f:=(·.P)) ht') (by rw [e];exact hn.1)
  ·exact kK hn.2 ht' hu' e
theorem wT {ts:List Tb}{t:Tb}{H H':Hp}(h:Tbs ts H)(ht:t∈ts)(s:Oe t.P H H')(ok:t.ok H'):SmT ts H H':=by
 have hP:=Tb.tbl (h.1 t ht)
 refine ⟨pB s hP (Tb.tbl ok),fun u hu=>?_,h.2⟩
 by_cases e:u.P=t.P
 ·have:u=t:=kK h.2 hu ht e
  rw [this];exact ok
 ·exact Tb.sameX s hP e (h.1 u hu)
theorem Sg (n:Nat):Dok (List.replicate n 0):=fun k hk=>by
 have:dAt (List.replicate n 0) k=0:=by
  unfold dAt List.getD
  rw [List.getElem?_replicate]
  split<;>rfl
 omega
theorem iM (n k:Nat):dAt (List.replicate n 0) k=0:=by
 unfold dAt List.getD
 rw [List.getElem?_replicate]
 split<;>rfl
theorem fW (n:Nat):Az (List.replicate n 0)=List.replicate n (-1):=by
 refine List.ext_getElem? fun k=>?_
 rw [List.getElem?_replicate]
 by_cases hk:k<n
 ·rw [if_pos hk,Hu (by rw [List.length_replicate];exact hk)]
  have h:=Jy (Sg n) (k:=k) (by rw [List.length_replicate];exact hk)
  rw [iM,Fe (Sg n) k (by rw [List.length_replicate];omega)] at h
  exact h.symm
 ·rw [if_neg hk,List.getElem?_eq_none (by rw [Bv,List.length_replicate];omega)]
theorem tV {ds:List Nat}(h:Dok ds){k:Nat}(hk:k<=ds.length){x:Int}(hx:x∈way ds k):-1<=x:=by
 obtain ⟨j,hj⟩:=List.getElem?_of_mem hx
 cases j with
 | zero =>
  rw [Fe h k hk] at hj
  have:=Option.some.inj hj
  omega
 | succ j =>
  obtain ⟨v,hv,_⟩:=Le h k j x hk hj
  omega
theorem sW {ds:List Nat}(h:Dok ds){k:Nat}(hk:k<ds.length):eld ds k∈way ds k:=List.mem_of_getElem? (Jy h hk)
theorem Ws {ds es:List Nat}(h1:Dok ds)(h2:Dok es):∀ k,k<=ds.length->k<=es.length->(∀ j,j<k->eld ds j=eld es j)->way ds k=way es k
 | 0,_,_,_=>rfl
 | k+1,k1,k2,he=>by
  have ih:=Ws h1 h2 k (by omega) (by omega) fun j hj=>he j (by omega)
  have e:=he k (by omega)
  have a1:=Jy h1 (k:=k) (by omega)
  have a2:=Jy h2 (k:=k) (by omega)
  rw [<- e,<- ih] at a2
  have hd:dAt ds k=dAt es k:=by
   rcases Nat.lt_trichotomy (dAt ds k) (dAt es k) with h | h | h
   ·have:=Lj h1 k _ _ _ _ (by omega) h a1 a2
    omega
   ·exact h
   ·have:=Lj h1 k _ _ _ _ (by omega) h a2 a1
    omega
  show (way ds k).take (dAt ds k+1)++[(k:Int)]=(way es k).take (dAt es k+1)++[(k:Int)]
  rw [ih,hd]
def P2 (xs:List V)(k:Nat):Prop:=∃ ds,Dok ds/\ds.length=k/\k<xs.length/\k<=4000/\xs.take k=(Az ds).map V.int/\(k=4000\/∀ e,xs[k]?=some (V.int e)->e∉way ds k)
def rL (xs:List V)(ds:List Nat):Prop:=Dok ds/\ds.length<=4000/\xs=(Az ds).map V.int
def J9:Option (List V)->Nat->Prop
 | some xs,k=>P2 xs k
 | none,k=>k=0
def K4:Option (List V)->List Nat->Prop
 | some xs,ds=>rL xs ds
 | none,_=>False
theorem dW {xs:List V}{ds:List Nat}{n j:Nat}(hl:ds.length=n)(h:xs.take n=(Az ds).map V.int)(hj:j<n):xs[j]?=some (.int (eld ds j)):=by
 have e:(xs.take n)[j]?=some (.int (eld ds j)):=by
  rw [h]
  exact eF (Hu (by omega))
 rw [List.getElem?_take_of_lt hj] at e
 exact e
theorem Rs {xs:List V}{k:Nat}{es:List Nat}(hf:P2 xs k)(hE:Dok es)(hk:k<es.length)(hk4:k<4000)(hx:∀ j,j<es.length->xs[j]?=some (.int (eld es j))):False:=by
 obtain ⟨ds,hD,hl,_,_,htk,hb⟩:=hf
 rcases hb with h | h
 ·omega
 ·have hw:way ds k=way es k:=Ws hD hE k (by omega) (by omega) fun j hj=>by
   have e1:=dW hl htk hj
   rw [hx j (by omega)] at e1
   exact (V.int.inj (Option.some.inj e1)).symm
  refine h _ (hx k hk) ?_
  rw [hw]
  exact sW hE hk
theorem Zx {xs:List V}{k j:Nat}(h1:P2 xs k)(h2:P2 xs j):k=j:=by
 have key:∀ {k j:Nat},P2 xs k->P2 xs j->¬ k<j:=fun {k j} h1 h2 hlt=>by
  obtain ⟨es,hE,hl,_,h4,htk,_⟩:=h2
  exact Rs h1 hE (by omega) (by omega) fun i hi=>dW hl htk (by omega)
 have a:=key h1 h2
 have b:=key h2 h1
 omega
theorem Zp {xs:List V}{k:Nat}{ds:List Nat}(h1:P2 xs k)(h2:rL xs ds):False:=by
 obtain ⟨hD,hl,e⟩:=h2
 have hlen:xs.length=ds.length:=by rw [e,List.length_map,Bv]
 obtain ⟨_,_,_,hk,_⟩:=id h1
 refine Rs h1 hD (by omega) (by omega) fun j hj=>?_
 rw [e]
 exact eF (Hu hj)
theorem Ob {o:Option (List V)}{k j:Nat}(h1:J9 o k)(h2:J9 o j):k=j:=by
 cases o with
 | some xs=>exact Zx h1 h2
 | none=>exact (show k=0 from h1).trans (show j=0 from h2).symm
theorem Ef {o:Option (List V)}{k:Nat}{ds:List Nat}(h1:J9 o k)(h2:K4 o ds):False:=by
 cases o with
 | some xs=>exact Zp h1 h2
 | none=>exact h2
def rT (C:Addr)(H:Hp)(E:XK)(o:Option (List V)):Prop:=∀ k:Nat,J9 o k->∀ dx H',Ak H H'->H dx=none->H' dx=some (.xd [("place",.int k)])->E (.ref C) (some dx) H'
theorem S9 (K:PySem.W.Frag){X:Cx}{e:Expr}{te:TE}{pos:Pos}(he:PE X e te)(h:X.K=K:=by rfl)(hb:attributeBase e "place" X.env (eval e X.env)=eval e X.env:=by rfl):PE X (.Attribute e "place" pos) (cL K te):=by
 subst h
 exact jV he hb
def ThA (K:PySem.W.Frag)(H:Hp)(v:V):Option (List V)->Prop
 | some xs=>∃ a,v=.ref a/\H a=some (.lst xs)/\(∀ x∈xs,Any K H x)/\xs.length<=10000
 | none=>∃ t,F1 K H v t/\kitOne K t (.type "list")=some false
theorem ThA.same {K:PySem.W.Frag}{H H':Hp}{v:V}{o:Option (List V)}(s:Ak H H')(h:ThA K H v o):ThA K H' v o:=by
 cases o with
 | some xs=>obtain ⟨a,e,ha,hf,r⟩:=h;exact ⟨a,e,s _ _ ha,fun x hx=>(hf x hx).same s,r⟩
 | none=>obtain ⟨t,ht,r⟩:=h;exact ⟨t,F1.same s ht,r⟩
def sC (o:Option (List V))(r:V):Prop:=(r=.non/\∃ ds,K4 o ds)\/∃ k:Nat,r=.int k/\J9 o k
theorem sV {w:List Int}{e:Int}:inV (.int e) (w.map V.int)=decide (e∈w):=by
 unfold inV
 rw [List.any_map]
 by_cases h:e∈w
 ·rw [decide_eq_true h,List.any_eq_true]
  exact ⟨e,h,by simp [eqV]⟩
 ·rw [decide_eq_false h]
  refine Bool.eq_false_iff.mpr fun hc=>?_
  obtain ⟨x,hx,hxe⟩:=List.any_eq_true.mp hc
  have:x=e:=by simpa [eqV] using hxe
  exact h (this▸hx)
theorem kH (n:Nat)(i:Int):(List.replicate n [V.int i]).flatten=(List.replicate n i).map V.int:=by
 induction n with
 | zero=>rfl
 | succ n ih=>rw [List.replicate_succ,List.flatten_cons,ih,List.replicate_succ];rfl
theorem No:J9 (some ((List.replicate 4001 (-1:Int)).map V.int)) 4000:=by
 refine ⟨List.replicate 4000 0,Sg 4000,List.length_replicate,by rw [List.length_map,List.length_replicate];omega,Nat.le_refl _,?_,.inl rfl⟩
 rw [fW,<- List.map_take,List.take_replicate]
 rfl
theorem gG {ds:List Nat}(hD:Dok ds)(hl:ds.length<=4000):K4 (some ((Az ds).map V.int)) ds:=⟨hD,hl,rfl⟩
theorem S6 {ds es:List Nat}(hD:Dok ds)(h:K4 (some ((Az ds).map V.int)) es):es=ds:=by
 obtain ⟨hE,_,e⟩:=h
 have e2:Az ds=Az es:=by
  have:=congrArg (List.map fun v:V=>match v with | .int i=>i | _=>0) e
  rw [List.map_map,List.map_map] at this
  have hid:∀ l:List Int,l.map ((fun v:V=>match v with | .int i=>i | _=>0) ∘ V.int)=l:=fun l=>by
   conv=>rhs;rw [<- List.map_id l]
   exact List.map_congr_left fun _ _=>rfl
  rw [hid,hid] at this
  exact this
 exact (mP hD hE e2).symm
theorem jP {K:PySem.W.Frag}{H:Hp}{a:Addr}{ns:List Int}(h:H a=some (.lst (ns.map V.int)))(hl:ns.length<=4000):ThA K H (.ref a) (some (ns.map V.int)) :=
 ⟨a,rfl,h,fun x hx=>by obtain ⟨n,_,rfl⟩:=List.mem_map.mp hx;exact Bt n,by rw [List.length_map];omega⟩
theorem fG {C:Addr}{H:Hp}{E:XK}{o:Option (List V)}{ds:List Nat}(h:K4 o ds):rT C H E o:=fun k hk=>(Ef hk h).elim
theorem qD {i:Nat}(h:i<=10000):((i:Int)).natAbs<10 ^ 12:=by
 have:(10000:Nat)<10 ^ 12:=by decide
 omega
def oM (K:PySem.W.Frag):R2:=fun x y H Q=>(x=.non/\y=.non/\Q (.bl false) H)\/eC K false x y H Q
theorem rW {X:Cx}(hu:X.A.units+60<cLine):OpR X (compareOp .NotEq) (oM X.K):=by
 intro pins s σ H x y u v Q I rx ry h
 rcases h with ⟨rfl,rfl,q⟩ | h
 ·exact Tw pins s σ H .non .non u v Q I rx ry ⟨rfl,q⟩
 ·exact Zj hu pins s σ H x y u v Q I rx ry h
def NoK (k:V)(n:Nat):Prop:=inI k 0 ((n:Int)-1)=false
def Ta (i:V):Prop:=∀ j,i=.int j->j<0
def eK (K:PySem.W.Frag)(ts:List Tb):Sp:=fun vs H Q _=>∃ (a:Addr) (ns:List Int),vs=[.ref a]/\SqL K H a (ns.map V.int)/\ns.length<=63/\Tbs ts H/\∀ H',Q (.bl true) H'
abbrev AllMk:Prop:=∀ {l:PySem.W.OpenLaw} {w:World} {K:PySem.W.Frag} {h:Heap} {mg:Str->Option Value} {fa:Addr} (X:K.In h) (G:h.Ns mainGlobals mg) (hfa:mg "law"=some (.ref fa))
  {ai:Addr}
  {ae:Addr}
  {ag:Addr}
  {af:Addr}
  {aN:Addr}
  {f0:Addr} {od0 an0:Option Addr} {sl0:Array (Option Value)} {oc0 kV0 dc0 pm0 cd0 ct0:Value}
  {f27:Addr} {od27 an27:Option Addr} {sl27:Array (Option Value)} {oc27 kV27 dc27 pm27 ct27:Value}
  {oo27:Obj}
  {aB:Addr} {o_ONES_OF_FOUR:Obj} {i_ONES_OF_FOUR:Array Value} {n_ONES_OF_FOUR:Nat}
  {aC:Addr} {o_SIGNS_OF_FOUR:Obj} {i_SIGNS_OF_FOUR:Array Value} {n_SIGNS_OF_FOUR:Nat}
  {t_WORD_BITS:Tok}
  {t_MOST_BITS:Tok}
  {t_BLOCK_WORDS:Tok}
  {t_BLOCK_BITS:Tok}
  {t_FULL_WORD:Tok}
  {t_MOST_SIGNS:Tok}
  {t_STRETCH_BITS:Tok}
  {t_MOST_KNOTS:Tok}
  {t_MARK_STEP:Tok}
  {ah:Addr}
  {ad:Addr}
  {aa:Addr}
  {ac:Addr}
  {aj:Addr}
  {am:Addr}
  {ao:Addr}
  {aq:Addr}
  {ar:Addr}
  {au:Addr}
  {av:Addr}
  {aw:Addr}
  {ax:Addr}
  {ay:Addr}
  {az:Addr}
  {aA:Addr}
  {nm_NoWood qn_NoWood:Str} {N_NoWood:Addr} {bs_NoWood:List Value} {sn_NoWood:List Str} {sub_NoWood:List Value} {ab_NoWood:Bool} {col_NoWood:Option Bool} {dd_NoWood:Option Addr} {k0_NoWood k1_NoWood k2_NoWood k3_NoWood k5_NoWood:Option Value}
  (cd_Bits:CD K ai "Bits")
  (fd_Bits:FD K ai ["length","many_ones","kept_words"])
  (cd_Counts:CD K ae "Counts")
  (fd_Counts:FD K ae ["length","kept_words","kept_table"])
  (cd_Pairs:CD K ag "Pairs")
  (fd_Pairs:FD K ag ["bits","counts","length","kept_table","often_least"])
  (cd_Counted:CD K af "Counted")
  (fd_Counted:FD K af ["knots","pairs","marks"])
  (bc_Heights:BC K aN "Heights")
  (i0:PySem.W.isFn K (.ref f0)=true)
  (a0:PySem.W.findIn K (.ref ac) "__init__"=some (some (.ref f0))) (l0:K.lookup f0=some ⟨oc0,od0,.func (PySem.W.fnOf "__init__" "NoWood.__init__" (Cw C4) (B5 C4) (Ae C4) .none kV0 dc0 pm0 an0 cd0 ct0),sl0⟩) (c0:PySem.W.codeIn K cd0 "NoWood.__init__"=true) (k0:PySem.W.keepIn K (.ref f0)=true)
  (g1:GD K "is_whole" Ld)
  (g2:GD K "is_within" J6)
  (g3:GD K "check_bit" Kl)
  (g4:GD K "check_place" G8)
  (g5:GD K "check_stretch" Fw)
  (g6:GD K "check_from_nought" Dp)
  (g7:GD K "check_knot" Il)
  (g8:GD K "ones_in" M4)
  (g9:GD K "nth_of_four" Fb)
  (g10:GD K "nth_one" M3)
  (g11:GD K "is_row" Po)
  (g12:GD K "word_of" Nf)
  (g13:GD K "words_of" Ig)
  (g14:GD K "signs_of" Ij)
  (g15:MD K ai "__init__" "Bits.__init__" Jt)
  (g16:MD K ai "size" "Bits.size" J4)
  (g17:MD K ai "words" "Bits.words" Hx)
  (g18:MD K ai "stretch" "Bits.stretch" El)
  (g19:GD K "first_that" Ix)
  (g20:GD K "running_sums" Gu)
  (g21:GD K "table_of_words" Cj)
  (g22:MD K ae "__init__" "Counts.__init__" G4)
  (g23:MD K ae "ones_ahead" "Counts.ones_ahead" Dr)
  (g24:MD K ae "ahead" "Counts.ahead" Gq)
  (g25:MD K ae "ahead_of_block" "Counts.ahead_of_block" Ck)
  (g26:MD K ae "many_like" "Counts.many_like" D5)
  (i27:PySem.W.isFn K (.ref f27)=true)
  (a27:PySem.W.findIn K (.ref ae) "block_with"=some (some (.ref f27))) (l27:K.lookup f27=some ⟨oc27,od27,.func (PySem.W.fnOf "block_with" "Counts.block_with" (Cw Bg) (B5 Bg) (Ae Bg) .none kV27 dc27 pm27 an27 (.ref 513) ct27),sl27⟩) (c27:PySem.W.codeIn K (.ref 513) "Counts.block_with"=true) (k27:PySem.W.keepIn K (.ref f27)=true)
  (lc27:K.lookup 513=some oo27) (hc27:Mh oo27 513 509)
  (g28:MD K ae "place_from" "Counts.place_from" Dn)
  (g29:MD K ae "place_of" "Counts.place_of" Eh)
  (g30:GD K "heights_of" Iu)
  (g31:GD K "check_row" Jm)
  (g32:BD K aN "__init__" "Heights.__init__" Gp)
  (g33:MD K ag "opens_ahead" "Pairs.opens_ahead" Do)
  (g34:MD K ag "closes_ahead" "Pairs.closes_ahead" C9)
  (g35:MD K ag "height" "Heights.height" E1)
  (g36:MD K ag "stretch" "Pairs.stretch" Fz)
  (g37:MD K ag "size" "Heights.size" Gb)
  (g38:MD K ag "text" "Heights.text" Gc)
  (g39:MD K ag "__init__" "Pairs.__init__" Cv)
  (g40:MD K ag "closing" "Pairs.closing" Fu)
  (g41:GD K "look_at" M7)
  (g42:GD K "depths_of" Kj)
  (g43:GD K "children_counted" D1)
  (g44:GD K "counted_row" Fd)
  (g45:GD K "thin_rest" Js)
  (g46:GD K "marked_depths" Dz)
  (g47:MD K af "__init__" "Counted.__init__" Go)
  (g48:MD K af "row" "Counted.row" G3)
  (g49:MD K af "elders" "Counted.elders" Dh)
  (g50:MD K af "many" "Counted.many" Ge)
  (g51:MD K af "nth" "Wood.nth" K7)
  (g52:MD K af "first" "Wood.first" Hy)
  (g53:MD K af "last" "Wood.last" Jq)
  (g54:MD K af "stem" "Counted.stem" Gn)
  (g55:MD K af "stretch" "Counted.stretch" Eu)
  (g56:MD K af "elder" "Counted.elder" Fy)
  (g57:MD K af "right" "Counted.right" Fx)
  (g58:MD K af "left" "Counted.left" Gk)
  (g59:MD K af "child_place" "Counted.child_place" C6)
  (g60:MD K af "behind" "Counted.behind" E4)
  (g61:MD K af "beneath" "Counted.beneath" Ev)
  (g62:MD K af "depth" "Counted.depth" Ft)
  (g63:MD K af "lies_beneath" "Counted.lies_beneath" Cy)
  (g64:GD K "_law_cell_at" G6)
  (g65:GD K "_law_twice" Kg)
  (g66:GD K "_law_grown" Km)
  (g67:GD K "_law_drawn" Kb)
  (g68:GD K "_law_repeated" Et)
  (g69:GD K "_law_wood" Lp)
  (g70:GD K "_law_class" J5)
  (g71:GD K "_law_bar" M8)
  (g72:GD K "_law_spoilt" Ie)
  (g73:GD K "_law_refused" G5)
  (g74:GD K "_law_made" Lh)
  (g75:GD K "_law_no_knots" Gf)
  (g76:GD K "_law_no_number" Fs)
  (g77:GD K "law" Th)
  (g_ONES_OF_FOUR:PySem.W.nsIn K mainGlobals "ONES_OF_FOUR"=some (some (.ref aB))) (o1_ONES_OF_FOUR:K.lookup aB=some o_ONES_OF_FOUR) (o2_ONES_OF_FOUR:o_ONES_OF_FOUR.cls=.type "tuple") (o3_ONES_OF_FOUR:o_ONES_OF_FOUR.data=.seq i_ONES_OF_FOUR n_ONES_OF_FOUR) (o4_ONES_OF_FOUR:i_ONES_OF_FOUR.size<=sizeLine) (o5_ONES_OF_FOUR:A0 (Tf.map fun n:Nat=>V.int n) i_ONES_OF_FOUR.toList)
  (g_SIGNS_OF_FOUR:PySem.W.nsIn K mainGlobals "SIGNS_OF_FOUR"=some (some (.ref aC))) (o1_SIGNS_OF_FOUR:K.lookup aC=some o_SIGNS_OF_FOUR) (o2_SIGNS_OF_FOUR:o_SIGNS_OF_FOUR.cls=.type "tuple") (o3_SIGNS_OF_FOUR:o_SIGNS_OF_FOUR.data=.seq i_SIGNS_OF_FOUR n_SIGNS_OF_FOUR) (o4_SIGNS_OF_FOUR:i_SIGNS_OF_FOUR.size<=sizeLine) (o5_SIGNS_OF_FOUR:A0 (dP) i_SIGNS_OF_FOUR.toList)
  (g_WORD_BITS:PySem.W.nsIn K mainGlobals "WORD_BITS"=some (some (.int 32 t_WORD_BITS)))
  (g_MOST_BITS:PySem.W.nsIn K mainGlobals "MOST_BITS"=some (some (.int 20000 t_MOST_BITS)))
  (g_BLOCK_WORDS:PySem.W.nsIn K mainGlobals "BLOCK_WORDS"=some (some (.int 8 t_BLOCK_WORDS)))
  (g_BLOCK_BITS:PySem.W.nsIn K mainGlobals "BLOCK_BITS"=some (some (.int 256 t_BLOCK_BITS)))
  (g_FULL_WORD:PySem.W.nsIn K mainGlobals "FULL_WORD"=some (some (.int 4294967295 t_FULL_WORD)))
  (g_MOST_SIGNS:PySem.W.nsIn K mainGlobals "MOST_SIGNS"=some (some (.int 8192 t_MOST_SIGNS)))
  (g_STRETCH_BITS:PySem.W.nsIn K mainGlobals "STRETCH_BITS"=some (some (.int 256 t_STRETCH_BITS)))
  (g_MOST_KNOTS:PySem.W.nsIn K mainGlobals "MOST_KNOTS"=some (some (.int 4000 t_MOST_KNOTS)))
  (g_MARK_STEP:PySem.W.nsIn K mainGlobals "MARK_STEP"=some (some (.int 16 t_MARK_STEP)))
  (z_range:PySem.W.nsIn K mainGlobals "range"=some none)
  (z_len:PySem.W.nsIn K mainGlobals "len"=some none)
  (z_int:PySem.W.nsIn K mainGlobals "int"=some none)
  (z_bool:PySem.W.nsIn K mainGlobals "bool"=some none)
  (z_str:PySem.W.nsIn K mainGlobals "str"=some none)
  (z_isinstance:PySem.W.nsIn K mainGlobals "isinstance"=some none)
  (z_list:PySem.W.nsIn K mainGlobals "list"=some none)
  (z_tuple:PySem.W.nsIn K mainGlobals "tuple"=some none)
  (z_dict:PySem.W.nsIn K mainGlobals "dict"=some none)
  (z_enumerate:PySem.W.nsIn K mainGlobals "enumerate"=some none)
  (z_zip:PySem.W.nsIn K mainGlobals "zip"=some none)
  (z_sum:PySem.W.nsIn K mainGlobals "sum"=some none)
  (z_abs:PySem.W.nsIn K mainGlobals "abs"=some none)
  (z_max:PySem.W.nsIn K mainGlobals "max"=some none)
  (z_min:PySem.W.nsIn K mainGlobals "min"=some none)
  (z_ValueError:PySem.W.nsIn K mainGlobals "ValueError"=some none)
  (eg_WoodError:PySem.W.nsIn K mainGlobals "WoodError"=some (some (.ref ah)))
  (eg_NoPlace:PySem.W.nsIn K mainGlobals "NoPlace"=some (some (.ref ad)))
  (eg_NoKnot:PySem.W.nsIn K mainGlobals "NoKnot"=some (some (.ref aa)))
  (eg_NoWood:PySem.W.nsIn K mainGlobals "NoWood"=some (some (.ref ac)))
  (eg_NoBits:PySem.W.nsIn K mainGlobals "NoBits"=some (some (.ref aj)))
  (eg_NoRow:PySem.W.nsIn K mainGlobals "NoRow"=some (some (.ref am)))
  (eg_NoOrder:PySem.W.nsIn K mainGlobals "NoOrder"=some (some (.ref ao)))
  (eg_NoName:PySem.W.nsIn K mainGlobals "NoName"=some (some (.ref aq)))
  (eg_NoFit:PySem.W.nsIn K mainGlobals "NoFit"=some (some (.ref ar)))
  (eg_NoGraft:PySem.W.nsIn K mainGlobals "NoGraft"=some (some (.ref au)))
  (eg_TooLarge:PySem.W.nsIn K mainGlobals "TooLarge"=some (some (.ref av)))
  (eg_NoDeed:PySem.W.nsIn K mainGlobals "NoDeed"=some (some (.ref aw)))
  (eg_NoNumber:PySem.W.nsIn K mainGlobals "NoNumber"=some (some (.ref ax)))
  (eg_NoLine:PySem.W.nsIn K mainGlobals "NoLine"=some (some (.ref ay)))
  (eg_Nobody:PySem.W.nsIn K mainGlobals "Nobody"=some (some (.ref az)))
  (eg_Nameless:PySem.W.nsIn K mainGlobals "Nameless"=some (some (.ref aA)))
  (ex_WoodError:PySem.W.excIn K ah Dv "ValueError.__new__"=true)
  (bg_WoodError:PySem.W.specialIn K (.ref ah) "__getattribute__"=some (some (.builtin "type.__getattribute__")))
  (br_WoodError:PySem.W.readsIn K ah (.type "type")=true)
  (bi_WoodError:PySem.W.findCls K (.ref ah) (.type "type") "__init__"=some (.val (.builtin "ValueError.__init__")))
  (ex_NoPlace:PySem.W.excIn K ad Dv "ValueError.__new__"=true)
  (ga_NoPlace:PySem.W.findIn K (.ref ad) "__getattribute__"=some (some (.builtin "BaseException.__getattribute__")))
  (gx_NoPlace:PySem.W.findIn K (.ref ad) "__getattr__"=some none)
  (ca_NoPlace:PySem.W.findIn K (.ref ad) "__class__"=some (some (.builtin "object.__class__")))
  (sp_NoPlace:PySem.W.specialIn K (.builtin "object.__class__") "__get__"=some (some (.builtin "getset_descriptor.__get__")))
  (tk_NoPlace:PySem.W.takesIn K (.builtin "object.__class__")=some true)
  (mo_NoPlace:PySem.W.mroIn K ad (.type "object")=some true)
  (mb_NoPlace:PySem.W.mroIn K ad (.type "BaseException")=some true)
  (em_NoPlace:exmOne K (.ref ad) (.ref ah)=some true)
  (ex_NoKnot:PySem.W.excIn K aa Dv "ValueError.__new__"=true)
  (ga_NoKnot:PySem.W.findIn K (.ref aa) "__getattribute__"=some (some (.builtin "BaseException.__getattribute__")))
  (gx_NoKnot:PySem.W.findIn K (.ref aa) "__getattr__"=some none)
  (ca_NoKnot:PySem.W.findIn K (.ref aa) "__class__"=some (some (.builtin "object.__class__")))
  (sp_NoKnot:PySem.W.specialIn K (.builtin "object.__class__") "__get__"=some (some (.builtin "getset_descriptor.__get__")))
  (tk_NoKnot:PySem.W.takesIn K (.builtin "object.__class__")=some true)
  (mo_NoKnot:PySem.W.mroIn K aa (.type "object")=some true)
  (mb_NoKnot:PySem.W.mroIn K aa (.type "BaseException")=some true)
  (em_NoKnot:exmOne K (.ref aa) (.ref ah)=some true)
  (sa_NoWood:PySem.W.findIn K (.ref ac) "__setattr__"=some (some (.builtin "object.__setattr__")))
  (pl_NoWood:PySem.W.findIn K (.ref ac) "place"=some none)
  (ga_NoWood:PySem.W.findIn K (.ref ac) "__getattribute__"=some (some (.builtin "BaseException.__getattribute__")))
  (gx_NoWood:PySem.W.findIn K (.ref ac) "__getattr__"=some none)
  (ca_NoWood:PySem.W.findIn K (.ref ac) "__class__"=some (some (.builtin "object.__class__")))
  (sp_NoWood:PySem.W.specialIn K (.builtin "object.__class__") "__get__"=some (some (.builtin "getset_descriptor.__get__")))
  (tk_NoWood:PySem.W.takesIn K (.builtin "object.__class__")=some true)
  (mo_NoWood:PySem.W.mroIn K ac (.type "object")=some true)
  (mb_NoWood:PySem.W.mroIn K ac (.type "BaseException")=some true)
  (em_NoWood:exmOne K (.ref ac) (.ref ah)=some true)
  (em2_NoWood:exmOne K (.ref ac) (.ref ac)=some true)
  (kit_NoKnot_WoodError:kitOne K (.ref aa) (.ref ah)=some true)
  (kit_NoKnot_ValueError:kitOne K (.ref aa) (.type "ValueError")=some true)
  (kit_NoKnot_NoKnot:kitOne K (.ref aa) (.ref aa)=some true)
  (kit_NoKnot_NoPlace:kitOne K (.ref aa) (.ref ad)=some false)
  (kit_NoKnot_NoWood:kitOne K (.ref aa) (.ref ac)=some false)
  (kit_NoKnot_NoBits:kitOne K (.ref aa) (.ref aj)=some false)
  (kit_NoKnot_NoRow:kitOne K (.ref aa) (.ref am)=some false)
  (kit_NoKnot_NoOrder:kitOne K (.ref aa) (.ref ao)=some false)
  (kit_NoKnot_NoName:kitOne K (.ref aa) (.ref aq)=some false)
  (kit_NoKnot_NoFit:kitOne K (.ref aa) (.ref ar)=some false)
  (kit_NoKnot_NoGraft:kitOne K (.ref aa) (.ref au)=some false)
  (kit_NoKnot_TooLarge:kitOne K (.ref aa) (.ref av)=some false)
  (kit_NoKnot_NoDeed:kitOne K (.ref aa) (.ref aw)=some false)
  (kit_NoKnot_NoNumber:kitOne K (.ref aa) (.ref ax)=some false)
  (kit_NoKnot_NoLine:kitOne K (.ref aa) (.ref ay)=some false)
  (kit_NoKnot_Nobody:kitOne K (.ref aa) (.ref az)=some false)
  (kit_NoKnot_Nameless:kitOne K (.ref aa) (.ref aA)=some false)
  (kit_NoPlace_WoodError:kitOne K (.ref ad) (.ref ah)=some true)
  (kit_NoPlace_ValueError:kitOne K (.ref ad) (.type "ValueError")=some true)
  (kit_NoPlace_NoKnot:kitOne K (.ref ad) (.ref aa)=some false)
  (kit_NoPlace_NoPlace:kitOne K (.ref ad) (.ref ad)=some true)
  (kit_NoPlace_NoWood:kitOne K (.ref ad) (.ref ac)=some false)
  (kit_NoPlace_NoBits:kitOne K (.ref ad) (.ref aj)=some false)
  (kit_NoPlace_NoRow:kitOne K (.ref ad) (.ref am)=some false)
  (kit_NoPlace_NoOrder:kitOne K (.ref ad) (.ref ao)=some false)
  (kit_NoPlace_NoName:kitOne K (.ref ad) (.ref aq)=some false)
  (kit_NoPlace_NoFit:kitOne K (.ref ad) (.ref ar)=some false)
  (kit_NoPlace_NoGraft:kitOne K (.ref ad) (.ref au)=some false)
  (kit_NoPlace_TooLarge:kitOne K (.ref ad) (.ref av)=some false)
  (kit_NoPlace_NoDeed:kitOne K (.ref ad) (.ref aw)=some false)
  (kit_NoPlace_NoNumber:kitOne K (.ref ad) (.ref ax)=some false)
  (kit_NoPlace_NoLine:kitOne K (.ref ad) (.ref ay)=some false)
  (kit_NoPlace_Nobody:kitOne K (.ref ad) (.ref az)=some false)
  (kit_NoPlace_Nameless:kitOne K (.ref ad) (.ref aA)=some false)
  (kit_NoWood_WoodError:kitOne K (.ref ac) (.ref ah)=some true)
  (kit_NoWood_ValueError:kitOne K (.ref ac) (.type "ValueError")=some true)
  (kit_NoWood_NoKnot:kitOne K (.ref ac) (.ref aa)=some false)
  (kit_NoWood_NoPlace:kitOne K (.ref ac) (.ref ad)=some false)
  (kit_NoWood_NoWood:kitOne K (.ref ac) (.ref ac)=some true)
  (kit_NoWood_NoBits:kitOne K (.ref ac) (.ref aj)=some false)
  (kit_NoWood_NoRow:kitOne K (.ref ac) (.ref am)=some false)
  (kit_NoWood_NoOrder:kitOne K (.ref ac) (.ref ao)=some false)
  (kit_NoWood_NoName:kitOne K (.ref ac) (.ref aq)=some false)
  (kit_NoWood_NoFit:kitOne K (.ref ac) (.ref ar)=some false)
  (kit_NoWood_NoGraft:kitOne K (.ref ac) (.ref au)=some false)
  (kit_NoWood_TooLarge:kitOne K (.ref ac) (.ref av)=some false)
  (kit_NoWood_NoDeed:kitOne K (.ref ac) (.ref aw)=some false)
  (kit_NoWood_NoNumber:kitOne K (.ref ac) (.ref ax)=some false)
  (kit_NoWood_NoLine:kitOne K (.ref ac) (.ref ay)=some false)
  (kit_NoWood_Nobody:kitOne K (.ref ac) (.ref az)=some false)
  (kit_NoWood_Nameless:kitOne K (.ref ac) (.ref aA)=some false)
  (ob_NoWood:K.lookup ac=some (excClassObj nm_NoWood qn_NoWood ac N_NoWood bs_NoWood (.ref ah::Dv) true sn_NoWood sub_NoWood ab_NoWood col_NoWood dd_NoWood k0_NoWood k1_NoWood k2_NoWood k3_NoWood k5_NoWood "ValueError.__new__")),
   ∃ fd:FuncData,(∀ (s:Shared) (v:Value),BindsTo s fd ⟨[v],[]⟩ [("_law_script",v)])/\∀ base:Heap,K.In base->base.Ns mainGlobals mg->(∀ q∈([(513,509)]:List (Addr×Addr)),base.BuiltinsAt mg q.2)->Ax l.prog w K mg base CX0 12 fa fd ["_law_script"] (eK K [⟨509,At,"Counts.block_with.<locals>.<lambda>"⟩])
theorem walk {l:PySem.W.OpenLaw}{q:Program}{loose:List Str}{XP:(Str->Option Value)->Heap->Prop}{YP:World->Heap->Prop}{d:DefRec}{K:Params->PySem.W.Frag}(hn:l.most=some 63)(hdf:d.params.defaults=[])
  (hY:∀ (w:World) (h:Heap),YP w h->(K w.params).In h)(hTb:∀ (w:World) (h:Heap),YP w h->PySem.W.TabsAt [(513,509)] h)(hTK:∀ w:World,∀ p∈([(513,509)]:List (Addr×Addr)),(K w.params).lookup p.2=none)
  (F:∀ (w:World) (mg:Str->Option Value) (fa:Addr) (h:Heap),(K w.params).In h->h.Ns mainGlobals mg->mg d.name=some (.ref fa) ->
   ∃ fd:FuncData,(∀ (s:Shared) (u:Value),BindsTo s fd ⟨[u],[]⟩ [("_law_script",u)])/\∀ base:Heap,(K w.params).In base->base.Ns mainGlobals mg->(∀ q∈([(513,509)]:List (Addr×Addr)),base.BuiltinsAt mg q.2)->Ax l.prog w (K w.params) mg base CX0 12 fa fd ["_law_script"] (eK (K w.params) [⟨509,At,"Counts.block_with.<locals>.<lambda>"⟩])) :
  PySem.W.WalkO q loose XP YP l.row.toRowW d [] (fun f vs=>PySem.call f vs) :=
 L2.fM (n:=63) (k:=12) (x:="_law_script") (tabs:=[(513,509)]) (CX:=fun _=>CX0) (sp:=fun w=>(eK (K w.params) [⟨509,At,"Counts.block_with.<locals>.<lambda>"⟩])) hn (by decide) hdf ⟨rfl,by decide,by decide⟩ hY hTb hTK F (fun _ _ a ns hl hO hS=>⟨a,ns,rfl,hS,hl,⟨List.forall_mem_cons.mpr ⟨⟨#[],hO (513,509) (by simp),trivial,.inl rfl⟩,fun _ h=>nomatch h⟩,by decide⟩,fun _=>rfl⟩) fun _ _ _ _ _ z=>z
end TK
section
noncomputable def PySem.W.Fast.tw15199082075106738728:PySem.Program:=PySem.Challenge.pw_tightwood_k54_refused_by_counts
theorem PySem.W.Fast.te15199082075106738728:PySem.Challenge.pw_tightwood_k54_refused_by_counts=PySem.W.Fast.tw15199082075106738728:=rfl
def HD.loose:List PySem.Str:=[PySem.Str.ofString "_wall",PySem.Str.ofString "WoodError",PySem.Str.ofString "NoBits",PySem.Str.ofString "NoPlace",PySem.Str.ofString "NoRow",PySem.Str.ofString "NoWood",PySem.Str.ofString "NoKnot",PySem.Str.ofString "NoOrder",PySem.Str.ofString "NoName",PySem.Str.ofString "NoFit",PySem.Str.ofString "NoGraft",PySem.Str.ofString "TooLarge",PySem.Str.ofString "NoDeed",PySem.Str.ofString "NoNumber",PySem.Str.ofString "NoLine",PySem.Str.ofString "Nobody",PySem.Str.ofString "Nameless",PySem.Str.ofString "is_whole",PySem.Str.ofString "is_within",PySem.Str.ofString "check_bit",PySem.Str.ofString "check_place",PySem.Str.ofString "check_stretch",PySem.Str.ofString "check_from_nought",PySem.Str.ofString "check_knot",PySem.Str.ofString "WORD_BITS",PySem.Str.ofString "FULL_WORD",PySem.Str.ofString "ONES_OF_FOUR",PySem.Str.ofString "ones_in",PySem.Str.ofString "nth_of_four",PySem.Str.ofString "nth_one",PySem.Str.ofString "MOST_BITS",PySem.Str.ofString "SIGNS_OF_FOUR",PySem.Str.ofString "is_row",PySem.Str.ofString "word_of",PySem.Str.ofString "words_of",PySem.Str.ofString "signs_of",PySem.Str.ofString "Bits",PySem.Str.ofString "BLOCK_WORDS",PySem.Str.ofString "BLOCK_BITS",PySem.Str.ofString "first_that",PySem.Str.ofString "running_sums",PySem.Str.ofString "table_of_words",PySem.Str.ofString "Counts",PySem.Str.ofString "heights_of",PySem.Str.ofString "check_height",PySem.Str.ofString "Heights",PySem.Str.ofString "MOST_SIGNS",PySem.Str.ofString "STRETCH_BITS",PySem.Str.ofString "check_row",PySem.Str.ofString "Pairs",PySem.Str.ofString "MOST_KNOTS",PySem.Str.ofString "MARK_STEP",PySem.Str.ofString "look_at",PySem.Str.ofString "depths_of",PySem.Str.ofString "children_counted",PySem.Str.ofString "counted_row",PySem.Str.ofString "thin_rest",PySem.Str.ofString "Wood",PySem.Str.ofString "marked_depths",PySem.Str.ofString "Counted",PySem.Str.ofString "_law_cell_at",PySem.Str.ofString "_law_twice",PySem.Str.ofString "_law_grown",PySem.Str.ofString "_law_drawn",PySem.Str.ofString "_law_repeated",PySem.Str.ofString "_law_wood",PySem.Str.ofString "_law_class",PySem.Str.ofString "_law_bar",PySem.Str.ofString "_law_spoilt",PySem.Str.ofString "_law_refused",PySem.Str.ofString "_law_made",PySem.Str.ofString "_law_no_knots",PySem.Str.ofString "_law_no_number"]
def HD.LD:PySem.DefRec:=HD.recOf (PySem.Challenge.pw_tightwood_k54_refused_by_counts.main.body.getD 83 (.Pass ⟨0,0,0,0⟩))
def HD.VQ:PySem.Program:=PySem.W.view PySem.Challenge.pw_tightwood_k54_refused_by_counts [83]
theorem HD.A_ok (w:PySem.World):(fun os=>HD.oneA (HD.bootT w os) (PySem.W.boot_heap w.params) HD.bootSize PySem.Challenge.pw_tightwood_k54_refused_by_counts 100000 w)=(fun _=>some true):=by rw [HD.oneA_eq];kernel_rfl
theorem HD.B_ok (w:PySem.World):(fun os=>HD.oneB (HD.bootT w os) HD.bootSize PySem.Challenge.pw_tightwood_k54_refused_by_counts HD.VQ HD.loose 100000 w)=(fun _=>some (PySem.W.openGood HD.VQ HD.loose)):=by rw [HD.oneB_eq];kernel_rfl
local macro_rules | `(tactic| o_head $H)=>`(tactic| (refine PySem.W.holds_open (q:=HD.VQ) (loose:=HD.loose) (d:=HD.LD) (kwd:=[]) (Xt:=fun _=>true) (XP:=fun _ _=>True) (Yf:=PySem.W.Hook.obs $H) (Ya:=PySem.W.Hook.val $H) (YP:=PySem.W.Hook.says $H) (N:=100000) (HD.left_of3 (p:=PySem.Challenge.pw_tightwood_k54_refused_by_counts) (q:=HD.VQ) (loose:=HD.loose) (Yf:=PySem.W.Hook.obs $H) (Ya:=PySem.W.Hook.val $H) (N:=100000) (M:=100000) (by kernel_rfl) (fun _=>by kernel_rfl) (by kernel_rfl) (by kernel_rfl) HD.A_ok HD.B_ok (HD.hC_km (fun w=>by rw [HD.oneP_eq];kernel_rfl))) (PySem.W.Hook.of $H) (PySem.W.Hook.keeps $H) (fun _ _=>trivial) (fun _ _ _ _ _=>trivial) (by kernel_rfl) (by kernel_rfl) (by kernel_rfl) (fun _ _=>PySem.W.recFacts_nil rfl) rfl (by assumption) (by decide +kernel) ⟨rfl,rfl,rfl,rfl,rfl,by decide +kernel⟩ ?_ ?_))
open PySem PySem.W PyProof.Rows
set_option maxRecDepth 100000 in
set_option maxHeartbeats 0 in
theorem TK.HEAD (AM:TK.AllMk):PySem.Challenge.rw_tightwood_k54_refused_by_counts.Holds:=by
 w_on;o_law;k_head
 ·w_witness2
 k_fill
 refine TK.walk (l:=PySem.Challenge.rw_tightwood_k54_refused_by_counts) rfl (by kernel_rfl) (fun w h Y=>PySem.W.km_in_of Y) (fun w h Y=>List.forall_mem_cons.mpr ⟨⟨PySem.W.codeHd_of_K (c:=513) (P:=509) (PySem.W.km_in_of Y) (by kernel_rfl),PySem.W.km_tabs_of Y 509 (by simp)⟩,fun _ h=>nomatch h⟩) (fun w=>List.forall_mem_cons.mpr ⟨by kernel_rfl,fun _ h=>nomatch h⟩) ?F
 case F =>
  intro w mg fa h KX G hmg
  refine' AM KX G hmg ?cd_Bits ?fd_Bits ?cd_Counts ?fd_Counts ?cd_Pairs ?fd_Pairs ?cd_Counted ?fd_Counted ?bc_Heights ?i0 ?a0 ?l0 ?c0 ?k0 ?g1 ?g2 ?g3 ?g4 ?g5 ?g6 ?g7 ?g8 ?g9 ?g10 ?g11 ?g12 ?g13 ?g14 ?g15 ?g16 ?g17 ?g18 ?g19 ?g20 ?g21 ?g22 ?g23 ?g24 ?g25 ?g26 ?i27 ?a27 ?l27 ?c27 ?k27 ?lc27 ?hc27 ?g28 ?g29 ?g30 ?g31 ?g32 ?g33 ?g34 ?g35 ?g36 ?g37 ?g38 ?g39 ?g40 ?g41 ?g42 ?g43 ?g44 ?g45 ?g46 ?g47 ?g48 ?g49 ?g50 ?g51 ?g52 ?g53 ?g54 ?g55 ?g56 ?g57 ?g58 ?g59 ?g60 ?g61 ?g62 ?g63 ?g64 ?g65 ?g66 ?g67 ?g68 ?g69 ?g70 ?g71 ?g72 ?g73 ?g74 ?g75 ?g76 ?g77 ?g_ONES_OF_FOUR ?o1_ONES_OF_FOUR ?o2_ONES_OF_FOUR ?o3_ONES_OF_FOUR ?o4_ONES_OF_FOUR ?o5_ONES_OF_FOUR ?g_SIGNS_OF_FOUR ?o1_SIGNS_OF_FOUR ?o2_SIGNS_OF_FOUR ?o3_SIGNS_OF_FOUR ?o4_SIGNS_OF_FOUR ?o5_SIGNS_OF_FOUR ?g_WORD_BITS ?g_MOST_BITS ?g_BLOCK_WORDS ?g_BLOCK_BITS ?g_FULL_WORD ?g_MOST_SIGNS ?g_STRETCH_BITS ?g_MOST_KNOTS ?g_MARK_STEP ?z_range ?z_len ?z_int ?z_bool ?z_str ?z_isinstance ?z_list ?z_tuple ?z_dict ?z_enumerate ?z_zip ?z_sum ?z_abs ?z_max ?z_min ?z_ValueError ?eg_WoodError ?eg_NoPlace ?eg_NoKnot ?eg_NoWood ?eg_NoBits ?eg_NoRow ?eg_NoOrder ?eg_NoName ?eg_NoFit ?eg_NoGraft ?eg_TooLarge ?eg_NoDeed ?eg_NoNumber ?eg_NoLine ?eg_Nobody ?eg_Nameless ?ex_WoodError ?bg_WoodError ?br_WoodError ?bi_WoodError ?ex_NoPlace ?ga_NoPlace ?gx_NoPlace ?ca_NoPlace ?sp_NoPlace ?tk_NoPlace ?mo_NoPlace ?mb_NoPlace ?em_NoPlace ?ex_NoKnot ?ga_NoKnot ?gx_NoKnot ?ca_NoKnot ?sp_NoKnot ?tk_NoKnot ?mo_NoKnot ?mb_NoKnot ?em_NoKnot ?sa_NoWood ?pl_NoWood ?ga_NoWood ?gx_NoWood ?ca_NoWood ?sp_NoWood ?tk_NoWood ?mo_NoWood ?mb_NoWood ?em_NoWood ?em2_NoWood ?kit_NoKnot_WoodError ?kit_NoKnot_ValueError ?kit_NoKnot_NoKnot ?kit_NoKnot_NoPlace ?kit_NoKnot_NoWood ?kit_NoKnot_NoBits ?kit_NoKnot_NoRow ?kit_NoKnot_NoOrder ?kit_NoKnot_NoName ?kit_NoKnot_NoFit ?kit_NoKnot_NoGraft ?kit_NoKnot_TooLarge ?kit_NoKnot_NoDeed ?kit_NoKnot_NoNumber ?kit_NoKnot_NoLine ?kit_NoKnot_Nobody ?kit_NoKnot_Nameless ?kit_NoPlace_WoodError ?kit_NoPlace_ValueError ?kit_NoPlace_NoKnot ?kit_NoPlace_NoPlace ?kit_NoPlace_NoWood ?kit_NoPlace_NoBits ?kit_NoPlace_NoRow ?kit_NoPlace_NoOrder ?kit_NoPlace_NoName ?kit_NoPlace_NoFit ?kit_NoPlace_NoGraft ?kit_NoPlace_TooLarge ?kit_NoPlace_NoDeed ?kit_NoPlace_NoNumber ?kit_NoPlace_NoLine ?kit_NoPlace_Nobody ?kit_NoPlace_Nameless ?kit_NoWood_WoodError ?kit_NoWood_ValueError ?kit_NoWood_NoKnot ?kit_NoWood_NoPlace ?kit_NoWood_NoWood ?kit_NoWood_NoBits ?kit_NoWood_NoRow ?kit_NoWood_NoOrder ?kit_NoWood_NoName ?kit_NoWood_NoFit ?kit_NoWood_NoGraft ?kit_NoWood_TooLarge ?kit_NoWood_NoDeed ?kit_NoWood_NoNumber ?kit_NoWood_NoLine ?kit_NoWood_Nobody ?kit_NoWood_Nameless ?ob_NoWood
  (case eg_WoodError|eg_NoPlace|eg_NoKnot|eg_NoWood|eg_NoBits|eg_NoRow|eg_NoOrder|eg_NoName|eg_NoFit|eg_NoGraft|eg_TooLarge|eg_NoDeed|eg_NoNumber|eg_NoLine|eg_Nobody|eg_Nameless=>k_is)
  (case cd_Bits|cd_Counts|cd_Pairs|cd_Counted|bc_Heights=>refine' ⟨?_,?_,?_⟩<;>try k_is)
  (case fd_Bits|fd_Counts|fd_Pairs|fd_Counted=>refine' L2.fD ?_ ?_ ?_ ?_ ?_<;>try first | k_is | kernel_rfl)
  (case g1|g2|g3|g4|g5|g6|g7|g8|g9|g10|g11|g12|g13|g14|g19|g20|g21|g30|g31|g41|g42|g43|g44|g45|g46|g64|g65|g66|g67|g68|g69|g70|g71|g72|g73|g74|g75|g76|g77=>refine' L2.gD ?_ ?_ ?_ ?_<;>try k_is)
  (case g15|g16|g17|g18|g22|g23|g24|g25|g26|g28|g29|g33|g34|g35|g36|g37|g38|g39|g40|g47|g48|g49|g50|g51|g52|g53|g54|g55|g56|g57|g58|g59|g60|g61|g62|g63=>refine' L2.mD ?_ ?_ ?_ ?_ ?_<;>try k_is)
  (case g32=>refine' L2.bD ?_ ?_ ?_ ?_<;>try k_is)
  (case a0|l0|c0|k0|i0|a27|l27|c27|k27|i27|lc27=>k_is)
  (case hc27=>exact ⟨_,_,_,_,_,_,_,_,rfl,rfl,rfl,rfl,rfl,rfl,rfl,rfl,by decide⟩)
  (case g_ONES_OF_FOUR|o1_ONES_OF_FOUR=>k_is)
  (case o2_ONES_OF_FOUR=>rfl);(case o3_ONES_OF_FOUR=>rfl);(case o4_ONES_OF_FOUR=>decide);(case o5_ONES_OF_FOUR=>repeat (first | exact .nil | refine .cons ⟨_,rfl⟩ ?_))
  (case g_SIGNS_OF_FOUR|o1_SIGNS_OF_FOUR=>k_is)
  (case o2_SIGNS_OF_FOUR=>rfl);(case o3_SIGNS_OF_FOUR=>rfl);(case o4_SIGNS_OF_FOUR=>decide);(case o5_SIGNS_OF_FOUR=>repeat (first | exact .nil | refine .cons ⟨_,rfl⟩ ?_))
  (case g_WORD_BITS|g_MOST_BITS|g_BLOCK_WORDS|g_BLOCK_BITS|g_FULL_WORD|g_MOST_SIGNS|g_STRETCH_BITS|g_MOST_KNOTS|g_MARK_STEP|z_range|z_len|z_int|z_bool|z_str|z_isinstance|z_list|z_tuple|z_dict|z_enumerate|z_zip|z_sum|z_abs|z_max|z_min|z_ValueError=>k_is)
  (case ex_WoodError=>k_exc)
  (case bg_WoodError|br_WoodError|bi_WoodError=>k_is)
  (case ex_NoPlace=>k_exc)
  (case ga_NoPlace|gx_NoPlace|ca_NoPlace|sp_NoPlace|tk_NoPlace|mo_NoPlace|mb_NoPlace=>k_is)
  (case em_NoPlace=>kts_exm)
  (case ex_NoKnot=>k_exc)
  (case ga_NoKnot|gx_NoKnot|ca_NoKnot|sp_NoKnot|tk_NoKnot|mo_NoKnot|mb_NoKnot=>k_is)
  (case em_NoKnot=>kts_exm)
  (case sa_NoWood|pl_NoWood|ga_NoWood|gx_NoWood|ca_NoWood|sp_NoWood|tk_NoWood|mo_NoWood|mb_NoWood=>k_is)
  (case em_NoWood=>kts_exm)
  (case em2_NoWood=>kts_exm)
  (case kit_NoKnot_WoodError=>kit_is)
  (case kit_NoKnot_ValueError=>kit_is)
  (case kit_NoKnot_NoKnot=>kit_is)
  (case kit_NoKnot_NoPlace=>kit_is)
  (case kit_NoKnot_NoWood=>kit_is)
  (case kit_NoKnot_NoBits=>kit_is)
  (case kit_NoKnot_NoRow=>kit_is)
  (case kit_NoKnot_NoOrder=>kit_is)
  (case kit_NoKnot_NoName=>kit_is)
  (case kit_NoKnot_NoFit=>kit_is)
  (case kit_NoKnot_NoGraft=>kit_is)
  (case kit_NoKnot_TooLarge=>kit_is)
  (case kit_NoKnot_NoDeed=>kit_is)
  (case kit_NoKnot_NoNumber=>kit_is)
  (case kit_NoKnot_NoLine=>kit_is)
  (case kit_NoKnot_Nobody=>kit_is)
  (case kit_NoKnot_Nameless=>kit_is)
  (case kit_NoPlace_WoodError=>kit_is)
  (case kit_NoPlace_ValueError=>kit_is)
  (case kit_NoPlace_NoKnot=>kit_is)
  (case kit_NoPlace_NoPlace=>kit_is)
  (case kit_NoPlace_NoWood=>kit_is)
  (case kit_NoPlace_NoBits=>kit_is)
  (case kit_NoPlace_NoRow=>kit_is)
  (case kit_NoPlace_NoOrder=>kit_is)
  (case kit_NoPlace_NoName=>kit_is)
  (case kit_NoPlace_NoFit=>kit_is)
  (case kit_NoPlace_NoGraft=>kit_is)
  (case kit_NoPlace_TooLarge=>kit_is)
  (case kit_NoPlace_NoDeed=>kit_is)
  (case kit_NoPlace_NoNumber=>kit_is)
  (case kit_NoPlace_NoLine=>kit_is)
  (case kit_NoPlace_Nobody=>kit_is)
  (case kit_NoPlace_Nameless=>kit_is)
  (case kit_NoWood_WoodError=>kit_is)
  (case kit_NoWood_ValueError=>kit_is)
  (case kit_NoWood_NoKnot=>kit_is)
  (case kit_NoWood_NoPlace=>kit_is)
  (case kit_NoWood_NoWood=>kit_is)
  (case kit_NoWood_NoBits=>kit_is)
  (case kit_NoWood_NoRow=>kit_is)
  (case kit_NoWood_NoOrder=>kit_is)
  (case kit_NoWood_NoName=>kit_is)
  (case kit_NoWood_NoFit=>kit_is)
  (case kit_NoWood_NoGraft=>kit_is)
  (case kit_NoWood_TooLarge=>kit_is)
  (case kit_NoWood_NoDeed=>kit_is)
  (case kit_NoWood_NoNumber=>kit_is)
  (case kit_NoWood_NoLine=>kit_is)
  (case kit_NoWood_Nobody=>kit_is)
  (case kit_NoWood_Nameless=>kit_is)
  (case ob_NoWood=>k_is)
end
namespace TK
open PySem L2 TW
local macro_rules | `(tactic| k_is)=>`(tactic| walk_at "rd")
structure Qd (K:PySem.W.Frag) (C:Addr):Prop where
 cl:Cls K C
 n_length:Br K C "length"
 n_many_ones:Br K C "many_ones"
 n_kept_words:Br K C "kept_words"
structure Qb (K:PySem.W.Frag) (C:Addr):Prop where
 cl:Cls K C
 n_length:Br K C "length"
 n_kept_words:Br K C "kept_words"
 n_kept_table:Br K C "kept_table"
structure Qc (K:PySem.W.Frag) (C:Addr):Prop where
 cl:Cls K C
 n_bits:Br K C "bits"
 n_counts:Br K C "counts"
 n_length:Br K C "length"
 n_kept_table:Br K C "kept_table"
 n_often_least:Br K C "often_least"
structure Qa (K:PySem.W.Frag) (C:Addr):Prop where
 cl:Cls K C
 n_knots:Br K C "knots"
 n_pairs:Br K C "pairs"
 n_marks:Br K C "marks"
structure Txt (K:PySem.W.Frag) (mg:Str->Option Value) (aB:Addr) (aC:Addr) (ah:Addr) (ad:Addr) (aa:Addr) (ac:Addr) (aj:Addr) (am:Addr) (ao:Addr) (aq:Addr) (ar:Addr) (au:Addr) (av:Addr) (aw:Addr) (ax:Addr) (ay:Addr) (az:Addr) (aA:Addr):Prop where
 g_WoodError:mg "WoodError"=some (.ref ah)
 g_NoPlace:mg "NoPlace"=some (.ref ad)
 g_NoKnot:mg "NoKnot"=some (.ref aa)
 g_NoWood:mg "NoWood"=some (.ref ac)
 g_NoBits:mg "NoBits"=some (.ref aj)
 g_NoRow:mg "NoRow"=some (.ref am)
 g_NoOrder:mg "NoOrder"=some (.ref ao)
 g_NoName:mg "NoName"=some (.ref aq)
 g_NoFit:mg "NoFit"=some (.ref ar)
 g_NoGraft:mg "NoGraft"=some (.ref au)
 g_TooLarge:mg "TooLarge"=some (.ref av)
 g_NoDeed:mg "NoDeed"=some (.ref aw)
 g_NoNumber:mg "NoNumber"=some (.ref ax)
 g_NoLine:mg "NoLine"=some (.ref ay)
 g_Nobody:mg "Nobody"=some (.ref az)
 g_Nameless:mg "Nameless"=some (.ref aA)
 ex_WoodError:PySem.W.excIn K ah Dv "ValueError.__new__"=true
 bg_WoodError:PySem.W.specialIn K (.ref ah) "__getattribute__"=some (some (.builtin "type.__getattribute__"))
 br_WoodError:PySem.W.readsIn K ah (.type "type")=true
 bi_WoodError:PySem.W.findCls K (.ref ah) (.type "type") "__init__"=some (.val (.builtin "ValueError.__init__"))
 ex_NoPlace:PySem.W.excIn K ad Dv "ValueError.__new__"=true
 ga_NoPlace:PySem.W.findIn K (.ref ad) "__getattribute__"=some (some (.builtin "BaseException.__getattribute__"))
 gx_NoPlace:PySem.W.findIn K (.ref ad) "__getattr__"=some none
 ca_NoPlace:PySem.W.findIn K (.ref ad) "__class__"=some (some (.builtin "object.__class__"))
 sp_NoPlace:PySem.W.specialIn K (.builtin "object.__class__") "__get__"=some (some (.builtin "getset_descriptor.__get__"))
 tk_NoPlace:PySem.W.takesIn K (.builtin "object.__class__")=some true
 mo_NoPlace:PySem.W.mroIn K ad (.type "object")=some true
 mb_NoPlace:PySem.W.mroIn K ad (.type "BaseException")=some true
 em_NoPlace:exmOne K (.ref ad) (.ref ah)=some true
 ex_NoKnot:PySem.W.excIn K aa Dv "ValueError.__new__"=true
 ga_NoKnot:PySem.W.findIn K (.ref aa) "__getattribute__"=some (some (.builtin "BaseException.__getattribute__"))
 gx_NoKnot:PySem.W.findIn K (.ref aa) "__getattr__"=some none
 ca_NoKnot:PySem.W.findIn K (.ref aa) "__class__"=some (some (.builtin "object.__class__"))
 sp_NoKnot:PySem.W.specialIn K (.builtin "object.__class__") "__get__"=some (some (.builtin "getset_descriptor.__get__"))
 tk_NoKnot:PySem.W.takesIn K (.builtin "object.__class__")=some true
 mo_NoKnot:PySem.W.mroIn K aa (.type "object")=some true
 mb_NoKnot:PySem.W.mroIn K aa (.type "BaseException")=some true
 em_NoKnot:exmOne K (.ref aa) (.ref ah)=some true
 sa_NoWood:PySem.W.findIn K (.ref ac) "__setattr__"=some (some (.builtin "object.__setattr__"))
 pl_NoWood:PySem.W.findIn K (.ref ac) "place"=some none
 ga_NoWood:PySem.W.findIn K (.ref ac) "__getattribute__"=some (some (.builtin "BaseException.__getattribute__"))
 gx_NoWood:PySem.W.findIn K (.ref ac) "__getattr__"=some none
 ca_NoWood:PySem.W.findIn K (.ref ac) "__class__"=some (some (.builtin "object.__class__"))
 sp_NoWood:PySem.W.specialIn K (.builtin "object.__class__") "__get__"=some (some (.builtin "getset_descriptor.__get__"))
 tk_NoWood:PySem.W.takesIn K (.builtin "object.__class__")=some true
 mo_NoWood:PySem.W.mroIn K ac (.type "object")=some true
 mb_NoWood:PySem.W.mroIn K ac (.type "BaseException")=some true
 em_NoWood:exmOne K (.ref ac) (.ref ah)=some true
 em2_NoWood:exmOne K (.ref ac) (.ref ac)=some true
 kit_NoKnot_WoodError:kitOne K (.ref aa) (.ref ah)=some true
 kit_NoKnot_ValueError:kitOne K (.ref aa) (.type "ValueError")=some true
 kit_NoKnot_NoKnot:kitOne K (.ref aa) (.ref aa)=some true
 kit_NoKnot_NoPlace:kitOne K (.ref aa) (.ref ad)=some false
 kit_NoKnot_NoWood:kitOne K (.ref aa) (.ref ac)=some false
 kit_NoKnot_NoBits:kitOne K (.ref aa) (.ref aj)=some false
 kit_NoKnot_NoRow:kitOne K (.ref aa) (.ref am)=some false
 kit_NoKnot_NoOrder:kitOne K (.ref aa) (.ref ao)=some false
 kit_NoKnot_NoName:kitOne K (.ref aa) (.ref aq)=some false
 kit_NoKnot_NoFit:kitOne K (.ref aa) (.ref ar)=some false
 kit_NoKnot_NoGraft:kitOne K (.ref aa) (.ref au)=some false
 kit_NoKnot_TooLarge:kitOne K (.ref aa) (.ref av)=some false
 kit_NoKnot_NoDeed:kitOne K (.ref aa) (.ref aw)=some false
 kit_NoKnot_NoNumber:kitOne K (.ref aa) (.ref ax)=some false
 kit_NoKnot_NoLine:kitOne K (.ref aa) (.ref ay)=some false
 kit_NoKnot_Nobody:kitOne K (.ref aa) (.ref az)=some false
 kit_NoKnot_Nameless:kitOne K (.ref aa) (.ref aA)=some false
 kit_NoPlace_WoodError:kitOne K (.ref ad) (.ref ah)=some true
 kit_NoPlace_ValueError:kitOne K (.ref ad) (.type "ValueError")=some true
 kit_NoPlace_NoKnot:kitOne K (.ref ad) (.ref aa)=some false
 kit_NoPlace_NoPlace:kitOne K (.ref ad) (.ref ad)=some true
 kit_NoPlace_NoWood:kitOne K (.ref ad) (.ref ac)=some false
 kit_NoPlace_NoBits:kitOne K (.ref ad) (.ref aj)=some false
 kit_NoPlace_NoRow:kitOne K (.ref ad) (.ref am)=some false
 kit_NoPlace_NoOrder:kitOne K (.ref ad) (.ref ao)=some false
 kit_NoPlace_NoName:kitOne K (.ref ad) (.ref aq)=some false
 kit_NoPlace_NoFit:kitOne K (.ref ad) (.ref ar)=some false
 kit_NoPlace_NoGraft:kitOne K (.ref ad) (.ref au)=some false
 kit_NoPlace_TooLarge:kitOne K (.ref ad) (.ref av)=some false
 kit_NoPlace_NoDeed:kitOne K (.ref ad) (.ref aw)=some false
 kit_NoPlace_NoNumber:kitOne K (.ref ad) (.ref ax)=some false
 kit_NoPlace_NoLine:kitOne K (.ref ad) (.ref ay)=some false
 kit_NoPlace_Nobody:kitOne K (.ref ad) (.ref az)=some false
 kit_NoPlace_Nameless:kitOne K (.ref ad) (.ref aA)=some false
 kit_NoWood_WoodError:kitOne K (.ref ac) (.ref ah)=some true
 kit_NoWood_ValueError:kitOne K (.ref ac) (.type "ValueError")=some true
 kit_NoWood_NoKnot:kitOne K (.ref ac) (.ref aa)=some false
 kit_NoWood_NoPlace:kitOne K (.ref ac) (.ref ad)=some false
 kit_NoWood_NoWood:kitOne K (.ref ac) (.ref ac)=some true
 kit_NoWood_NoBits:kitOne K (.ref ac) (.ref aj)=some false
 kit_NoWood_NoRow:kitOne K (.ref ac) (.ref am)=some false
 kit_NoWood_NoOrder:kitOne K (.ref ac) (.ref ao)=some false
 kit_NoWood_NoName:kitOne K (.ref ac) (.ref aq)=some false
 kit_NoWood_NoFit:kitOne K (.ref ac) (.ref ar)=some false
 kit_NoWood_NoGraft:kitOne K (.ref ac) (.ref au)=some false
 kit_NoWood_TooLarge:kitOne K (.ref ac) (.ref av)=some false
 kit_NoWood_NoDeed:kitOne K (.ref ac) (.ref aw)=some false
 kit_NoWood_NoNumber:kitOne K (.ref ac) (.ref ax)=some false
 kit_NoWood_NoLine:kitOne K (.ref ac) (.ref ay)=some false
 kit_NoWood_Nobody:kitOne K (.ref ac) (.ref az)=some false
 kit_NoWood_Nameless:kitOne K (.ref ac) (.ref aA)=some false
 g_ONES_OF_FOUR:mg "ONES_OF_FOUR"=some (.ref aB)
 q_ONES_OF_FOUR:∀ H,SqT K H aB (Tf.map fun n:Nat=>V.int n)
 g_SIGNS_OF_FOUR:mg "SIGNS_OF_FOUR"=some (.ref aC)
 q_SIGNS_OF_FOUR:∀ H,SqT K H aC (dP)
 g_WORD_BITS:∃ t,mg "WORD_BITS"=some (.int 32 t)
 g_MOST_BITS:∃ t,mg "MOST_BITS"=some (.int 20000 t)
 g_BLOCK_WORDS:∃ t,mg "BLOCK_WORDS"=some (.int 8 t)
 g_BLOCK_BITS:∃ t,mg "BLOCK_BITS"=some (.int 256 t)
 g_FULL_WORD:∃ t,mg "FULL_WORD"=some (.int 4294967295 t)
 g_MOST_SIGNS:∃ t,mg "MOST_SIGNS"=some (.int 8192 t)
 g_STRETCH_BITS:∃ t,mg "STRETCH_BITS"=some (.int 256 t)
 g_MOST_KNOTS:∃ t,mg "MOST_KNOTS"=some (.int 4000 t)
 g_MARK_STEP:∃ t,mg "MARK_STEP"=some (.int 16 t)
 n_range:mg "range"=none
 n_len:mg "len"=none
 n_int:mg "int"=none
 n_bool:mg "bool"=none
 n_str:mg "str"=none
 n_isinstance:mg "isinstance"=none
 n_list:mg "list"=none
 n_tuple:mg "tuple"=none
 n_dict:mg "dict"=none
 n_enumerate:mg "enumerate"=none
 n_zip:mg "zip"=none
 n_sum:mg "sum"=none
 n_abs:mg "abs"=none
 n_max:mg "max"=none
 n_min:mg "min"=none
 We:mg "ValueError"=none
 ow_NoWood:∃ f,Ll K ah ac f
theorem Txt.bw {K:PySem.W.Frag}{mg:Str->Option Value}{aB:Addr}{aC:Addr}{ah:Addr}{ad:Addr}{aa:Addr}{ac:Addr}{aj:Addr}{am:Addr}{ao:Addr}{aq:Addr}{ar:Addr}{au:Addr}{av:Addr}{aw:Addr}{ax:Addr}{ay:Addr}{az:Addr}{aA:Addr}(T:Txt K mg aB aC ah ad aa ac aj am ao aq ar au av aw ax ay az aA):rG K mg "WoodError" ah:=⟨T.g_WoodError,T.bg_WoodError,T.br_WoodError,T.bi_WoodError⟩
theorem Txt.x_NoPlace {K:PySem.W.Frag}{mg:Str->Option Value}{aB:Addr}{aC:Addr}{ah:Addr}{ad:Addr}{aa:Addr}{ac:Addr}{aj:Addr}{am:Addr}{ao:Addr}{aq:Addr}{ar:Addr}{au:Addr}{av:Addr}{aw:Addr}{ax:Addr}{ay:Addr}{az:Addr}{aA:Addr}(T:Txt K mg aB aC ah ad aa ac aj am ao aq ar au av aw ax ay az aA):Exc K mg "NoPlace" ad:=⟨T.g_NoPlace,T.ex_NoPlace⟩
theorem Txt.k_NoPlace {K:PySem.W.Frag}{mg:Str->Option Value}{aB:Addr}{aC:Addr}{ah:Addr}{ad:Addr}{aa:Addr}{ac:Addr}{aj:Addr}{am:Addr}{ao:Addr}{aq:Addr}{ar:Addr}{au:Addr}{av:Addr}{aw:Addr}{ax:Addr}{ay:Addr}{az:Addr}{aA:Addr}(T:Txt K mg aB aC ah ad aa ac aj am ao aq ar au av aw ax ay az aA):Ji K ad:=⟨T.ga_NoPlace,T.gx_NoPlace,T.ca_NoPlace,T.sp_NoPlace,T.tk_NoPlace,T.mo_NoPlace,T.mb_NoPlace⟩
theorem Txt.x_NoKnot {K:PySem.W.Frag}{mg:Str->Option Value}{aB:Addr}{aC:Addr}{ah:Addr}{ad:Addr}{aa:Addr}{ac:Addr}{aj:Addr}{am:Addr}{ao:Addr}{aq:Addr}{ar:Addr}{au:Addr}{av:Addr}{aw:Addr}{ax:Addr}{ay:Addr}{az:Addr}{aA:Addr}(T:Txt K mg aB aC ah ad aa ac aj am ao aq ar au av aw ax ay az aA):Exc K mg "NoKnot" aa:=⟨T.g_NoKnot,T.ex_NoKnot⟩
theorem Txt.k_NoKnot {K:PySem.W.Frag}{mg:Str->Option Value}{aB:Addr}{aC:Addr}{ah:Addr}{ad:Addr}{aa:Addr}{ac:Addr}{aj:Addr}{am:Addr}{ao:Addr}{aq:Addr}{ar:Addr}{au:Addr}{av:Addr}{aw:Addr}{ax:Addr}{ay:Addr}{az:Addr}{aA:Addr}(T:Txt K mg aB aC ah ad aa ac aj am ao aq ar au av aw ax ay az aA):Ji K aa:=⟨T.ga_NoKnot,T.gx_NoKnot,T.ca_NoKnot,T.sp_NoKnot,T.tk_NoKnot,T.mo_NoKnot,T.mb_NoKnot⟩
theorem Txt.k_NoWood {K:PySem.W.Frag}{mg:Str->Option Value}{aB:Addr}{aC:Addr}{ah:Addr}{ad:Addr}{aa:Addr}{ac:Addr}{aj:Addr}{am:Addr}{ao:Addr}{aq:Addr}{ar:Addr}{au:Addr}{av:Addr}{aw:Addr}{ax:Addr}{ay:Addr}{az:Addr}{aA:Addr}(T:Txt K mg aB aC ah ad aa ac aj am ao aq ar au av aw ax ay az aA):Ji K ac:=⟨T.ga_NoWood,T.gx_NoWood,T.ca_NoWood,T.sp_NoWood,T.tk_NoWood,T.mo_NoWood,T.mb_NoWood⟩
section
variable {P:Program} {w:World} {K:PySem.W.Frag} {mg:Str->Option Value} {base:Heap} {aB aC:Addr} {ai ae ag af ah ad aa ac aj am ao aq ar au av aw ax ay az aA:Addr}
theorem Wa {f : Addr}{fd : FuncData}(F : Fun K "__init__" "NoWood.__init__" C4 f fd)(T : Txt K mg aB aC ah ad aa ac aj am ao aq ar au av aw ax ay az aA) : Ax P w K mg base CX0 1 f fd ["self", "place"] (iN ac) := by
  refine F.ok R1 (fun vs H Q E h => ?_) (fun cdv A outer s H vs Q E hr h => ?_)
  · obtain ⟨e, i, rfl, _⟩ := h
    rfl
  · obtain ⟨e, i, rfl, he, hi, q⟩ := h
    obtain ⟨fo, O⟩ := T.ow_NoWood
    refine ⟨_, (Ab (Bj (iP T.bw rfl (Ad (pv 0) (Ad (oN (by decide) (pv 1)) Aa rfl) rfl)))
      (Ag (lC (pv 0) (pv 1)))), ?_⟩
    k_is
    refine ⟨hi, fun z => ?_⟩
    k_is
    refine ⟨e, ac, fo, none, z, rfl, he, O, ?_⟩
    k_is
    refine ⟨e, _, ac, fo, rfl, he, O, T.k_NoWood, fun dx hd => ?_⟩
    k_is
    exact q dx hd
def Jz (K:PySem.W.Frag):Sp:=fun vs H Q _=>∃ x,vs=[x]/\Any K H x/\Q (.bl (isI x)) H
theorem X4 {f:Addr}{fd:FuncData}(F:Fun K "is_whole" "is_whole" Ld f fd)(T:Txt K mg aB aC ah ad aa ac aj am ao aq ar au av aw ax ay az aA):Ax P w K mg base CX0 1 f fd ["thing"] (Jz K):=by
 refine F.ok Yq (fun vs H Q E h=>?_) (fun cdv A outer s H vs Q E hr h=>?_)
 ·obtain ⟨x,rfl,_⟩:=h
  rfl
 ·obtain ⟨x,rfl,⟨t,b1,b2,ty,k1,k2,e⟩,q⟩:=h
  refine ⟨_,(Ag (Ao (iH (Ar Cq (by rfl) T.n_isinstance A9 (Ad (pv 0) (Ad (F5 (v:=.ty "int") rfl T.n_int mK rfl) Aa rfl) rfl)) (lT (tE (Ar Cq (by rfl) T.n_isinstance A9 (Ad (pv 0) (Ad (F5 (v:=.ty "bool") rfl T.n_bool Y2 rfl) Aa rfl) rfl))))))),?_⟩
  k_is
  refine ⟨_,_,_,_,rfl,ty,k1,?_⟩
  rw [<- e] at q
  cases b1 with
  | false =>
   k_is
   exact q
  | true =>
   k_is
   refine ⟨_,_,_,_,rfl,ty,k2,?_⟩
   k_is
   exact q
def Jr (K:PySem.W.Frag):Sp:=fun vs H Q _=>∃ x lo hi,vs=[x,.int lo,.int hi]/\Any K H x/\Q (.bl (inI x lo hi)) H
theorem U8 {f:Addr}{fd:FuncData}(F:Fun K "is_within" "is_within" J6 f fd)(T:Txt K mg aB aC ah ad aa ac aj am ao aq ar au av aw ax ay az aA)(aI:Cal P w K mg base "is_whole" 1 ["thing"] (Jz K)):Ax P w K mg base CX0 2 f fd ["thing","low","high"] (Jr K):=by
 refine F.ok Vo (fun vs H Q E h=>?_) (fun cdv A outer s H vs Q E hr h=>?_)
 ·obtain ⟨x,lo,hi,rfl,_⟩:=h
  rfl
 ·obtain ⟨x,lo,hi,rfl,ha,q⟩:=h
  refine ⟨_,(Ag (Ao (iH (A4 aI (hr.mono (by decide:1<=_)) (Ad (pv 0) Aa rfl)) (lT (kZ rD rD (pv 1) (pv 0) (pv 2)))))),?_⟩
  k_is
  refine ⟨x,rfl,ha,?_⟩
  cases hx:isI x with
  | false =>
   k_is
   have:inI x lo hi=false:=by cases x<;>first | rfl | cases hx
   rw [this] at q
   exact q
  | true =>
   obtain ⟨i,rfl⟩:=Vq hx
   k_is
   have e:inI (.int i) lo hi=(decide (lo<=i)&&decide (i<=hi)):=rfl
   rw [e] at q
   refine B8 (fun h1=>?_) (fun h1=>?_)
   ·k_is
    rw [decide_eq_true h1] at q
    exact q
   ·k_is
    rw [decide_eq_false h1] at q
    exact q
def Ud:Sp:=fun vs H Q _=>∃ b:Bool,vs=[.int (b.toNat:Nat)]/\Q .non H
theorem Uv {f : Addr}{fd : FuncData}(F : Fun K "check_bit" "check_bit" Kl f fd)(T : Txt K mg aB aC ah ad aa ac aj am ao aq ar au av aw ax ay az aA)(aJ : Cal P w K mg base "is_within" 2 ["thing", "low", "high"] (Jr K)) : Ax P w K mg base CX0 3 f fd ["bit"] Ud := by
  refine F.ok Vv (fun vs H Q E h => ?_) (fun cdv A outer s H vs Q E hr h => ?_)
  · obtain ⟨b, rfl, _⟩ := h
    rfl
  · obtain ⟨b, rfl, q⟩ := h
    refine ⟨_, (Ag (B4 (E3 (C5 (A4 aJ (hr.mono (by decide : 2 <= _)) (Ad (pv 0) (Ad Af (Ad Af Aa rfl) rfl) rfl)))) (Ag Bi)
      A6)), ?_⟩
    k_is
    refine ⟨_, 0, 1, rfl, Bt _, ?_⟩
    rw [show inI (.int ((b.toNat : Nat) : Int)) 0 1 = true by cases b <;> rfl]
    k_is
    exact q
def J2:Sp:=fun vs H Q _=>∃ n g:Int,vs=[.int n,.int g]/\0<=n/\n<=g/\Q .non H
theorem Rn {f : Addr}{fd : FuncData}(F : Fun K "check_place" "check_place" G8 f fd)(T : Txt K mg aB aC ah ad aa ac aj am ao aq ar au av aw ax ay az aA)(aJ : Cal P w K mg base "is_within" 2 ["thing", "low", "high"] (Jr K)) : Ax P w K mg base CX0 3 f fd ["place", "greatest"] J2 := by
  refine F.ok Pq (fun vs H Q E h => ?_) (fun cdv A outer s H vs Q E hr h => ?_)
  · obtain ⟨n, g, rfl, _⟩ := h
    rfl
  · obtain ⟨n, g, rfl, h0, h1, q⟩ := h
    refine ⟨_, (Ag (B4 (E3 (C5 (A4 aJ (hr.mono (by decide : 2 <= _)) (Ad (pv 0) (Ad Af (Ad (pv 1) Aa rfl) rfl) rfl)))) (Ag Bi)
      A6)), ?_⟩
    k_is
    refine ⟨.int n, 0, g, rfl, Bt _, ?_⟩
    rw [show inI (.int n) 0 g = true by rw [Uj, decide_eq_true h0, decide_eq_true h1]; rfl]
    k_is
    exact q
def cF:Sp:=fun vs H Q _=>∃ i j g:Int,vs=[.int i,.int j,.int g]/\0<=i/\i<=j/\j<=g/\Q .non H
theorem Nj {f : Addr}{fd : FuncData}(F : Fun K "check_stretch" "check_stretch" Fw f fd)(T : Txt K mg aB aC ah ad aa ac aj am ao aq ar au av aw ax ay az aA)(aG : Cal P w K mg base "check_place" 3 ["place", "greatest"] J2) : Ax P w K mg base CX0 4 f fd ["low", "high", "greatest"] cF := by
  refine F.ok Nb (fun vs H Q E h => ?_) (fun cdv A outer s H vs Q E hr h => ?_)
  · obtain ⟨i, j, g, rfl, _⟩ := h
    rfl
  · obtain ⟨i, j, g, rfl, h0, h1, h2, q⟩ := h
    refine ⟨_, (Ab (Bj (A4 aG (hr.mono (by decide : 3 <= _)) (Ad (pv 0) (Ad (pv 2) Aa rfl) rfl)))
      (Ab (Bj (A4 aG (hr.mono (by decide : 3 <= _)) (Ad (pv 1) (Ad (pv 2) Aa rfl) rfl)))
      (Ag (B4 (An K2 (pv 0) (pv 1) (Au _)) (Ag Bi)
      A6)))), ?_⟩
    k_is
    refine ⟨i, g, rfl, h0, by omega, ?_⟩
    k_is
    refine ⟨j, g, rfl, by omega, h2, ?_⟩
    k_is
    refine B8 (fun h => absurd h (by omega)) (fun _ => ?_)
    k_is
    exact q
def M9 (K:PySem.W.Frag)(CP:Addr):Sp:=fun vs H Q E=>∃ x,vs=[x]/\Any K H x/\Ta x/\E (.ref CP) none H
theorem J1 {f : Addr}{fd : FuncData}(F : Fun K "check_from_nought" "check_from_nought" Dp f fd)(T : Txt K mg aB aC ah ad aa ac aj am ao aq ar au av aw ax ay az aA)(aI : Cal P w K mg base "is_whole" 1 ["thing"] (Jz K)) : Ax P w K mg base (CXE P w) 3 f fd ["number"] (M9 K ad) := by
  refine F.okE J3 (fun vs H Q E h => ?_) (fun cdv A outer s H vs Q E hr h => ?_)
  · obtain ⟨x, rfl, _⟩ := h
    rfl
  · obtain ⟨x, rfl, ha, hb, qe⟩ := h
    refine ⟨_, (Ag (B4 (PW.pt (K0 (E3 (C5 (A4 aI (hr.mono (by decide : 1 <= _)) (Ad (pv 0) Aa rfl)))) (La (An Oc (pv 0) Af (Au _))))) (Ag (Ym T.x_NoPlace rfl (Ad As Aa rfl)))
      A6)), ?_⟩
    k_is
    refine ⟨x, rfl, ha, ?_⟩
    cases hx : isI x with
    | false =>
      k_is
      exact ⟨by decide, qe⟩
    | true =>
      obtain ⟨j, rfl⟩ := Vq hx
      k_is
      rw [decide_eq_true (hb j rfl)]
      k_is
      exact ⟨by decide, qe⟩
def Eg (K:PySem.W.Frag)(CN:Addr):Sp:=fun vs H Q E=>∃ x g,vs=[x,.int g]/\Any K H x/\(inI x 0 (g-1)=true->Q .non H)/\(inI x 0 (g-1)=false->E (.ref CN) none H)
theorem S0 {f : Addr}{fd : FuncData}(F : Fun K "check_knot" "check_knot" Il f fd)(T : Txt K mg aB aC ah ad aa ac aj am ao aq ar au av aw ax ay az aA)(aJ : Cal P w K mg base "is_within" 2 ["thing", "low", "high"] (Jr K)) : Ax P w K mg base (CXE P w) 3 f fd ["k", "many_knots"] (Eg K aa) := by
  refine F.okE Sr (fun vs H Q E h => ?_) (fun cdv A outer s H vs Q E hr h => ?_)
  · obtain ⟨x, g, rfl, _⟩ := h
    rfl
  · obtain ⟨x, g, rfl, ha, q1, q2⟩ := h
    refine ⟨_, (Ag (B4 (E3 (C5 (A4 aJ (hr.mono (by decide : 2 <= _)) (Ad (pv 0) (Ad Af (Ad (Aj Cl (pv 1) Af) Aa rfl) rfl) rfl)))) (Ag (Ym T.x_NoKnot rfl (Ad As Aa rfl)))
      A6)), ?_⟩
    k_is
    refine ⟨x, 0, g - 1, rfl, ha, ?_⟩
    k_is
    cases hx : inI x 0 (g - 1) with
    | true =>
      k_is
      exact q1 hx
    | false =>
      k_is
      exact ⟨by decide, q2 hx⟩
def Rv:Sp:=fun vs H Q _=>∃ n:Nat,vs=[.int n]/\Q (.int (pc n)) H
theorem cJ {f:Addr}{fd:FuncData}(F:Fun K "ones_in" "ones_in" M4 f fd)(T:Txt K mg aB aC ah ad aa ac aj am ao aq ar au av aw ax ay az aA):Ax P w K mg base CX0 1 f fd ["word"] Rv:=by
 refine F.ok Iv (fun vs H Q E h=>?_) (fun cdv A outer s H vs Q E hr h=>?_)
 ·obtain ⟨n,rfl,_⟩:=h
  rfl
 ·obtain ⟨n,rfl,q⟩:=h
  refine ⟨_,(Ab (Am (i:=1) Iv.nd rfl (Or.inl rfl) Af)
   (Ab (Jk PassesOwn.never (An K2 (pv 0) Af (Au _))
   (Ab (F9 (i:=1) Iv.nd rfl (Or.inl rfl) (C3 Ia (Bz (v:=.ref _) rfl T.g_ONES_OF_FOUR rfl) (Aj Nl (pv 0) Af) (fun _ _=>rfl)) Hv)
   (Ag (F9 (i:=0) Iv.nd rfl (Or.inl rfl) Af eZ))))
   (Ag (Ao (pv 1))))),?_⟩
  k_is
  refine Kh (fun σ H'=>∃ m o:Nat,σ=[some (.int m),some (.int o)]/\pc n=o+pc m/\H'=H) (fun σ _=>match σ with | some (.int m)::_=>m.toNat | _=>0) ⟨n,0,rfl,by simp,rfl⟩ ?_
  rintro k σ H' ⟨m,o,rfl,e,rfl⟩ hk
  k_is
  refine B8 (fun hm=>?_) (fun hm=>?_)
  ·refine Pn ?_
   k_is
   refine L7 (T.q_ONES_OF_FOUR _) (v:=.int (pc (m%16))) ?_ ?_
   ·rw [cX]
    exact eG _ (Nat.mod_lt _ (by decide))
   ·k_is
    refine ⟨⟨m/16,o+pc (m%16),?_,?_,rfl⟩,?_⟩
    ·show [some (V.int ((m:Int)/2 ^ (4:Int).toNat)),some (V.int ((o:Int)+(pc (m%16):Int)))]=_
     rw [pW]
     rfl
    ·rw [e,xJ m]
     omega
    ·show ((m:Int)/2 ^ (4:Int).toNat).toNat<k
     rw [pW,<- hk]
     show m/16<m
     omega
  ·k_is
   have:m=0:=by omega
   subst this
   rw [O8] at e
   show Q (.int (o:Int)) H'
   rw [show o=pc n by omega]
   exact q
def cG:Sp:=fun vs H Q _=>∃ r k p:Nat,vs=[.int r,.int k]/\(X0 r)[k]?=some p/\∀ H',Ak H H'->Q (.int p) H'
theorem P3 {f:Addr}{fd:FuncData}(F:Fun K "nth_of_four" "nth_of_four" Fb f fd)(T:Txt K mg aB aC ah ad aa ac aj am ao aq ar au av aw ax ay az aA):Ax P w K mg base CX0 1 f fd ["four","nth"] cG:=by
 refine F.ok J8 (fun vs H Q E h=>?_) (fun cdv A outer s H vs Q E hr h=>?_)
 ·obtain ⟨r,k,p,rfl,_⟩:=h
  rfl
 ·obtain ⟨r,k,p,rfl,hp,q⟩:=h
  refine ⟨_,(Ab (Mj (i:=2) rfl Nm J8.nd rfl rfl (F7 rfl T.n_range (Ad Af Aa rfl)) (fun _ _ _ _=>eN (An B7 (Aj Nl (Aj jB (pv 1) (pv 0)) Af) Af (Au _))) (fun _ _ _ _=>(pv 0)))
   (Ag (Ao (C3 Ci (pv 2) (pv 1) (fun _ _=>rfl))))),?_⟩
  k_is
  refine ⟨4,rfl,by decide,by decide,?_⟩
  refine jU (fun i=>((List.range i).filter fun p=>decide (r/2 ^ p%2=1)).map fun p:Nat=>V.int (p:Int)) rfl (fun i hi=>?_) (fun i H1 R A hi sm kR kA=>?_) (fun D H1 hD sm hl=>?_)
  ·have h4:i<4:=hi
   rw [List.length_map]
   exact Nat.lt_of_le_of_lt (Nat.le_trans (List.length_filter_le _ _) (Nat.le_of_eq List.length_range)) (Df (by omega))
  ·k_is
   refine iS (by omega) ?_
   k_is
   have e1:(r:Int)/2 ^ (0+(i:Int)).toNat=((r/2 ^ i:Nat):Int):=by
    rw [show (0+(i:Int)).toNat=i by omega]
    exact (Int.natCast_ediv r (2 ^ i)).symm
   rw [e1,xK]
   have e2:((List.range (i+1)).filter fun p=>decide (r/2 ^ p%2=1))=((List.range i).filter fun p=>decide (r/2 ^ p%2=1))++if r/2 ^ i%2=1 then [i] else []:=by
    rw [List.range_succ,List.filter_append]
    congr 1
    by_cases h:r/2 ^ i%2=1
    ·rw [if_pos h]
     simp [h]
    ·rw [if_neg h]
     simp [h]
   refine B8 (fun hb=>?_) (fun hb=>?_)
   ·have hb:r/2 ^ i%2=1:=by
     have:=V.int.inj hb
     omega
    k_is
    refine kA _ _ ?_ (Ak.refl _)
    rw [e2,if_pos hb,List.map_append,show (0+(i:Int))=(i:Int) by omega]
    rfl
   ·have hb:¬ r/2 ^ i%2=1:=by
     intro z
     exact hb (by rw [z];rfl)
    refine kR ?_ _ (Ak.refl _)
    rw [e2,if_neg hb,List.append_nil]
  ·k_is
   refine Eb (SqL.of hl) (v:=.int p) ?_ (q _ sm)
   refine Bx ?_
   rw [List.getElem?_map]
   show Option.map _ ((X0 r)[k]?)=_
   rw [hp]
   rfl
def iA:Sp:=fun vs H Q _=>∃ n k:Nat,vs=[.int n,.int k]/\∀ H',Ak H H'->Q (xH (nth n k)) H'
theorem Zz {f : Addr}{fd : FuncData}(F : Fun K "nth_one" "nth_one" M3 f fd)(T : Txt K mg aB aC ah ad aa ac aj am ao aq ar au av aw ax ay az aA)(bf : Cal P w K mg base "nth_of_four" 1 ["four", "nth"] cG) : Ax P w K mg base CX0 2 f fd ["word", "nth"] iA := by
  refine F.ok E2 (fun vs H Q E h => ?_) (fun cdv A outer s H vs Q E hr h => ?_)
  · obtain ⟨n, k, rfl, _⟩ := h
    rfl
  · obtain ⟨n, k, rfl, q⟩ := h
    refine ⟨_, (Ab (B4 (An Oc (pv 1) Af (Au _)) (Ag (Ao Ki))
      A6)
      (Ab (Am (i := 2) E2.nd rfl (Or.inl rfl) Af)
      (Ab (Jk PassesOwn.never (An K2 (pv 0) Af (Au _))
      (Ab (Am (i := 3) E2.nd rfl (Or.inl rfl) (C3 Ia (Bz (v := .ref _) rfl T.g_ONES_OF_FOUR rfl) (Aj Nl (pv 0) Af) (fun _ _ => rfl)))
      (Ab (B4 (An Oc (pv 1) (pv 3) (Au _)) (Ag (Ao (Aj Be (pv 2) (A4 bf (hr.mono (by decide : 1 <= _)) (Ad (Aj Nl (pv 0) Af) (Ad (pv 1) Aa rfl) rfl)))))
      A6)
      (Ab (F9 (i := 1) E2.nd rfl (Or.inl rfl) (pv 3) kC)
      (Ab (F9 (i := 0) E2.nd rfl (Or.inl rfl) Af eZ)
      (Ag (F9 (i := 2) E2.nd rfl (Or.inl rfl) Af Hv)))))))
      (Ag (Ao Ki))))), ?_⟩
    k_is
    refine B8 (fun hb => absurd hb (by omega)) (fun _ => ?_)
    k_is
    refine Kh (fun σ H' => ∃ (m j low : Nat) (v : Option V), σ = [some (.int m), some (.int j), some (.int low), v]/\nth n k = (nth m j).map (· + low)/\H' = H) (fun σ _ => match σ with | some (.int m) :: _ => m.toNat | _ => 0) ⟨n, k, 0, none, rfl, by simp, rfl⟩ ?_
    rintro μ σ H' ⟨m, j, low, v, rfl, e, rfl⟩ hk
    k_is
    refine B8 (fun hm => ?_) (fun hm => ?_)
    · refine Pn ?_
      k_is
      refine L7 (T.q_ONES_OF_FOUR _) (v := .int (pc (m % 16))) ?_ ?_
      · rw [cX]
        exact eG _ (Nat.mod_lt _ (by decide))
      · k_is
        have e16 := wO m j
        refine B8 (fun hj => ?_) (fun hj => ?_)
        · have hj : j < pc (m % 16) := by omega
          k_is
          rw [if_pos hj] at e16
          rw [cX]
          obtain ⟨p, hp⟩ : ∃ p, (X0 (m % 16))[j]? = some p := by
            have : j < (X0 (m % 16)).length := by rw [oE _ (Nat.mod_lt _ (by decide))]; exact hj
            exact ⟨_, List.getElem?_eq_getElem this⟩
          refine ⟨m % 16, j, p, rfl, hp, fun H1 s1 => ?_⟩
          k_is
          have := q H1 s1
          rw [e, e16, hp] at this
          rw [show (low : Int) + (p : Int) = ((p + low : Nat) : Int) by omega]
          exact this
        · have hj : ¬ j < pc (m % 16) := by omega
          k_is
          rw [if_neg hj] at e16
          refine ⟨⟨m / 16, j - pc (m % 16), low + 4, some (.int (pc (m % 16))), ?_, ?_, rfl⟩, ?_⟩
          · show [some (V.int ((m : Int) / 2 ^ (4 : Int).toNat)), some (V.int ((j : Int) - (pc (m % 16) : Int))), some (V.int ((low : Int) + 4)), some (V.int (pc (m % 16)))] = _
            rw [pW, show (j : Int) - (pc (m % 16) : Int) = ((j - pc (m % 16) : Nat) : Int) by omega]
            rfl
          · rw [e, e16, Option.map_map]
            congr 1
            funext x
            show x + 4 + low = x + (low + 4)
            omega
          · show ((m : Int) / 2 ^ (4 : Int).toNat).toNat < μ
            rw [pW, <- hk]
            show m / 16 < m
            omega
    · k_is
      have : m = 0 := by omega
      subst this
      rw [Ro] at e
      have := q H' (Ak.refl _)
      rw [e] at this
      exact this
def pA (z:Str):Bool:=if z.length>20000 then false else decide (Mz z 48+Mz z 49=z.length)
def Vf:Sp:=fun vs H Q _=>∃ z:Str,vs=[.str z]/\z.length<=sizeLine/\Q (.bl (pA z)) H
theorem fR {f : Addr}{fd : FuncData}(F : Fun K "is_row" "is_row" Po f fd)(T : Txt K mg aB aC ah ad aa ac aj am ao aq ar au av aw ax ay az aA) : Ax P w K mg base CX0 1 f fd ["thing"] Vf := by
  refine F.ok fQ (fun vs H Q E h => ?_) (fun cdv A outer s H vs Q E hr h => ?_)
  · obtain ⟨z, rfl, _⟩ := h
    rfl
  · obtain ⟨z, rfl, hz, q⟩ := h
    refine ⟨_, (Ab (B4 (PW.pt (K0 (E3 (C5 (Ar Cq (by rfl) T.n_isinstance A9 (Ad (pv 0) (Ad (F5 (v := .ty "str") rfl T.n_str qO rfl) Aa rfl) rfl)))) (La (An K2 (Ar Cs (by rfl) T.n_len Em (Ad (pv 0) Aa rfl)) (Ba rfl T.g_MOST_BITS) (Au _))))) (Ag (Ao Gz))
      A6)
      (Ag (Ao (Pe B7 (Aj Be (Ey PySem.F.plainAttrs_str PySem.F.slot_str_count PySem.F.type_str_count Sc (pv 0) (Ad As Aa rfl)) (Ey PySem.F.plainAttrs_str PySem.F.slot_str_count PySem.F.type_str_count Sc (pv 0) (Ad As Aa rfl))) (Ar Cs (by rfl) T.n_len Em (Ad (pv 0) Aa rfl)) (Au _))))), ?_⟩
    k_is
    refine ⟨_, _, _, _, rfl, .str _, N7, ?_⟩
    k_is
    refine ⟨z, rfl, hz, ?_⟩
    k_is
    unfold pA at q
    refine B8 (fun hb => ?_) (fun hb => ?_)
    · k_is
      rw [if_pos (by omega)] at q
      exact q
    · k_is
      rw [if_neg (by omega)] at q
      refine ⟨rfl, ?_⟩
      k_is
      refine ⟨z, 48, rfl, rfl, ?_⟩
      k_is
      refine ⟨rfl, ?_⟩
      k_is
      refine ⟨z, 49, rfl, rfl, ?_⟩
      k_is
      refine ⟨z, rfl, hz, ?_⟩
      k_is
      have e : decide (V.int ((Mz z 48 : Int) + (Mz z 49 : Int)) = V.int (z.length : Int)) = decide (Mz z 48 + Mz z 49 = z.length) := by
        refine decide_eq_decide.mpr ⟨fun h => ?_, fun h => ?_⟩
        · have := V.int.inj h
          omega
        · rw [<- h]
          congr 1
      rw [e]
      exact q
def Yy:Sp:=fun vs H Q _=>∃ l:List Bool,vs=[.str (Aw l)]/\0<l.length/\l.length<=32/\Q (.int (val l:Nat)) H
theorem Zw {f:Addr}{fd:FuncData}(F:Fun K "word_of" "word_of" Nf f fd)(T:Txt K mg aB aC ah ad aa ac aj am ao aq ar au av aw ax ay az aA):Ax P w K mg base CX0 1 f fd ["signs"] Yy:=by
 refine F.ok cP (fun vs H Q E h=>?_) (fun cdv A outer s H vs Q E hr h=>?_)
 ·obtain ⟨l,rfl,_⟩:=h
  rfl
 ·obtain ⟨l,rfl,h0,h1,q⟩:=h
  refine ⟨_,(Ag (Ao (Di Sl (by rfl) T.n_int mK (Ad (pU (pv 0)) (Ad Af Aa rfl) rfl)))),?_⟩
  k_is
  refine ⟨_,rfl,?_,?_⟩
  ·rw [A5]
   exact Nat.le_of_lt (Df (by omega))
  k_is
  refine ⟨_,rfl,?_,?_,?_,?_⟩
  ·rw [Kk,A5]
   omega
  ·intro c hc
   have:c∈(Aw l).cps.toList:=by
    have h:c∈(Aw l).cps.toList.reverse.toArray.toList:=hc
    simpa using h
   exact cI l c this
  ·intro z
   have e:(Sy (Aw l)).cps.toList.length=0:=by rw [z];rfl
   have e2:(Sy (Aw l)).cps.toList.length=(Sy (Aw l)).length:=by simp [Str.length]
   rw [e2,Kk,A5] at e
   omega
  ·rw [sQ]
   exact q
def Ua (K:PySem.W.Frag):Sp:=fun vs H Q _=>∃ l:List Bool,vs=[.str (Aw l)]/\l.length<=20000/\∀ p H',Ak H H'->H p=none->H' p=some (.tup (nV (wordsOf l)))->Q (.ref p) H'
theorem X9 {f:Addr}{fd:FuncData}(F:Fun K "words_of" "words_of" Ig f fd)(T:Txt K mg aB aC ah ad aa ac aj am ao aq ar au av aw ax ay az aA)(bh:Cal P w K mg base "word_of" 1 ["signs"] Yy):Ax P w K mg base CX0 2 f fd ["text"] (Ua K):=by
 refine F.ok X6 (fun vs H Q E h=>?_) (fun cdv A outer s H vs Q E hr h=>?_)
 ·obtain ⟨l,rfl,_⟩:=h
  rfl
 ·obtain ⟨l,rfl,hl,q⟩:=h
  have hz:(Aw l).length<=sizeLine:=by rw [A5];exact Nat.le_of_lt (Ap (by omega))
  refine ⟨_,(Ag (Ao (Di Fc (by rfl) T.n_tuple O5 (Ad (Oa rfl Sv (Nz rfl T.n_range (Ad Af (Ad (Ar Cs (by rfl) T.n_len Em (Ad (pv 0) Aa rfl)) (Ad (Ba rfl T.g_WORD_BITS) Aa rfl) rfl) rfl)) (fun _ _ _ _=>Dg) (fun _ _ _ _=>(A4 bh (hr.mono (by decide:1<=_)) (Ad (Ce Wk (pv 1) (Bw (pv 0)) (Bw (Aj Be (pv 0) (Ba rfl T.g_WORD_BITS)))) Aa rfl)))) Aa rfl)))),?_⟩
  k_is
  refine ⟨_,rfl,hz,?_⟩
  rw [A5]
  k_is
  refine ⟨0,l.length,32,rfl,by omega,?_⟩
  have hn:B9 0 (l.length:Int) 32=Bp l.length:=Sb l.length 32 (by decide)
  rw [hn]
  refine Yp (fun i=>nV ((List.range i).map fun j=>val (A1 l j))) rfl (fun i hi=>?_) (fun i H1 R A hi sm kR kA=>?_) (fun D H1 hD sm hl'=>?_)
  ·have:=Xy hi
   rw [List.length_map,List.length_map,List.length_range]
   exact Ap (by omega)
  ·k_is
   refine qI hz ?_
   have hi':=Xy hi
   rw [show (0+(i:Int)*32)=((32*i:Nat):Int) by omega,show (((32*i:Nat):Int)+32)=((32*i+32:Nat):Int) by omega,Ko]
   k_is
   refine ⟨A1 l i,?_,?_,?_,?_⟩
   ·unfold A1
    rw [show 32*i+32-32*i=32 by omega]
    rfl
   ·unfold A1
    rw [List.length_take,List.length_drop]
    omega
   ·unfold A1
    rw [List.length_take]
    omega
   ·refine kA _ _ ?_ (Ak.refl _)
    exact Kc _ _
  ·k_is
   refine ⟨D,_,rfl,.inl ⟨SqL.of hl',fun p hp=>?_⟩⟩
   exact q p _ (sm.trans (Ah hp)) (sm.free hp) Ac
theorem lN:∀ r:Nat,r<16->dP[r]?=some (.str (Aw (cU r))):=by
 intro r hr
 have:r=0\/r=1\/r=2\/r=3\/r=4\/r=5\/r=6\/r=7\/r=8\/r=9\/r=10\/r=11\/r=12\/r=13\/r=14\/r=15:=by omega
 rcases this with rfl | rfl | rfl | rfl | rfl | rfl | rfl | rfl | rfl | rfl | rfl | rfl | rfl | rfl | rfl | rfl<;>rfl
theorem lR (ls:List (List Bool)):Txt.join ("":Str) (ls.map Aw)=Aw ls.flatten:=by
 refine G1 ?_
 rw [Rb,Cn]
 induction ls with
 | nil=>rfl
 | cons a r ih =>
  rw [List.map_cons,List.map_cons,List.flatten_cons,ih,List.flatten_cons,List.map_append,Cn]
theorem kT (ls:List (List Bool)):((ls.map Aw).map (·.length)).sum=ls.flatten.length:=by
 induction ls with
 | nil=>rfl
 | cons a r ih=>rw [List.map_cons,List.map_cons,List.sum_cons,ih,List.flatten_cons,List.length_append,A5]
theorem Xw {K:PySem.W.Frag}{H1:Hp}{Q:VK}{p:Addr}{ls:List (List Bool)}(hl:H1 p=some (.lst (ls.map fun l=>V.str (Aw l))))(hz:ls.flatten.length<=100000)(q:Q (.str (Aw ls.flatten)) H1):mF K (.str "") [.ref p] H1 Q:=by
 refine ⟨"",p,ls.map Aw,rfl,rfl,SqL.of ?_,?_,?_⟩
 ·rw [hl,List.map_map]
  rfl
 ·rw [kT]
  show ls.flatten.length+_*0<=_
  omega
 ·rw [lR]
  exact q
theorem qC (n k:Nat){j:Int}(h:j=(k:Int)):(n:Int)/2 ^ j.toNat=((n/2 ^ k:Nat):Int):=by
 subst h
 rw [Int.toNat_natCast]
 exact (Int.natCast_ediv n (2 ^ k)).symm
def M0 (K:PySem.W.Frag):Sp:=fun vs H Q _=>∃ n:Nat,vs=[.int n]/\∀ H',Ak H H'->Q (.str (Aw (L8 n))) H'
theorem Xf {f:Addr}{fd:FuncData}(F:Fun K "signs_of" "signs_of" Ij f fd)(T:Txt K mg aB aC ah ad aa ac aj am ao aq ar au av aw ax ay az aA):Ax P w K mg base CX0 1 f fd ["word"] (M0 K):=by
 refine F.ok Yl (fun vs H Q E h=>?_) (fun cdv A outer s H vs Q E hr h=>?_)
 ·obtain ⟨n,rfl,_⟩:=h
  rfl
 ·obtain ⟨n,rfl,q⟩:=h
  refine ⟨_,(Ag (Ao (Ey PySem.F.plainAttrs_str PySem.F.slot_str_join PySem.F.type_str_join Uw As (Ad (Oa rfl Sw (Nz rfl T.n_range (Ad Af (Ad (Ba rfl T.g_WORD_BITS) (Ad Af Aa rfl) rfl) rfl)) (fun _ _ _ _=>Dg) (fun _ _ _ _=>(C3 (pO K) (Bz (v:=.ref _) rfl T.g_SIGNS_OF_FOUR rfl) (Aj Nl (Aj jB (pv 1) (pv 0)) Af) (fun _ _=>rfl)))) Aa rfl)))),?_⟩
  k_is
  refine ⟨rfl,?_⟩
  k_is
  refine ⟨0,32,4,rfl,by omega,?_⟩
  refine Yp (fun i=>((List.range i).map fun j=>cU (n/2 ^ (4*j)%16)).map fun l=>V.str (Aw l)) rfl (fun i hi=>?_) (fun i H1 R A hi sm kR kA=>?_) (fun D H1 hD sm hl=>?_)
  ·have hi:i<8:=hi
   rw [List.length_map,List.length_map,List.length_range]
   exact Df (by omega)
  ·have hi:i<8:=hi
   k_is
   refine iS (by omega) ?_
   k_is
   rw [qC n (4*i) (by omega),cX]
   refine L7 (T.q_SIGNS_OF_FOUR _) (Bx (lN _ (Nat.mod_lt _ (by decide)))) ?_
   refine kA _ _ ?_ (Ak.refl _)
   rw [List.range_succ,List.map_append,List.map_append]
   rfl
  ·k_is
   have hl:H1 D=some (.lst (((List.range 8).map fun j=>cU (n/2 ^ (4*j)%16)).map fun l=>V.str (Aw l))):=hl
   refine Xw hl ?_ ?_
   ·rw [Rp]
    unfold L8
    rw [List.length_map,List.length_range]
    decide
   ·rw [Rp]
    exact q _ sm
def iC (l:List Bool)(t:Addr):List (Str×V):=[("length",.int (l.length:Nat)),("many_ones",.int (l.count true:Nat)),("kept_words",.ref t)]
def Es (K:PySem.W.Frag)(C:Addr)(H:Hp)(a:Addr)(l:List Bool):Prop:=∃ dx t,H a=some (.ins C dx (iC l t))/\H t=some (.tup (nV (wordsOf l)))/\l.length<=20000
theorem Gi {K:PySem.W.Frag}{C x b:Addr}{H H':Hp}{l:List Bool}(s:SameBut x H H')(n:mZ H x)(hne:b≠x)(h:Es K C H b l):Es K C H' b l:=by
 obtain ⟨dx,t,h1,h2,h3⟩:=h
 exact ⟨dx,t,s _ _ hne h1,s _ _ (fun e=>by subst e;exact (n _).1 (.inl h2)) h2,h3⟩
theorem Es.same {K:PySem.W.Frag}{C b:Addr}{H H':Hp}{l:List Bool}(s:Ak H H')(h:Es K C H b l):Es K C H' b l:=by
 obtain ⟨dx,t,h1,h2,h3⟩:=h
 exact ⟨dx,t,s _ _ h1,s _ _ h2,h3⟩
def K6 (K:PySem.W.Frag)(C:Addr):Sp:=fun vs H Q _=>∃ (x dx:Addr) (l:List Bool),vs=[.ref x,.str (Aw l)]/\H x=some (.ins C dx [])/\l.length<=20000/\∀ H',SameBut x H H'->Es K C H' x l->Q .non H'
theorem Z8 {l:List Bool}(h:l.length<=20000):pA (Aw l)=true:=by
 unfold pA
 rw [A5,if_neg (by omega)]
 exact decide_eq_true (S5 l).2
theorem Wf {f : Addr}{fd : FuncData}(F : Fun K "__init__" "Bits.__init__" Jt f fd)(T : Txt K mg aB aC ah ad aa ac aj am ao aq ar au av aw ax ay az aA)(Z : Qd K ai)(bi : Cal P w K mg base "is_row" 1 ["thing"] Vf)(bj : Cal P w K mg base "words_of" 2 ["text"] (Ua K)) :
    Ax P w K mg base CX0 3 f fd ["self", "text"] (K6 K ai) := by
  refine F.ok Vk (fun vs H Q E h => ?_) (fun cdv A outer s H vs Q E hr h => ?_)
  · obtain ⟨x, dx, l, rfl, _⟩ := h
    rfl
  · obtain ⟨x, dx, l, rfl, hx, hl, q⟩ := h
    have hz : (Aw l).length <= sizeLine := by rw [A5]; exact Nat.le_of_lt (Ap (by omega))
    refine ⟨_, (Ab (B4 (E3 (C5 (A4 bi (hr.mono (by decide : 1 <= _)) (Ad (pv 1) Aa rfl)))) (Ag Bi)
      A6)
      (Ab (Er (pv 0) (Ar Cs (by rfl) T.n_len Em (Ad (pv 1) Aa rfl)) rfl)
      (Ab (Er (pv 0) (Ey PySem.F.plainAttrs_str PySem.F.slot_str_count PySem.F.type_str_count Sc (pv 1) (Ad As Aa rfl)) rfl)
      (Ag (Er (pv 0) (A4 bj (hr.mono (by decide : 2 <= _)) (Ad (pv 1) Aa rfl)) rfl))))), ?_⟩
    k_is
    refine ⟨_, rfl, hz, ?_⟩
    rw [Z8 hl]
    k_is
    refine ⟨_, rfl, hz, ?_⟩
    rw [A5]
    k_is
    refine C8 hx Z.cl Z.n_length (by decide) ?_
    k_is
    refine ⟨rfl, ?_⟩
    k_is
    refine ⟨_, 49, rfl, rfl, ?_⟩
    rw [(S5 l).1]
    k_is
    refine C8 Ac Z.cl Z.n_many_ones (show 1 < 1000 by decide) ?_
    rw [O9]
    k_is
    refine ⟨l, rfl, hl, fun t H' sm hf ht => ?_⟩
    k_is
    refine C8 (sm _ _ Ac) Z.cl Z.n_kept_words (show 2 < 1000 by decide) ?_
    k_is
    refine q _ ((A7.trans sm.but).trans A7) ⟨dx, t, Ac, ?_, hl⟩
    have hne : t ≠ x := fun e => by
      subst e
      rw [Ac] at hf
      cases hf
    rw [Al hne]
    exact ht
def Lc (K:PySem.W.Frag)(C:Addr):Sp:=fun vs H Q _=>∃ (x:Addr) (l:List Bool),vs=[.ref x]/\Es K C H x l/\Q (.int (l.length:Nat)) H
theorem Wg {f:Addr}{fd:FuncData}(F:Fun K "size" "Bits.size" J4 f fd)(T:Txt K mg aB aC ah ad aa ac aj am ao aq ar au av aw ax ay az aA)(Z:Qd K ai):Ax P w K mg base CX0 1 f fd ["self"] (Lc K ai):=by
 refine F.ok U2 (fun vs H Q E h=>?_) (fun cdv A outer s H vs Q E hr h=>?_)
 ·obtain ⟨x,l,rfl,_⟩:=h
  rfl
 ·obtain ⟨x,l,rfl,⟨dx,t,hx,ht,hl⟩,q⟩:=h
  refine ⟨_,(Ag (Ao (Bh (pv 0) rfl))),?_⟩
  k_is
  exact mB hx Z.cl Z.n_length rfl q
def Jl (K:PySem.W.Frag)(C:Addr):Sp:=fun vs H Q _=>∃ (x:Addr) (l:List Bool),vs=[.ref x]/\Es K C H x l/\∀ t,H t=some (.tup (nV (wordsOf l)))->Q (.ref t) H
theorem Wb {f:Addr}{fd:FuncData}(F:Fun K "words" "Bits.words" Hx f fd)(T:Txt K mg aB aC ah ad aa ac aj am ao aq ar au av aw ax ay az aA)(Z:Qd K ai):Ax P w K mg base CX0 1 f fd ["self"] (Jl K ai):=by
 refine F.ok Sx (fun vs H Q E h=>?_) (fun cdv A outer s H vs Q E hr h=>?_)
 ·obtain ⟨x,l,rfl,_⟩:=h
  rfl
 ·obtain ⟨x,l,rfl,⟨dx,t,hx,ht,hl⟩,q⟩:=h
  refine ⟨_,(Ag (Ao (Bh (pv 0) rfl))),?_⟩
  k_is
  exact mB hx Z.cl Z.n_kept_words rfl (q t ht)
def Mx (K:PySem.W.Frag)(C:Addr):Sp:=fun vs H Q _=>∃ (a:Addr) (l:List Bool) (low high:Nat),vs=[.ref a,.int low,.int high]/\Es K C H a l/\low<=high/\high<=l.length/\∀ H',Ak H H'->Q (.str (Aw ((l.drop low).take (high-low)))) H'
theorem Qy {f : Addr}{fd : FuncData}(F : Fun K "stretch" "Bits.stretch" El f fd)(T : Txt K mg aB aC ah ad aa ac aj am ao aq ar au av aw ax ay az aA)(Z : Qd K ai)(bn : Cal P w K mg base "check_stretch" 4 ["low", "high", "greatest"] cF)(bo : Cal P w K mg base "signs_of" 1 ["word"] (M0 K)) :
    Ax P w K mg base CX0 5 f fd ["self", "low", "high"] (Mx K ai) := by
  refine F.ok C1 (fun vs H Q E h => ?_) (fun cdv A outer s H vs Q E hr h => ?_)
  · obtain ⟨a, l, low, high, rfl, _⟩ := h
    rfl
  · obtain ⟨a, l, low, high, rfl, ⟨dx, t, hx, ht, hl⟩, h1, h2, q1⟩ := h
    refine ⟨_, (Ab (Bj (A4 bn (hr.mono (by decide : 4 <= _)) (Ad (pv 1) (Ad (pv 2) (Ad (Bh (pv 0) rfl) Aa rfl) rfl) rfl)))
      (Ab (Am (i := 3) C1.nd rfl (Or.inl rfl) (Aj Cf (pv 1) (Ba rfl T.g_WORD_BITS)))
      (Ab (Am (i := 4) C1.nd rfl (Or.inl rfl) (Aj Cf (Aj Cl (Aj Be (pv 2) (Ba rfl T.g_WORD_BITS)) Af) (Ba rfl T.g_WORD_BITS)))
      (Ab (Am (i := 5) C1.nd rfl (Or.inl rfl) (Ey PySem.F.plainAttrs_str PySem.F.slot_str_join PySem.F.type_str_join Uw As (Ad (Oa rfl Lv (Z2 (Ce U1 (Bh (pv 0) rfl) (Bw (pv 3)) (Bw (pv 4)))) (fun _ _ _ _ => Dg) (fun _ _ _ _ => (A4 bo (hr.mono (by decide : 1 <= _)) (Ad (pv 0) Aa rfl)))) Aa rfl)))
      (Ab (Am (i := 6) C1.nd rfl (Or.inl rfl) (Aj Ha (pv 3) (Ba rfl T.g_WORD_BITS)))
      (Ag (Ao (Ce Wk (pv 5) (Bw (Aj Cl (pv 1) (pv 6))) (Bw (Aj Cl (pv 2) (pv 6))))))))))), ?_⟩
    k_is
    refine ⟨a, ai, dx, _, _, rfl, hx, Z.cl, Z.n_length, rfl, ?_⟩
    k_is
    refine ⟨low, high, _, rfl, by omega, by omega, by omega, ?_⟩
    k_is
    refine ⟨rfl, ?_⟩
    k_is
    refine ⟨a, ai, dx, _, _, rfl, hx, Z.cl, Z.n_kept_words, rfl, ?_⟩
    k_is
    refine ⟨t, _, rfl, SqT.of ht, fun p2 H2 s2 hp2 => ?_⟩
    rw [show ((low : Int) / 32) = ((low / 32 : Nat) : Int) by omega, show ((high : Int) + 32 - 1) / 32 = (((high + 31) / 32 : Nat) : Int) by omega, Rk] at hp2
    have hW : (wordsOf l).length = Bp l.length := by unfold TW.wordsOf; rw [List.length_map, List.length_range]
    have e8 : ((nV (wordsOf l)).drop (low / 32)).take ((high + 31) / 32 - low / 32) = nV ((List.range ((high + 31) / 32 - low / 32)).map fun j => val (A1 l (low / 32 + j))) := by
      unfold nV
      have : min ((high + 31) / 32 - low / 32) (Bp l.length - low / 32) = (high + 31) / 32 - low / 32 := by unfold Bp; omega
      rw [<- List.map_drop, <- List.map_take, Tn, this]
    rw [e8] at hp2
    refine ⟨p2, rfl, ⟨_, hp2⟩, ?_⟩
    generalize hm : (high + 31) / 32 - low / 32 = m at hp2
    refine lL hp2 (fun j => ((List.range j).map fun i => L8 (val (A1 l (low / 32 + i)))).map fun l => V.str (Aw l)) rfl (fun j hj => ?_) (fun j z H3 R A hz s3 kR kA => ?_) (fun D H3 hD s3 hl3 => ?_)
    · rw [List.length_map, List.length_map, List.length_range] at hj
      rw [List.length_map, List.length_map, List.length_range]
      exact Df (by omega)
    · have hj : j < m := by
        have := (List.getElem?_eq_some_iff.mp hz).1
        rwa [List.length_map, List.length_map, List.length_range] at this
      have hze : z = .int (val (A1 l (low / 32 + j)) : Nat) := by
        unfold nV at hz
        rw [List.getElem?_map, List.getElem?_map, List.getElem?_range hj] at hz
        exact (Option.some.inj hz).symm
      subst hze
      k_is
      refine ⟨_, rfl, fun H4 s4 => ?_⟩
      refine kA _ _ ?_ s4
      rw [List.range_succ, List.map_append, List.map_append]
      rfl
    · rw [List.length_map, List.length_map, List.length_range] at hl3
      have hfl : ((List.range m).map fun i => L8 (val (A1 l (low / 32 + i)))).flatten.length <= 100000 := by
        rw [Pz, List.length_map, List.length_range]
        omega
      k_is
      refine Xw hl3 hfl ?_
      k_is
      refine qI ?_ ?_
      · rw [A5]
        exact Nat.le_of_lt (Ap hfl)
      rw [Pz, show ((low : Int) - (low : Int) / 32 * 32) = ((low - 32 * (low / 32) : Nat) : Int) by omega, show ((high : Int) - (low : Int) / 32 * 32) = ((high - 32 * (low / 32) : Nat) : Int) by omega, Ko,
        show high - 32 * (low / 32) - (low - 32 * (low / 32)) = high - low by omega, nD l (low / 32) m low (high - low) (by omega) (by omega) (by omega)]
      exact q1 _ (s2.trans s3)
theorem Sn {f : Addr}{fd : FuncData}(F : Fun K "first_that" "first_that" Ix f fd)(T : Txt K mg aB aC ah ad aa ac aj am ao aq ar au av aw ax ay az aA) : Ax P w K mg base CX0 3 f fd ["low", "high", "holds"] (Mf P w K mg base 2) := by
  refine F.ok E9 (fun vs H Q E h => ?_) (fun cdv A outer s H vs Q E hr h => ?_)
  · obtain ⟨lo, hi, g, p, rfl, _⟩ := h
    rfl
  · obtain ⟨lo, hi, g, p, rfl, hle, hA, q⟩ := h
    refine ⟨_, (Ab (Jk PassesOwn.never (An Oc (pv 0) (pv 1) (Au _))
      (Ab (Am (i := 3) E9.nd rfl (Or.inl rfl) (Aj Cf (Aj Be (pv 0) (pv 1)) Af))
      (Ag (B4 (C5 (tD (k := 2) (hr.mono (by decide : 2 <= _)) (i := 2) rfl rfl (pv 3))) (Ag (Am (i := 1) E9.nd rfl (Or.inl rfl) (pv 3)))
      (Ag (Am (i := 0) E9.nd rfl (Or.inl rfl) (Aj Be (pv 3) Af)))))))
      (Ag (Ao (pv 0)))), ?_⟩
    k_is
    refine Kh (fun σ H' => Ak H H'/\∃ (x y : Int) (v : Option V), σ = [some (.int x), some (.int y), some (.ref g), v]/\lo <= x/\x <= y/\y <= hi/\(lo < x->p (x - 1) = false)/\(y < hi->p y = true)) (fun σ _ => match σ with | [some (.int x), some (.int y), _, _] => (y - x).toNat | _ => 0) ⟨Ak.refl _, lo, hi, none, rfl, Int.le_refl _, hle, Int.le_refl _, fun z => absurd z (Int.lt_irrefl _), fun z => absurd z (Int.lt_irrefl _)⟩ ?_
    rintro μ σ H' ⟨sm, x, y, v, rfl, h1, h2, h3, h4, h5⟩ hμ
    k_is
    refine B8 (fun hw => ?_) (fun hw => ?_)
    · refine Pn ?_
      k_is
      refine ⟨g, _, p, rfl, hA.same sm, ?_⟩
      k_is
      refine ⟨_, rfl, Ak.refl _, by constructor <;> omega, fun H2 s2 => ?_⟩
      k_is
      have hμ' : y - x = (μ : Int) := by
        have : (y - x).toNat = μ := hμ
        omega
      cases hp : p ((x + y) / 2) with
      | true =>
        k_is
        refine ⟨⟨sm.trans s2, x, (x + y) / 2, _, rfl, h1, by omega, by omega, h4, fun _ => hp⟩, ?_⟩
        show ((x + y) / 2 - x).toNat < μ
        omega
      | false =>
        k_is
        refine ⟨⟨sm.trans s2, (x + y) / 2 + 1, y, _, rfl, by omega, by omega, h3, fun _ => by rw [show (x + y) / 2 + 1 - 1 = (x + y) / 2 by omega]; exact hp, h5⟩, ?_⟩
        show (y - ((x + y) / 2 + 1)).toNat < μ
        omega
    · k_is
      obtain rfl : x = y := by omega
      exact q x H' h1 h3 h4 h5 sm
def nJ:Sp:=fun vs H Q _=>∃ (a:Addr) (xs:List Nat),vs=[.ref a]/\H a=some (.lst (nV xs))/\xs.length<=1000/\∀ p H',Ak H H'->H p=none->H' p=some (.lst (nV ((List.range (xs.length+1)).map fun i=>(xs.take i).sum)))->Q (.ref p) H'
theorem Op {f:Addr}{fd:FuncData}(F:Fun K "running_sums" "running_sums" Gu f fd)(T:Txt K mg aB aC ah ad aa ac aj am ao aq ar au av aw ax ay az aA):Ax P w K mg base CX0 1 f fd ["numbers"] nJ:=by
 refine F.ok Fv (fun vs H Q E h=>?_) (fun cdv A outer s H vs Q E hr h=>?_)
 ·obtain ⟨a,xs,rfl,_⟩:=h
  rfl
 ·obtain ⟨a,xs,rfl,ha,hn,q⟩:=h
  refine ⟨_,(Ab (Am (i:=1) Fv.nd rfl (Or.inl rfl) (Bd (Ad Af Aa rfl)))
   (Ab (D0 PassesOwn.never rfl (Fa (pv 0)) (Bn (i:=2) Fv.nd rfl (Or.inl rfl))
   (Ag (Bj (Ey PySem.F.plainAttrs_list PySem.F.slot_list_append PySem.F.type_list_append De (pv 1) (Ad (Aj Be (C3 Ci (pv 1) (Dy Ch Af) (fun _ _=>rfl)) (pv 2)) Aa rfl)))))
   (Ag (Ao (pv 1))))),?_⟩
  k_is
  refine ⟨few (by simp),fun p hp=>?_⟩
  have t0:=Ah (o:=.lst [V.int 0]) hp
  k_is
  refine ⟨a,rfl,⟨_,SqL.of (t0 _ _ ha)⟩,?_⟩
  refine Mo (xs:=nV xs) (fun i σ H1=>(∃ v:Option V,σ=[some (.ref a),some (.ref p),v])/\H1 p=some (.lst (nV ((List.range (i+1)).map fun i=>(xs.take i).sum)))/\Ak H H1) ⟨⟨_,rfl⟩,Ac,t0⟩ (fun i σ H1 _ h=>SqL.of (h.2.2 _ _ ha)) ?_ ?_
  ·rintro i x σ H1 hx ⟨⟨v,rfl⟩,hp1,s1⟩
   have hi:=Dl hx
   rw [show (nV xs).length=xs.length by unfold nV;rw [List.length_map]] at hi
   obtain rfl:x=.int (xs[i]:Nat):=by
    unfold nV at hx
    rw [List.getElem?_map,List.getElem?_eq_getElem hi] at hx
    exact (Option.some.inj hx).symm
   k_is
   refine ⟨.inl ⟨rfl,_,SqL.of hp1⟩,?_⟩
   k_is
   refine Eb (SqL.of hp1) (v:=.int ((xs.take i).sum:Nat)) ?_ ?_
   ·rw [Kc]
    exact X5 _ _
   k_is
   refine Ex hp1 ?_ ?_
   ·unfold nV
    rw [List.length_map,List.length_map,List.length_range]
    exact Ap (by omega)
   k_is
   refine ⟨⟨_,rfl⟩,?_,fun b u e=>?_⟩
   ·rw [Ac,Kc _ (i+1),List.take_add_one,List.getElem?_eq_getElem hi,List.sum_append]
    show some (HO.lst (_++[V.int (((xs.take i).sum:Nat)+(xs[i]:Nat):Int)]))=some (HO.lst (_++[V.int (((xs.take i).sum+[xs[i]].sum:Nat):Int)]))
    rw [List.sum_singleton,Int.natCast_add]
   ·rw [Al (Aq e hp)]
    exact s1 _ _ e
  ·rintro σ H1 ⟨⟨v,rfl⟩,hp1,s1⟩
   rw [show (nV xs).length=xs.length by unfold nV;rw [List.length_map]] at hp1
   k_is
   exact q p H1 s1 hp hp1
def B1 (n:Nat):Nat:=(Bp n+7)/8
def Gy (l:List Bool):List Nat:=(List.range (B1 l.length+1)).map fun b=>cnt l (256*b)
def Ug (K:PySem.W.Frag):Sp:=fun vs H Q _=>∃ (t:Addr) (l:List Bool),vs=[.ref t]/\H t=some (.tup (nV (wordsOf l)))/\l.length<=20000/\∀ p H',Ak H H'->H p=none->H' p=some (.tup (nV (Gy l)))->Q (.ref p) H'
theorem Xo (l:List Bool)(b:Nat):((wordsOf l).drop (8*b)).take 8=(List.range (min 8 (Bp l.length-8*b))).map fun i=>val (A1 l (8*b+i)):=by
 unfold TW.wordsOf
 refine List.ext_getElem? fun i=>?_
 rw [List.getElem?_take]
 by_cases h8:i<8
 ·rw [if_pos h8,List.getElem?_drop,List.getElem?_map,List.getElem?_map]
  by_cases hm:8*b+i<Bp l.length
  ·rw [List.getElem?_range hm,List.getElem?_range (by omega)]
   rfl
  ·rw [List.getElem?_eq_none (by rw [List.length_range];omega),List.getElem?_eq_none (by rw [List.length_range];omega)]
   rfl
 ·rw [if_neg h8,List.getElem?_eq_none (by rw [List.length_map,List.length_range];omega)]
def blk (l:List Bool)(i:Nat):List Nat:=(List.range (min 8 (Bp l.length-8*i))).map fun j=>val (A1 l (8*i+j))
def Zt (l:List Bool)(i:Nat):Nat:=((List.range (min 8 (Bp l.length-8*i))).map fun m=>pc (val (A1 l (8*i+m)))).sum
theorem Xq (l:List Bool):∀ i,(((List.range i).map (Zt l)).sum)=cnt l (256*i)
 | 0=>by
  show 0=cnt l 0
  rfl
 | i+1=>by
  rw [List.range_succ,List.map_append,List.sum_append,Xq l i]
  show cnt l (256*i)+[Zt l i].sum=_
  rw [List.sum_singleton]
  have:=gS l i (min 8 (Bp l.length-8*i)) rfl
  unfold Zt
  omega
def gW (K:PySem.W.Frag)(l:List Bool)(i:Nat)(ys:List V)(H:Hp):Prop:=ys.length=i/\∀ j y,ys[j]?=some y->∃ a,y=.ref a/\SqT K H a (nV (blk l j))
theorem jY {K:PySem.W.Frag}{l:List Bool}{i:Nat}{ys:List V}{H:Hp}{D:Addr}{xs:List V}{o:HO}(hD:H D=some (.lst xs))(h:gW K l i ys H):gW K l i ys (upd H D o):=⟨h.1,fun j y e=>by
 obtain ⟨a,rfl,ht⟩:=h.2 j y e
 refine ⟨a,rfl,?_⟩
 rcases ht with (ht | ⟨ob,ht⟩) | ht
 ·exact .inl (.inl (by rw [Al (Rz ht hD (by intro z;cases z))];exact ht))
 ·exact .inl (.inr ⟨ob,by rw [Al (Rz ht hD (by intro z;cases z))];exact ht⟩)
 ·exact .inr ht⟩
theorem gW.same {K:PySem.W.Frag}{l:List Bool}{i:Nat}{ys:List V}{H H':Hp}(h:gW K l i ys H)(s:Ak H H'):gW K l i ys H':=⟨h.1,fun j y e=>by
 obtain ⟨a,rfl,ht⟩:=h.2 j y e
 exact ⟨a,rfl,s.seqT ht⟩⟩
theorem Ml {f : Addr}{fd : FuncData}(F : Fun K "table_of_words" "table_of_words" Cj f fd)(T : Txt K mg aB aC ah ad aa ac aj am ao aq ar au av aw ax ay az aA)(aH : Cal P w K mg base "ones_in" 1 ["word"] Rv)(bp : Cal P w K mg base "running_sums" 1 ["numbers"] nJ) : Ax P w K mg base CX0 2 f fd ["words"] (Ug K) := by
  refine F.ok Gx (fun vs H Q E h => ?_) (fun cdv A outer s H vs Q E hr h => ?_)
  · obtain ⟨t, l, rfl, _⟩ := h
    rfl
  · obtain ⟨t, l, rfl, ht, hl, q⟩ := h
    have hW : (wordsOf l).length = Bp l.length := by unfold TW.wordsOf; rw [List.length_map, List.length_range]
    have hM : Bp l.length <= 626 := by unfold Bp; omega
    have hB : B1 l.length <= 80 := by unfold B1; omega
    refine ⟨_, (Ab (Mj (i := 1) rfl Ku Gx.nd rfl rfl (Nz rfl T.n_range (Ad Af (Ad (Ar Bk (by rfl) T.n_len Em (Ad (pv 0) Aa rfl)) (Ad (Ba rfl T.g_BLOCK_WORDS) Aa rfl) rfl) rfl)) (fun _ _ _ _ => Dg) (fun _ _ _ _ => (Ce (jG K) (pv 1) (Bw (pv 0)) (Bw (Aj Be (pv 0) (Ba rfl T.g_BLOCK_WORDS))))))
      (Ag (Ao (Di Fc (by rfl) T.n_tuple O5 (Ad (A4 bp (hr.mono (by decide : 1 <= _)) (Ad (Oa rfl Kw (Fa (pv 1)) (fun _ _ _ _ => Dg) (fun _ _ _ _ => (Ar (gJ K rfl) (by rfl) T.n_sum vM (Ad (oF rfl Ky (pM K (pv 0)) (fun _ _ _ _ => Dg) (fun _ _ _ _ => (A4 aH (hr.mono (by decide : 1 <= _)) (Ad (pv 0) Aa rfl)))) Aa rfl)))) Aa rfl)) Aa rfl))))), ?_⟩
    k_is
    refine ⟨t, _, rfl, .inr (SqT.of ht), ?_⟩
    k_is
    rw [List.length_map, hW]
    refine ⟨0, Bp l.length, 8, rfl, by omega, ?_⟩
    have hn : B9 0 (Bp l.length : Int) 8 = B1 l.length := Sb (Bp l.length) 8 (by decide)
    rw [hn]
    refine fU (fun i ys H1 => gW K l i ys H1) (fun H1 _ => ⟨rfl, fun j y e => by cases e⟩) (fun i ys H1 D xs o hD h => jY hD h) (fun i ys H1 hi h => by rw [h.1]; exact Df (by omega)) (fun i ys H1 A R hi s1 hP kA => ?_) (fun D ys H1 hD s1 hP hDl => ?_)
    · k_is
      refine ⟨t, _, rfl, SqT.of (s1 _ _ ht), fun p2 H2 s2 hp2 => ?_⟩
      rw [show (0 + (i : Int) * 8) = ((8 * i : Nat) : Int) by omega, show (((8 * i : Nat) : Int) + 8) = ((8 * i + 8 : Nat) : Int) by omega, Rk, show 8 * i + 8 - 8 * i = 8 by omega] at hp2
      have e8 : ((nV (wordsOf l)).drop (8 * i)).take 8 = nV (blk l i) := by
        unfold nV blk
        rw [<- List.map_drop, <- List.map_take, Xo]
      rw [e8] at hp2
      refine kA _ _ s2 ⟨by rw [List.length_append, hP.1]; rfl, fun j y e => ?_⟩
      by_cases hj : j < ys.length
      · rw [List.getElem?_append_left hj] at e
        exact (hP.same s2).2 j y e
      · rw [List.getElem?_append_right (by omega)] at e
        have e0 : j - ys.length = 0 := by
          have := Dl e
          simp only [List.length_cons, List.length_nil] at this
          omega
        rw [e0] at e
        obtain rfl := Option.some.inj e
        have : j = i := by have := hP.1; omega
        subst this
        exact ⟨p2, rfl, hp2⟩
    · k_is
      refine ⟨D, rfl, ⟨_, SqL.of hDl⟩, ?_⟩
      refine Mr (SqL.of hDl) (fun i => nV ((List.range i).map (Zt l))) rfl (fun i hi => ?_) (fun i x H2 R A hx s2 kR kA => ?_) (fun D2 H2 hD2 s2 hl2 => ?_)
      · unfold nV
        rw [List.length_map, List.length_map, List.length_range]
        rw [hP.1] at hi
        exact Df (by omega)
      · obtain ⟨b, rfl, hb⟩ := (hP.same s2).2 i x hx
        k_is
        refine ⟨b, rfl, ⟨_, hb⟩, ?_⟩
        refine lL hb (fun j => nV ((List.range j).map fun m => pc (val (A1 l (8 * i + m))))) rfl (fun j hj => ?_) (fun j x H3 R3 A3 hx3 s3 kR3 kA3 => ?_) (fun D3 H3 hD3 s3 hl3 => ?_)
        · unfold blk nV at hj
          rw [List.length_map, List.length_map, List.length_range] at hj
          rw [List.length_map, List.length_map, List.length_range]
          exact Df (by omega)
        · have hj : j < min 8 (Bp l.length - 8 * i) := by
            have := (List.getElem?_eq_some_iff.mp hx3).1
            unfold blk nV at this
            rwa [List.length_map, List.length_map, List.length_range] at this
          have hxe : x = .int (val (A1 l (8 * i + j)) : Nat) := by
            unfold nV blk at hx3
            rw [List.getElem?_map, List.getElem?_map, List.getElem?_range hj] at hx3
            exact (Option.some.inj hx3).symm
          subst hxe
          k_is
          refine ⟨_, rfl, ?_⟩
          refine kA3 _ _ ?_ (Ak.refl _)
          exact Kc _ _
        · unfold blk at hl3
          rw [List.length_map, List.length_map, List.length_range] at hl3
          k_is
          refine ⟨D3, _, rfl, SqL.of (by rw [hl3, dY]), ?_⟩
          rw [kL]
          refine kA _ _ ?_ s3
          exact Kc _ _
      · rw [hP.1] at hl2
        k_is
        refine ⟨D2, (List.range (B1 l.length)).map (Zt l), rfl, hl2, by rw [List.length_map, List.length_range]; omega, fun p4 H4 s4 hp4 hl4 => ?_⟩
        k_is
        refine ⟨p4, _, rfl, .inl ⟨SqL.of hl4, fun p5 hp5 => ?_⟩⟩
        have et : (List.range (((List.range (B1 l.length)).map (Zt l)).length + 1)).map (fun i => (((List.range (B1 l.length)).map (Zt l)).take i).sum) = Gy l := by
          rw [List.length_map, List.length_range]
          unfold Gy
          refine List.map_congr_left fun i hi => ?_
          have hi := List.mem_range.mp hi
          rw [<- List.map_take, List.take_range, Nat.min_eq_left (by omega), Xq]
        rw [et] at *
        exact q p5 _ (((s1.trans s2).trans s4).trans (Ah hp5)) (((s1.trans s2).trans s4).free hp5) Ac
def lD (l:List Bool)(t u:Addr):List (Str×V):=[("length",.int (l.length:Nat)),("kept_words",.ref t),("kept_table",.ref u)]
def Bb (K:PySem.W.Frag)(C:Addr)(H:Hp)(a:Addr)(l:List Bool):Prop:=∃ dx t u,H a=some (.ins C dx (lD l t u))/\H t=some (.tup (nV (wordsOf l)))/\H u=some (.tup (nV (Gy l)))/\l.length<=20000
theorem Bb.same {K:PySem.W.Frag}{C b:Addr}{H H':Hp}{l:List Bool}(s:Ak H H')(h:Bb K C H b l):Bb K C H' b l:=by
 obtain ⟨dx,t,u,h1,h2,h3,h4⟩:=h
 exact ⟨dx,t,u,s _ _ h1,s _ _ h2,s _ _ h3,h4⟩
def Ik (K:PySem.W.Frag)(CB C:Addr):Sp:=fun vs H Q _=>∃ (x dx b:Addr) (l:List Bool),vs=[.ref x,.ref b]/\H x=some (.ins C dx [])/\Es K CB H b l/\∀ H',SameBut x H H'->Bb K C H' x l->Q .non H'
theorem Q9 {f : Addr}{fd : FuncData}(F : Fun K "__init__" "Counts.__init__" G4 f fd)(T : Txt K mg aB aC ah ad aa ac aj am ao aq ar au av aw ax ay az aA)(Z : Qb K ae)(bq : Mth P w K mg base ai "size" 1 ["self"] (Lc K ai))
    (bt : Mth P w K mg base ai "words" 1 ["self"] (Jl K ai))(bu : Cal P w K mg base "table_of_words" 2 ["words"] (Ug K)) :
    Ax P w K mg base CX0 3 f fd ["self", "bits"] (Ik K ai ae) := by
  refine F.ok R7 (fun vs H Q E h => ?_) (fun cdv A outer s H vs Q E hr h => ?_)
  · obtain ⟨x, dx, b, l, rfl, _⟩ := h
    rfl
  · obtain ⟨x, dx, b, l, rfl, hx, hb, q⟩ := h
    have hb0 := hb
    obtain ⟨dxb, t, hbx, ht, hl⟩ := hb0
    have hbne : b ≠ x := Rz hbx hx (by intro z; cases z)
    refine ⟨_, (Ab (Er (pv 0) (P4 bq (hr.mono (by decide : 1 <= _)) (pv 1)) rfl)
      (Ab (Er (pv 0) (P4 bt (hr.mono (by decide : 1 <= _)) (pv 1)) rfl)
      (Ag (Er (pv 0) (A4 bu (hr.mono (by decide : 2 <= _)) (Ad (Bh (pv 0) rfl) Aa rfl)) rfl)))), ?_⟩
    k_is
    refine ⟨b, dxb, _, rfl, hbx, rfl, ?_⟩
    k_is
    refine ⟨b, l, rfl, hb, ?_⟩
    k_is
    refine C8 hx Z.cl Z.n_length (by decide) ?_
    k_is
    refine ⟨b, dxb, iC l t, rfl, by rw [Al hbne]; exact hbx, rfl, ?_⟩
    k_is
    refine ⟨b, l, rfl, Gi A7 (Ea hx) hbne hb, fun t2 ht2 => ?_⟩
    k_is
    refine C8 Ac Z.cl Z.n_kept_words (show 1 < 1000 by decide) ?_
    rw [O9]
    have ht3 : (upd H x (.ins ae dx (Fj "kept_words" (.ref t2) (Fj "length" (.int (l.length : Nat)) [])))) t2 = some (.tup (nV (wordsOf l))) := by
      have hne : t2 ≠ x := Rz ht2 Ac (by intro z; cases z)
      rw [Al hne] at ht2 ⊢
      exact ht2
    k_is
    refine ⟨x, ae, dx, _, .ref t2, rfl, Ac, Z.cl, Z.n_kept_words, rfl, ?_⟩
    k_is
    refine ⟨t2, l, rfl, ht3, hl, fun u H' sm hf hu => ?_⟩
    k_is
    refine C8 (sm _ _ Ac) Z.cl Z.n_kept_table (show 2 < 1000 by decide) ?_
    k_is
    have hix := sm _ _ (Ac (H := H) (a := x))
    have n1 : t2 ≠ x := Rz (sm _ _ ht3) hix (by intro z; cases z)
    have n2 : u ≠ x := Rz hu hix (by intro z; cases z)
    exact q _ ((A7.trans sm.but).trans A7) ⟨dx, t2, u, Ac, by rw [Al n1]; exact sm _ _ ht3, by rw [Al n2]; exact hu, hl⟩
theorem W0 {l:List Bool}{b:Nat}(h:b<=B1 l.length):atI (nV (Gy l)) (b:Int)=some (.int (cnt l (256*b):Nat)):=by
 refine Bx ?_
 unfold nV Gy
 rw [List.getElem?_map,List.getElem?_map,List.getElem?_range (by omega)]
 rfl
def Ju (K:PySem.W.Frag)(C:Addr):Sp:=fun vs H Q _=>∃ (a:Addr) (l:List Bool) (n:Nat),vs=[.ref a,.int n]/\Bb K C H a l/\n<=l.length/\∀ H',Ak H H'->Q (.int (cnt l n:Nat)) H'
theorem Qj {f : Addr}{fd : FuncData}(F : Fun K "ones_ahead" "Counts.ones_ahead" Dr f fd)(T : Txt K mg aB aC ah ad aa ac aj am ao aq ar au av aw ax ay az aA)(Z : Qb K ae)(aH : Cal P w K mg base "ones_in" 1 ["word"] Rv) : Ax P w K mg base CX0 2 f fd ["self", "place"] (Ju K ae) := by
  refine F.ok A8 (fun vs H Q E h => ?_) (fun cdv A outer s H vs Q E hr h => ?_)
  · obtain ⟨a, l, n, rfl, _⟩ := h
    rfl
  · obtain ⟨a, l, n, rfl, ⟨dx, t, u, hx, ht, hu, hl⟩, hn, q⟩ := h
    refine ⟨_, (Ab (Am (i := 2) A8.nd rfl (Or.inl rfl) (Aj Cf (pv 1) (Ba rfl T.g_WORD_BITS)))
      (Ab (Am (i := 3) A8.nd rfl (Or.inl rfl) (Aj Cf (pv 2) (Ba rfl T.g_BLOCK_WORDS)))
      (Ab (Am (i := 4) A8.nd rfl (Or.inl rfl) (C3 Ia (Bh (pv 0) rfl) (pv 3) (fun _ _ => rfl)))
      (Ab (D0 PassesOwn.never rfl (Z2 (Ce U1 (Bh (pv 0) rfl) (Bw (Aj Ha (pv 3) (Ba rfl T.g_BLOCK_WORDS))) (Bw (pv 2)))) (Bn (i := 5) A8.nd rfl (Or.inl rfl))
      (Ag (F9 (i := 4) A8.nd rfl (Or.inl rfl) (A4 aH (hr.mono (by decide : 1 <= _)) (Ad (pv 5) Aa rfl)) Hv)))
      (Ab (Am (i := 6) A8.nd rfl (Or.inl rfl) (Aj Ca (pv 1) (Ba rfl T.g_WORD_BITS)))
      (Ab (B4 (An K2 (pv 6) Af (Au _)) (Ag (F9 (i := 4) A8.nd rfl (Or.inl rfl) (A4 aH (hr.mono (by decide : 1 <= _)) (Ad (Aj Nl (C3 Ia (Bh (pv 0) rfl) (pv 2) (fun _ _ => rfl)) (Aj Cl (Aj rY Af (pv 6)) Af)) Aa rfl)) Hv))
      A6)
      (Ag (Ao (pv 4))))))))), ?_⟩
    k_is
    refine ⟨a, ae, dx, _, _, rfl, hx, Z.cl, Z.n_kept_table, rfl, ?_⟩
    k_is
    rw [show ((n : Int) / 32 / 8) = ((n / 256 : Nat) : Int) by omega, show ((n : Int) / 32) = ((n / 32 : Nat) : Int) by omega]
    refine L7 (SqT.of hu) (W0 (by unfold B1 Bp; omega)) ?_
    k_is
    refine ⟨a, ae, dx, _, _, rfl, hx, Z.cl, Z.n_kept_words, rfl, ?_⟩
    k_is
    refine ⟨t, _, rfl, SqT.of ht, fun p2 H2 s2 hp2 => ?_⟩
    rw [show ((n / 256 : Nat) : Int) * 8 = ((8 * (n / 256) : Nat) : Int) by omega, Rk] at hp2
    have e8 : ((nV (wordsOf l)).drop (8 * (n / 256))).take (n / 32 - 8 * (n / 256)) = nV ((List.range (n / 32 - 8 * (n / 256))).map fun j => val (A1 l (8 * (n / 256) + j))) := by
      unfold nV
      have : min (n / 32 - 8 * (n / 256)) (Bp l.length - 8 * (n / 256)) = n / 32 - 8 * (n / 256) := by unfold Bp; omega
      rw [<- List.map_drop, <- List.map_take, Tn, this]
    rw [e8] at hp2
    refine ⟨p2, rfl, ⟨_, hp2⟩, ?_⟩
    generalize hm : n / 32 - 8 * (n / 256) = m at hp2
    refine nU (xs := nV ((List.range m).map fun j => val (A1 l (8 * (n / 256) + j)))) (fun i σ H' => H' = H2/\∃ v5 v6 : Option V, σ = [some (.ref a), some (.int n), some (.int ((n / 32 : Nat) : Int)), some (.int ((n / 256 : Nat) : Int)), some (.int (cnt l (32 * (8 * (n / 256) + i)) : Nat)), v5, v6]) ?_ (fun i σ H' _ h => by rw [h.1]; exact hp2) ?_ ?_
    · refine ⟨rfl, none, none, ?_⟩
      rw [show 32 * (8 * (n / 256) + 0) = 256 * (n / 256) by omega]
      rfl
    · rintro i x σ H' hx' ⟨rfl, v5, v6, rfl⟩
      have hi : i < m := by
        have := (List.getElem?_eq_some_iff.mp hx').1
        rwa [List.length_map, List.length_map, List.length_range] at this
      have hze : x = .int (val (A1 l (8 * (n / 256) + i)) : Nat) := by
        unfold nV at hx'
        rw [List.getElem?_map, List.getElem?_map, List.getElem?_range hi] at hx'
        exact (Option.some.inj hx').symm
      subst hze
      k_is
      refine ⟨_, rfl, ?_⟩
      k_is
      refine ⟨rfl, some (.int (val (A1 l (8 * (n / 256) + i)) : Nat)), v6, ?_⟩
      have := Yn l (8 * (n / 256) + i)
      rw [show 8 * (n / 256) + (i + 1) = 8 * (n / 256) + i + 1 by omega, this]
      rfl
    · rintro σ H' ⟨rfl, v5, v6, rfl⟩
      rw [show (nV ((List.range m).map fun j => val (A1 l (8 * (n / 256) + j)))).length = m by unfold nV; rw [List.length_map, List.length_map, List.length_range], show 8 * (n / 256) + m = n / 32 by omega]
      k_is
      have ec : cnt l n = cnt l (32 * (n / 32)) + ((l.drop (32 * (n / 32))).take (n % 32)).count true := by
        rw [<- eA]
        congr 1
        omega
      refine B8 (fun hr' => ?_) (fun hr' => ?_)
      · have hr0 : 0 < n % 32 := by omega
        k_is
        refine ⟨a, ae, dx, _, _, rfl, s2 _ _ hx, Z.cl, Z.n_kept_words, rfl, ?_⟩
        k_is
        refine L7 (SqT.of (s2 _ _ ht)) (Pc (by unfold Bp; omega)) ?_
        k_is
        refine xP ⟨by omega, by omega, by decide⟩ ?_
        k_is
        rw [lF _ (n % 32) (by omega)]
        refine ⟨_, rfl, ?_⟩
        k_is
        rw [lM, Ln]
        have e2 : (A1 l (n / 32)).take (n % 32) = (l.drop (32 * (n / 32))).take (n % 32) := by
          unfold A1
          rw [List.take_take, Nat.min_eq_left (by omega)]
        rw [e2]
        have := q _ s2
        rw [ec] at this
        exact this
      · have hr0 : n % 32 = 0 := by omega
        k_is
        have := q _ s2
        rw [ec, hr0, List.take_zero] at this
        exact this
def O1 (K:PySem.W.Frag)(C:Addr):Sp:=fun vs H Q _=>∃ (a:Addr) (l:List Bool) (b:Bool) (n:Nat),vs=[.ref a,.int (b.toNat:Nat),.int n]/\Bb K C H a l/\n<=l.length/\∀ H',Ak H H'->Q (.int ((occ b l n).length:Nat)) H'
theorem Q3 {f : Addr}{fd : FuncData}(F : Fun K "ahead" "Counts.ahead" Gq f fd)(T : Txt K mg aB aC ah ad aa ac aj am ao aq ar au av aw ax ay az aA)(Z : Qb K ae)(aO : Cal P w K mg base "check_bit" 3 ["bit"] Ud)(aG : Cal P w K mg base "check_place" 3 ["place", "greatest"] J2)
    (bv : Mth P w K mg base ae "ones_ahead" 2 ["self", "place"] (Ju K ae)) : Ax P w K mg base CX0 4 f fd ["self", "bit", "place"] (O1 K ae) := by
  refine F.ok Jd (fun vs H Q E h => ?_) (fun cdv A outer s H vs Q E hr h => ?_)
  · obtain ⟨a, l, b, n, rfl, _⟩ := h
    rfl
  · obtain ⟨a, l, b, n, rfl, hC, hn, q1⟩ := h
    obtain ⟨dx, t, u, hx, ht, hu, hl⟩ := id hC
    refine ⟨_, (Ab (Bj (A4 aO (hr.mono (by decide : 3 <= _)) (Ad (pv 1) Aa rfl)))
      (Ab (Bj (A4 aG (hr.mono (by decide : 3 <= _)) (Ad (pv 2) (Ad (Bh (pv 0) rfl) Aa rfl) rfl)))
      (Ab (Am (i := 3) Jd.nd rfl (Or.inl rfl) (Fh bv (hr.mono (by decide : 2 <= _)) (pv 0) (Ad (pv 2) Aa rfl)))
      (Ag (Ao (Gm (An B7 (pv 1) Af (Au _)) (pv 3) (Aj Cl (pv 2) (pv 3)))))))), ?_⟩
    k_is
    refine ⟨b, rfl, ?_⟩
    k_is
    refine ⟨a, ae, dx, _, _, rfl, hx, Z.cl, Z.n_length, rfl, ?_⟩
    k_is
    refine ⟨n, _, rfl, by omega, by omega, ?_⟩
    k_is
    refine ⟨a, dx, _, rfl, hx, rfl, ?_⟩
    k_is
    refine ⟨a, l, n, rfl, hC, hn, fun H' s' => ?_⟩
    k_is
    have ho := O4 l n
    cases b with
    | true =>
      refine B8 (fun _ => ?_) (fun z => absurd rfl z)
      k_is
      have := q1 H' s'
      rw [ho.1] at this
      exact this
    | false =>
      refine B8 (fun z => absurd z (by decide)) (fun _ => ?_)
      k_is
      have := q1 H' s'
      rw [show ((n : Int) - (cnt l n : Nat)) = ((occ false l n).length : Nat) by omega]
      exact this
def Ej (K:PySem.W.Frag)(C:Addr):Sp:=fun vs H Q _=>∃ (a:Addr) (l:List Bool) (b:Bool) (k:Nat),vs=[.ref a,.int (b.toNat:Nat),.int k]/\Bb K C H a l/\k<=B1 l.length/\Q (.int ((occ b l (min (256*k) l.length)).length:Nat)) H
theorem Qe {f:Addr}{fd:FuncData}(F:Fun K "ahead_of_block" "Counts.ahead_of_block" Ck f fd)(T:Txt K mg aB aC ah ad aa ac aj am ao aq ar au av aw ax ay az aA)(Z:Qb K ae):Ax P w K mg base CX0 1 f fd ["self","bit","block"] (Ej K ae):=by
 refine F.ok Du (fun vs H Q E h=>?_) (fun cdv A outer s H vs Q E hr h=>?_)
 ·obtain ⟨a,l,b,k,rfl,_⟩:=h
  rfl
 ·obtain ⟨a,l,b,k,rfl,⟨dx,t,u,hx,ht,hu,hl⟩,hk,q⟩:=h
  have ec:cnt l (256*k)=cnt l (min (256*k) l.length):=by
   by_cases h:256*k<=l.length
   ·rw [Nat.min_eq_left h]
   ·rw [Nat.min_eq_right (by omega),Pd l (by omega),Pd l (Nat.le_refl _)]
  refine ⟨_,(Ab (Am (i:=3) Du.nd rfl (Or.inl rfl) (C3 Ia (Bh (pv 0) rfl) (pv 2) (fun _ _=>rfl)))
   (Ag (Ao (Gm (An B7 (pv 1) Af (Au _)) (pv 3) (Aj Cl (Ar (T4 rfl) (by rfl) T.n_min Xc (Ad (Aj Ha (pv 2) (Ba rfl T.g_BLOCK_BITS)) (Ad (Bh (pv 0) rfl) Aa rfl) rfl)) (pv 3)))))),?_⟩
  k_is
  refine ⟨a,ae,dx,_,_,rfl,hx,Z.cl,Z.n_kept_table,rfl,?_⟩
  k_is
  refine L7 (SqT.of hu) (W0 hk) ?_
  k_is
  have ho:=O4 l (min (256*k) l.length)
  cases b with
  | true =>
   refine B8 (fun _=>?_) (fun z=>absurd rfl z)
   k_is
   rw [ho.1] at q
   rw [ec]
   exact q
  | false =>
   refine B8 (fun z=>absurd z (by decide)) (fun _=>?_)
   k_is
   refine ⟨a,ae,dx,_,_,rfl,hx,Z.cl,Z.n_length,rfl,?_⟩
   k_is
   refine ⟨_,_,rfl,?_⟩
   k_is
   have em:(if ((l.length:Nat):Int)<(k:Int)*256 then ((l.length:Nat):Int) else (k:Int)*256)=((min (256*k) l.length:Nat):Int):=by
    split<;>omega
   rw [em,ec,show ((min (256*k) l.length:Nat):Int)-(cnt l (min (256*k) l.length):Nat)=((occ false l (min (256*k) l.length)).length:Nat) by omega]
   exact q
def Lf (K:PySem.W.Frag)(C:Addr):Sp:=fun vs H Q _=>∃ (a:Addr) (l:List Bool) (b:Bool),vs=[.ref a,.int (b.toNat:Nat)]/\Bb K C H a l/\Q (.int ((occ b l l.length).length:Nat)) H
theorem Tc (l:List Bool):(nV (Gy l)).length=B1 l.length+1:=by
 unfold nV Gy
 rw [List.length_map,List.length_map,List.length_range]
theorem Z1 (l:List Bool):min (256*B1 l.length) l.length=l.length:=by unfold B1 Bp;omega
theorem Qm {f:Addr}{fd:FuncData}(F:Fun K "many_like" "Counts.many_like" D5 f fd)(T:Txt K mg aB aC ah ad aa ac aj am ao aq ar au av aw ax ay az aA)(Z:Qb K ae)(aK:Mth P w K mg base ae "ahead_of_block" 1 ["self","bit","block"] (Ej K ae)):Ax P w K mg base CX0 2 f fd ["self","bit"] (Lf K ae):=by
 refine F.ok Kv (fun vs H Q E h=>?_) (fun cdv A outer s H vs Q E hr h=>?_)
 ·obtain ⟨a,l,b,rfl,_⟩:=h
  rfl
 ·obtain ⟨a,l,b,rfl,hC,q⟩:=h
  obtain ⟨dx,t,u,hx,ht,hu,hl⟩:=id hC
  refine ⟨_,(Ag (Ao (Fh aK (hr.mono (by decide:1<=_)) (pv 0) (Ad (pv 1) (Ad (Aj Cl (Ar Bk (by rfl) T.n_len Em (Ad (Bh (pv 0) rfl) Aa rfl)) Af) Aa rfl) rfl)))),?_⟩
  k_is
  refine ⟨a,dx,_,rfl,hx,rfl,?_⟩
  k_is
  refine ⟨a,ae,dx,_,_,rfl,hx,Z.cl,Z.n_kept_table,rfl,?_⟩
  k_is
  refine ⟨u,_,rfl,.inr (SqT.of hu),?_⟩
  rw [Tc]
  k_is
  refine ⟨a,l,b,B1 l.length,?_,hC,Nat.le_refl _,?_⟩
  ·rw [show (((B1 l.length+1:Nat):Int)-1)=((B1 l.length:Nat):Int) by omega]
   rfl
  ·rw [Z1]
   exact q
theorem Bb.sameT {K:PySem.W.Frag}{C b:Addr}{H H':Hp}{l:List Bool}(s:Fk H H')(h:Bb K C H b l):Bb K C H' b l:=by
 obtain ⟨dx,t,u,h1,h2,h3,h4⟩:=h
 exact ⟨dx,t,u,s.keep _ _ (by intro ps e;cases e) h1,s.tup h2,s.tup h3,h4⟩
theorem Bb.sm {K:PySem.W.Frag}{C b:Addr}{ts:List Tb}{H H':Hp}{l:List Bool}(h:Bb K C H b l)(s:SmT ts H H'):Bb K C H' b l:=h.sameT s.sm
def Ka (K:PySem.W.Frag)(C:Addr)(ts:List Tb):Sp:=fun vs H Q _=>∃ (a:Addr) (l:List Bool) (b:Bool) (n:Nat),vs=[.ref a,.int (b.toNat:Nat),.int n]/\Bb K C H a l/\n<(occ b l l.length).length/\Tbs ts H/\∀ (k:Nat) (H':Hp),k<B1 l.length->(occ b l (256*k)).length<=n->SmT ts H H'->Q (.int k) H'
theorem Qi {f c Pt:Addr}{fd:FuncData}{ts:List Tb}(F:Wy K "block_with" "Counts.block_with" Bg f fd c Pt)(T:Txt K mg aB aC ah ad aa ac aj am ao aq ar au av aw ax ay az aA)(hK:K.In base)(hB:base.BuiltinsAt mg Pt)(hts:(⟨Pt,At,"Counts.block_with.<locals>.<lambda>"⟩:Tb)∈ts)(Z:Qb K ae)(aK:Mth P w K mg base ae "ahead_of_block" 1 ["self","bit","block"] (Ej K ae))(bx:Cal P w K mg base "first_that" 3 ["low","high","holds"] (Mf P w K mg base 2)):Ax P w K mg base CX0 4 f fd ["self","bit","nth"] (Ka K ae ts):=by
 refine F.ok J0 (fun vs H Q E h=>?_) (fun A outer s H vs Q E hr h=>?_)
 ·obtain ⟨a,l,b,n,rfl,_⟩:=h
  rfl
 ·obtain ⟨a,l,b,n,rfl,hC,hn,hT,q⟩:=h
  obtain ⟨dx,t,u,hx,ht,hu,hl⟩:=id hC
  have hpos:0<B1 l.length:=by
   have:0<l.length:=by
    rcases Nat.eq_zero_or_pos l.length with z | z
    ·rw [z] at hn
     exact absurd hn (Nat.not_lt_zero _)
    ·exact z
   unfold B1 Bp
   omega
  refine ⟨_,(Ag (Ao (tO (qual:="Counts.block_with.<locals>.<lambda>") (k:=1) bx (hr.mono (by decide:3<=_)) Af (Aj Cl (Ar Bk (by rfl) T.n_len Em (Ad (Bh (pv 0) rfl) Aa rfl)) Af) (F.code hK) hB rfl (by kernel_rfl) Hj (fun _ _ _ _ _ _ _ hr=>(Pe K2 (Fh aK (hr.mono (by decide:1<=_)) (pv 3) (Ad (pv 1) (Ad (Aj Be (pv 0) Af) Aa rfl) rfl)) (pv 2) (Au _)))))),?_⟩
  k_is
  refine ⟨a,ae,dx,_,_,rfl,hx,Z.cl,Z.n_kept_table,rfl,?_⟩
  k_is
  refine ⟨u,_,rfl,.inr (SqT.of hu),?_⟩
  rw [Tc]
  k_is
  have hk:=hT.1 _ hts
  refine ⟨0,((B1 l.length-1:Nat):Int),fun i=>decide (n<(occ b l (min (256*(i.toNat+1)) l.length)).length),rfl,?_,by omega,hk,fun i H3 hi1 hi2 s3=>?_,fun m H' hm1 hm2 hm3 hm4 s' t'=>?_⟩
  ·rw [show (((B1 l.length+1:Nat):Int)-2)=((B1 l.length-1:Nat):Int) by omega]
  ·obtain ⟨pt,hpt⟩:=Tb.tbl hk
   have kp:∀ {b:Addr} {u:HO},(∀ ps,u≠.tbl ps)->H b=some u->H3 b=some u:=fun {b u} nt e=>s3 b u (fun z=>by rw [z,hpt] at e;cases e;exact nt pt rfl) e
   have hx3:=kp (by intro ps e;cases e) hx
   have hC3:Bb K ae H3 a l:=⟨dx,t,u,hx3,kp (by intro ps e;cases e) ht,kp (by intro ps e;cases e) hu,hl⟩
   k_is
   refine ⟨a,dx,_,rfl,hx3,rfl,?_⟩
   k_is
   obtain ⟨k,rfl⟩:=Int.eq_ofNat_of_zero_le hi1
   refine ⟨a,l,b,k+1,rfl,hC3,by omega,?_⟩
   k_is
   refine ⟨?_,Ak.refl _⟩
   rw [Int.toNat_natCast]
   exact congrArg V.bl (decide_eq_decide.mpr (by omega))
  ·obtain ⟨k,rfl⟩:=Int.eq_ofNat_of_zero_le hm1
   have hk1:k<B1 l.length:=by omega
   have h256:256*k<=l.length:=by unfold B1 Bp at hk1;omega
   refine q k H' hk1 ?_ (wT hT hts s' t')
   rcases Nat.eq_zero_or_pos k with rfl | hk0
   ·exact Nat.zero_le _
   ·have:=hm3 (by omega)
    dsimp only at this
    rw [show (((k:Int)-1).toNat+1)=k by omega,Nat.min_eq_left h256] at this
    have:=of_decide_eq_false this
    omega
def Ke (K:PySem.W.Frag)(C:Addr):Sp:=fun vs H Q _=>∃ (a:Addr) (l:List Bool) (b:Bool) (j k t:Nat),vs=[.ref a,.int (b.toNat:Nat),.int j,.int k]/\Bb K C H a l/\(occ b l (32*Bp l.length))[(occ b l (32*j)).length+k]?=some t/\∀ H',Ak H H'->Q (.int t) H'
theorem L4 {b:Bool}{l:List Bool}{W j k t:Nat}(h:(occ b l (32*W))[(occ b l (32*j)).length+k]?=some t):j<W:=by
 rcases Nat.lt_or_ge j W with z | z
 ·exact z
 ·exfalso
  have h1:=(List.getElem?_eq_some_iff.mp h).1
  have h2:=uC (b:=b) (l:=l) (show 32*W<=32*j by omega)
  omega
theorem Y8 {b:Bool}{l:List Bool}{W j k t p:Nat}(h:(occ b l (32*W))[(occ b l (32*j)).length+k]?=some t)(hp:(Kt b l j)[k]?=some p):t=32*j+p:=by
 have hj:=L4 h
 have hk:=(List.getElem?_eq_some_iff.mp hp).1
 have hlen:(occ b l (32*(j+1))).length=(occ b l (32*j)).length+(Kt b l j).length:=by rw [Px,List.length_append,List.length_map]
 rw [eV (show 32*(j+1)<=32*W by omega) (by omega),Px,List.getElem?_append_right (Nat.le_add_right _ _),Nat.add_sub_cancel_left,List.getElem?_map,hp] at h
 exact (Option.some.inj h).symm
theorem Z9 {b:Bool}{l:List Bool}{W j k t:Nat}(h:(occ b l (32*W))[(occ b l (32*j)).length+k]?=some t)(hp:(Kt b l j)[k]?=none):(Kt b l j).length<=k/\(occ b l (32*W))[(occ b l (32*(j+1))).length+(k-(Kt b l j).length)]?=some t:=by
 have hk:=List.getElem?_eq_none_iff.mp hp
 refine ⟨hk,?_⟩
 rw [Px,List.length_append,List.length_map,show (occ b l (32*j)).length+(Kt b l j).length+(k-(Kt b l j).length)=(occ b l (32*j)).length+k by omega]
 exact h
theorem Qk {f : Addr}{fd : FuncData}(F : Fun K "place_from" "Counts.place_from" Dn f fd)(T : Txt K mg aB aC ah ad aa ac aj am ao aq ar au av aw ax ay az aA)(Z : Qb K ae)(aH : Cal P w K mg base "ones_in" 1 ["word"] Rv)(aY : Cal P w K mg base "nth_one" 2 ["word", "nth"] iA) : Ax P w K mg base CX0 3 f fd ["self", "bit", "number", "nth"] (Ke K ae) := by
  refine F.ok Bm (fun vs H Q E h => ?_) (fun cdv A outer s H vs Q E hr h => ?_)
  · obtain ⟨a, l, b, j, k, t, rfl, _⟩ := h
    rfl
  · obtain ⟨a, l, b, j, k, t, rfl, ⟨dx, tw, u, hx, ht, hu, hl⟩, hp, q⟩ := h
    refine ⟨_, (Ab (Am (i := 4) Bm.nd rfl (Or.inl rfl) (Gm (An B7 (pv 1) Af (Au _)) Af (Ba rfl T.g_FULL_WORD)))
      (Ab (Am (i := 5) Bm.nd rfl (Or.inl rfl) (A4 aY (hr.mono (by decide : 2 <= _)) (Ad (Aj Yx (C3 Ia (Bh (pv 0) rfl) (pv 2) (fun _ _ => rfl)) (pv 4)) (Ad (pv 3) Aa rfl) rfl)))
      (Ab (Jk PassesOwn.never (lK (tM (pv 5)))
      (Ab (F9 (i := 3) Bm.nd rfl (Or.inl rfl) (A4 aH (hr.mono (by decide : 1 <= _)) (Ad (Aj Yx (C3 Ia (Bh (pv 0) rfl) (pv 2) (fun _ _ => rfl)) (pv 4)) Aa rfl)) kC)
      (Ab (F9 (i := 2) Bm.nd rfl (Or.inl rfl) Af Hv)
      (Ag (Am (i := 5) Bm.nd rfl (Or.inl rfl) (A4 aY (hr.mono (by decide : 2 <= _)) (Ad (Aj Yx (C3 Ia (Bh (pv 0) rfl) (pv 2) (fun _ _ => rfl)) (pv 4)) (Ad (pv 3) Aa rfl) rfl)))))))
      (Ag (Ao (Aj Be (Aj Ha (pv 2) (Ba rfl T.g_WORD_BITS)) (pv 5))))))), ?_⟩
    have hfl : ∀ {σ : St} {H1 : Hp} {Q' : VK}, Q' (.int (Mp b : Nat)) H1->(if decide (V.int (b.toNat : Nat) = V.int 1) = true then tC (.int 0) σ H1 Q' else tC (.int 4294967295) σ H1 Q') := fun {σ H1 Q'} h => by
      cases b with
      | true => exact B8 (fun _ => h) (fun z => absurd rfl z)
      | false => exact B8 (fun z => absurd z (by decide)) (fun _ => h)
    have hj0 := L4 hp
    k_is
    refine hfl ?_
    k_is
    refine ⟨a, ae, dx, _, _, rfl, hx, Z.cl, Z.n_kept_words, rfl, ?_⟩
    k_is
    refine L7 (SqT.of ht) (Pc hj0) ?_
    k_is
    rw [Rj]
    refine ⟨_, k, rfl, fun H1 s1 => ?_⟩
    rw [W6]
    k_is
    refine Kh (fun σ H' => Ak H H'/\∃ j k : Nat, σ = [some (.ref a), some (.int (b.toNat : Nat)), some (.int j), some (.int k), some (.int (Mp b : Nat)), some (xH ((Kt b l j)[k]?))]/\(occ b l (32 * Bp l.length))[(occ b l (32 * j)).length + k]? = some t) (fun σ _ => match σ with | [_, _, some (.int j), _, _, _] => Bp l.length - j.toNat | _ => 0) ⟨s1, j, k, rfl, hp⟩ ?_
    rintro μ σ H2 ⟨s2, j, k, rfl, hp⟩ hμ
    have hj := L4 hp
    have hμ : Bp l.length - j = μ := hμ
    k_is
    cases hw : (Kt b l j)[k]? with
    | some p =>
      have := Y8 hp hw
      subst this
      refine B8 (fun z => absurd z (by intro y; cases y)) (fun _ => ?_)
      k_is
      have := q H2 s2
      show rI0 _ _ (V.int ((p : Nat) : Int)) H2 Q
      refine rK ?_
      rw [show ((j : Int) * 32 + ((p : Nat) : Int)) = ((32 * j + p : Nat) : Int) by omega]
      exact this
    | none =>
      obtain ⟨hk, hp'⟩ := Z9 hp hw
      refine B8 (fun _ => ?_) (fun z => absurd rfl z)
      refine Pn ?_
      k_is
      refine ⟨a, ae, dx, _, _, rfl, s2 _ _ hx, Z.cl, Z.n_kept_words, rfl, ?_⟩
      k_is
      refine L7 (SqT.of (s2 _ _ ht)) (Pc hj) ?_
      k_is
      rw [Rj]
      refine ⟨_, rfl, ?_⟩
      rw [oZ]
      k_is
      refine ⟨a, ae, dx, _, _, rfl, s2 _ _ hx, Z.cl, Z.n_kept_words, rfl, ?_⟩
      k_is
      rw [show ((j : Int) + 1) = ((j + 1 : Nat) : Int) by omega, show ((k : Int) - ((Kt b l j).length : Nat)) = ((k - (Kt b l j).length : Nat) : Int) by omega]
      refine L7 (SqT.of (s2 _ _ ht)) (Pc (L4 hp')) ?_
      k_is
      rw [Rj]
      refine ⟨_, k - (Kt b l j).length, rfl, fun H3 s3 => ?_⟩
      rw [W6]
      k_is
      refine ⟨⟨s2.trans s3, j + 1, k - (Kt b l j).length, rfl, hp'⟩, ?_⟩
      show Bp l.length - (j + 1) < μ
      omega
def Nr (K:PySem.W.Frag)(C:Addr)(ts:List Tb):Sp:=fun vs H Q _=>∃ (a:Addr) (l:List Bool) (b:Bool) (n tt:Nat),vs=[.ref a,.int (b.toNat:Nat),.int n]/\Bb K C H a l/\Tbs ts H/\(occ b l l.length)[n]?=some tt/\∀ H',SmT ts H H'->Q (.int tt) H'
theorem Qp {f : Addr}{fd : FuncData}{ts : List Tb}(F : Fun K "place_of" "Counts.place_of" Eh f fd)(T : Txt K mg aB aC ah ad aa ac aj am ao aq ar au av aw ax ay az aA)(Z : Qb K ae)(aO : Cal P w K mg base "check_bit" 3 ["bit"] Ud)(aG : Cal P w K mg base "check_place" 3 ["place", "greatest"] J2)
    (aK : Mth P w K mg base ae "ahead_of_block" 1 ["self", "bit", "block"] (Ej K ae))(bz : Mth P w K mg base ae "many_like" 2 ["self", "bit"] (Lf K ae))(bA : Mth P w K mg base ae "block_with" 4 ["self", "bit", "nth"] (Ka K ae ts))
    (bC : Mth P w K mg base ae "place_from" 3 ["self", "bit", "number", "nth"] (Ke K ae)) : Ax P w K mg base CX0 5 f fd ["self", "bit", "nth"] (Nr K ae ts) := by
  refine F.ok Gs (fun vs H Q E h => ?_) (fun cdv A outer s H vs Q E hr h => ?_)
  · obtain ⟨a, l, b, n, tt, rfl, _⟩ := h
    rfl
  · obtain ⟨a, l, b, n, tt, rfl, hC, hT, htt, q1⟩ := h
    obtain ⟨dx, t, u, hx, ht, hu, hl⟩ := id hC
    refine ⟨_, (Ab (Bj (A4 aO (hr.mono (by decide : 3 <= _)) (Ad (pv 1) Aa rfl)))
      (Ab (Bj (A4 aG (hr.mono (by decide : 3 <= _)) (Ad (pv 2) (Ad (Aj Cl (Fh bz (hr.mono (by decide : 2 <= _)) (pv 0) (Ad (pv 1) Aa rfl)) Af) Aa rfl) rfl)))
      (Ab (Am (i := 3) Gs.nd rfl (Or.inl rfl) (Fh bA (hr.mono (by decide : 4 <= _)) (pv 0) (Ad (pv 1) (Ad (pv 2) Aa rfl) rfl)))
      (Ag (Ao (Fh bC (hr.mono (by decide : 3 <= _)) (pv 0) (Ad (pv 1) (Ad (Aj Ha (pv 3) (Ba rfl T.g_BLOCK_WORDS)) (Ad (Aj Cl (pv 2) (Fh aK (hr.mono (by decide : 1 <= _)) (pv 0) (Ad (pv 1) (Ad (pv 3) Aa rfl) rfl))) Aa rfl) rfl) rfl))))))), ?_⟩
    k_is
    refine ⟨b, rfl, ?_⟩
    k_is
    refine ⟨a, dx, _, rfl, hx, rfl, ?_⟩
    k_is
    refine ⟨a, l, b, rfl, hC, ?_⟩
    k_is
    have hn := Dl htt
    refine ⟨n, _, rfl, by omega, by omega, ?_⟩
    k_is
    refine ⟨a, dx, _, rfl, hx, rfl, ?_⟩
    k_is
    refine ⟨a, l, b, n, rfl, hC, hn, hT, fun kb H1 hkb hle s1 => ?_⟩
    have h256 : 256 * kb <= l.length := by unfold B1 Bp at hkb; omega
    have hx1 := s1.k hx
    have hC1 := hC.sm s1
    k_is
    refine ⟨a, dx, _, rfl, hx1, rfl, ?_⟩
    k_is
    refine ⟨a, dx, _, rfl, hx1, rfl, ?_⟩
    k_is
    refine ⟨a, l, b, kb, rfl, hC1, by omega, ?_⟩
    rw [Nat.min_eq_left h256]
    k_is
    refine ⟨a, l, b, 8 * kb, n - (occ b l (256 * kb)).length, tt, ?_, hC1, ?_, fun H' s' => ?_⟩
    · rw [show ((kb : Int) * 8) = ((8 * kb : Nat) : Int) by omega, show ((n : Int) - ((occ b l (256 * kb)).length : Nat)) = ((n - (occ b l (256 * kb)).length : Nat) : Int) by omega]
      rfl
    · rw [show 32 * (8 * kb) = 256 * kb by omega, show (occ b l (256 * kb)).length + (n - (occ b l (256 * kb)).length) = n by omega, eV (Wv l.length) hn]
      exact htt
    · k_is
      exact q1 H' (s1.then s')
def hts (l:List Bool)(i:Nat):List Int:=(List.range i).map fun j=>hgt l (j+1)
theorem jM (l:List Bool)(i:Nat):hts l (i+1)=hts l i++[hgt l (i+1)]:=by
 unfold hts
 rw [List.range_succ,List.map_append]
 rfl
def htB (l:List Bool)(b:Int)(i:Nat):List Int:=(hts l i).map (b + ·)
def K5:Sp:=fun vs H Q _=>∃ (l:List Bool) (bg:Int),vs=[.str (Aw l),.int bg]/\l.length<=1000/\∀ p H',Ak H H'->H p=none->H' p=some (.lst ((htB l bg l.length).map V.int))->Q (.ref p) H'
theorem Ss {f:Addr}{fd:FuncData}(F:Fun K "heights_of" "heights_of" Iu f fd)(T:Txt K mg aB aC ah ad aa ac aj am ao aq ar au av aw ax ay az aA):Ax P w K mg base CX0 1 f fd ["text","begin"] K5:=by
 refine F.ok Dx (fun vs H Q E h=>?_) (fun cdv A outer s H vs Q E hr h=>?_)
 ·obtain ⟨l,bg,rfl,_⟩:=h
  rfl
 ·obtain ⟨l,bg,rfl,hl,q⟩:=h
  refine ⟨_,(Ab (Am (i:=2) Dx.nd rfl (Or.inl rfl) (pv 1))
   (Ab (Am (i:=3) Dx.nd rfl (Or.inl rfl) (Bd Aa))
   (Ab (D0 PassesOwn.never rfl (tI (pv 0)) (Bn (i:=4) Dx.nd rfl (Or.inl rfl))
   (Ab (F9 (i:=2) Dx.nd rfl (Or.inl rfl) (Gm (An B7 (pv 4) As (Au _)) Af (Dy Ch Af)) Hv)
   (Ag (Bj (Ey PySem.F.plainAttrs_list PySem.F.slot_list_append PySem.F.type_list_append De (pv 3) (Ad (pv 2) Aa rfl))))))
   (Ag (Ao (pv 3)))))),?_⟩
  k_is
  refine ⟨Nat.zero_le _,fun p hp=>?_⟩
  k_is
  refine ⟨_,rfl,?_⟩
  refine qB (fun i σ H1=>∃ v:Option V,σ=[some (.str (Aw l)),some (.int bg),some (.int (bg+hgt l i)),some (.ref p),v]/\H1 p=some (.lst ((htB l bg i).map V.int))/\Ak H H1) ⟨_,by rw [show bg+hgt l 0=bg by unfold hgt;simp];rfl,Ac,Ah hp⟩ ?_ ?_
  ·rintro i c σ H1 hc ⟨v,rfl,hp1,sm⟩
   obtain ⟨b,hb,rfl⟩:=eM hc
   have hi:=Dl hb
   have hh:=R5 hb
   have hz1:((htB l bg i).map V.int).length<sizeLine:=by
    rw [List.length_map]
    unfold htB hts
    rw [List.length_map,List.length_map,List.length_range]
    exact Df (by omega)
   have fin:∀ d:Int,hgt l (i+1)=hgt l i+d->∃ v:Option V,[some (V.str (Aw l)),some (V.int bg),some (V.int (bg+hgt l i+d)),some (V.ref p),some (V.str (sgn (if b then 49 else 48)))]=[some (V.str (Aw l)),some (V.int bg),some (V.int (bg+hgt l (i+1))),some (V.ref p),v] /\
     (upd H1 p (.lst ((htB l bg i).map V.int++[V.int (bg+hgt l i+d)]))) p=some (.lst ((htB l bg (i+1)).map V.int))/\Ak H (upd H1 p (.lst ((htB l bg i).map V.int++[V.int (bg+hgt l i+d)]))):=fun d hd=>by
    refine ⟨_,by rw [hd,Int.add_assoc],?_,fun b' u e=>?_⟩
    ·unfold htB
     rw [Ac,jM,hd,List.map_append,List.map_append,Int.add_assoc]
     rfl
    ·rw [Al (Aq e hp)]
     exact sm _ _ e
   k_is
   refine B8 (fun h1=>?_) (fun h1=>?_)
   ·have hd:hgt l (i+1)=hgt l i+1:=by cases b with | true=>exact hh | false=>exact absurd h1 (by decide)
    k_is
    refine ⟨.inl ⟨rfl,_,SqL.of hp1⟩,?_⟩
    k_is
    exact Ex hp1 hz1 (fin 1 hd)
   ·have hd:hgt l (i+1)=hgt l i + -1:=by cases b with | false=>exact hh | true=>exact absurd rfl h1
    k_is
    refine ⟨.inl ⟨rfl,_,SqL.of hp1⟩,?_⟩
    k_is
    exact Ex hp1 hz1 (fin (-1) hd)
  ·rintro σ H1 ⟨v,rfl,hp1,sm⟩
   rw [show (Aw l).cps.size=l.length from A5 l] at *
   k_is
   exact q p H1 sm hp hp1
def Ur:Sp:=fun vs H Q _=>∃ l:List Bool,vs=[.str (Aw l)]/\Vs 0 l/\l.length<=8000/\∀ H',Ak H H'->Q .non H'
theorem Vu {f : Addr}{fd : FuncData}(F : Fun K "check_row" "check_row" Jm f fd)(T : Txt K mg aB aC ah ad aa ac aj am ao aq ar au av aw ax ay az aA) : Ax P w K mg base CX0 1 f fd ["text"] Ur := by
  refine F.ok Eo (fun vs H Q E h => ?_) (fun cdv A outer s H vs Q E hr h => ?_)
  · obtain ⟨l, rfl, _⟩ := h
    rfl
  · obtain ⟨l, rfl, hv, hn, q⟩ := h
    refine ⟨_, (Ab (B4 (E3 (C5 (Ar Cq (by rfl) T.n_isinstance A9 (Ad (pv 0) (Ad (F5 (v := .ty "str") rfl T.n_str qO rfl) Aa rfl) rfl)))) (Ag Bi)
      A6)
      (Ab (Am (i := 1) Eo.nd rfl (Or.inl rfl) Af)
      (Ab (D0 PassesOwn.never rfl (nA rfl T.n_enumerate (Ad (pv 0) Aa rfl)) (Sj rfl (Dw (Bn (i := 2) Eo.nd rfl (Or.inl rfl)) (Dw (Bn (i := 3) Eo.nd rfl (Or.inl rfl)) Me)))
      (Ab (F9 (i := 1) Eo.nd rfl (Or.inl rfl) (Gm (An B7 (pv 3) As (Au _)) Af (Dy Ch Af)) Hv)
      (Ag (B4 (PW.pt (K0 (An Vl (pv 3) As rfl) (K0 (An Oc (pv 1) Af (Au _)) (La (An B7 (pv 2) (Ba rfl T.g_MOST_SIGNS) (Au _)))))) (Ag Bi)
      A6))))
      (Ag (B4 (An K2 (pv 1) Af (Au _)) (Ag Bi)
      A6))))), ?_⟩
    k_is
    refine ⟨_, _, _, _, rfl, .str _, N7, ?_⟩
    k_is
    refine ⟨_, rfl, ?_⟩
    refine gI (fun i σ H1 => (∃ v2 v3 : Option V, σ = [some (.str (Aw l)), some (.int (hgt l i)), v2, v3])/\Ak H H1) ⟨⟨_, _, rfl⟩, Ak.refl _⟩ ?_ ?_
    · rintro i c σ H1 t hc ⟨⟨v2, v3, rfl⟩, s1⟩ ht
      obtain ⟨b, hb, rfl⟩ := eM hc
      have hi := Dl hb
      have hs := R5 hb
      obtain ⟨h, hh, _⟩ := mY hv (i + 1) (by omega)
      have s2 := s1.trans (Ah (o := .tup [.int i, .str (sgn (if b then 49 else 48))]) ht)
      generalize upd H1 t (.tup [.int i, .str (sgn (if b then 49 else 48))]) = H2 at *
      k_is
      cases b with
      | true =>
        refine B8 (fun _ => ?_) (fun h => absurd rfl h)
        k_is
        refine ⟨_, _, rfl, rfl, ?_⟩
        k_is
        have hs : hgt l (i + 1) = hgt l i + 1 := hs
        rw [<- hs, hh]
        rw [show (!(!(Builtin.Str.occurrences ("01" : Str) (sgn (if true = true then 49 else 48)) 0 ("01" : Str).length 1).isEmpty)) = false by decide +kernel]
        k_is
        refine B8 (fun h => by omega) (fun _ => ?_)
        k_is
        refine B8 (fun h => ?_) (fun _ => ?_)
        · have := V.int.inj h
          omega
        k_is
        exact ⟨⟨_, _, rfl⟩, s2⟩
      | false =>
        refine B8 (fun h => absurd h (by decide)) (fun _ => ?_)
        k_is
        refine ⟨_, _, rfl, rfl, ?_⟩
        k_is
        have hs : hgt l (i + 1) = hgt l i + -1 := hs
        rw [<- hs, hh]
        rw [show (!(!(Builtin.Str.occurrences ("01" : Str) (sgn (if false = true then 49 else 48)) 0 ("01" : Str).length 1).isEmpty)) = false by decide +kernel]
        k_is
        refine B8 (fun h => by omega) (fun _ => ?_)
        k_is
        refine B8 (fun h => ?_) (fun _ => ?_)
        · have := V.int.inj h
          omega
        k_is
        exact ⟨⟨_, _, rfl⟩, s2⟩
    · rintro σ H1 ⟨⟨v2, v3, rfl⟩, s1⟩
      rw [show (Aw l).cps.size = l.length from A5 l]
      obtain ⟨h, hh, hv2, _⟩ := mY hv l.length (Nat.le_refl _)
      rw [List.drop_of_length_le (Nat.le_refl _)] at hv2
      have hv2 : h = 0 := hv2
      k_is
      refine B8 (fun h => by omega) (fun _ => ?_)
      k_is
      exact q H1 s1
def Hw (b:V):List (Str×V):=[("bits",b)]
def F3 (b c:V):List (Str×V):=[("bits",b),("counts",c)]
def iY (b c n t o:V):List (Str×V):=[("bits",b),("counts",c),("length",n),("kept_table",t),("often_least",o)]
def Ut (K:PySem.W.Frag)(CP:Addr):Sp:=fun vs H Q _=>∃ (x dx:Addr) (b c n t o:V),vs=[.ref x,n,t,o]/\H x=some (.ins CP dx (F3 b c))/\Q .non (upd H x (.ins CP dx (iY b c n t o)))
theorem Q4 {f:Addr}{fd:FuncData}(F:Fun K "__init__" "Heights.__init__" Gp f fd)(T:Txt K mg aB aC ah ad aa ac aj am ao aq ar au av aw ax ay az aA)(Z:Qc K ag):Ax P w K mg base CX0 1 f fd ["self","length","table","often_least"] (Ut K ag):=by
 refine F.ok Ow (fun vs H Q E h=>?_) (fun cdv A outer s H vs Q E hr h=>?_)
 ·obtain ⟨x,dx,b,c,n,t,o,rfl,_⟩:=h
  rfl
 ·obtain ⟨x,dx,b,c,n,t,o,rfl,hx,q⟩:=h
  refine ⟨_,(Ab (Er (pv 0) (pv 1) rfl)
   (Ab (Er (pv 0) (pv 2) rfl)
   (Ag (Er (pv 0) (pv 3) rfl)))),?_⟩
  k_is
  refine C8 hx Z.cl Z.n_length (show 2<1000 by decide) ?_
  k_is
  refine C8 Ac Z.cl Z.n_kept_table (show 3<1000 by decide) ?_
  rw [O9]
  k_is
  refine C8 Ac Z.cl Z.n_often_least (show 4<1000 by decide) ?_
  rw [O9]
  exact q
def Vy (K:PySem.W.Frag)(CC CP:Addr):Sp:=fun vs H Q _=>∃ (x dx c:Addr) (fs:List (Str×V)) (l:List Bool) (n:Nat),vs=[.ref x,.int n]/\H x=some (.ins CP dx fs)/\fs.lookup ("counts":Str)=some (.ref c)/\Bb K CC H c l/\n<=l.length/\∀ H',Ak H H'->Q (.int ((occ true l n).length:Nat)) H'
theorem Ql {f:Addr}{fd:FuncData}(F:Fun K "opens_ahead" "Pairs.opens_ahead" Do f fd)(T:Txt K mg aB aC ah ad aa ac aj am ao aq ar au av aw ax ay az aA)(Z:Qc K ag)(aP:Mth P w K mg base ae "ahead" 4 ["self","bit","place"] (O1 K ae)):Ax P w K mg base CX0 5 f fd ["self","place"] (Vy K ae ag):=by
 refine F.ok Jp (fun vs H Q E h=>?_) (fun cdv A outer s H vs Q E hr h=>?_)
 ·obtain ⟨x,dx,c,fs,l,n,rfl,_⟩:=h
  rfl
 ·obtain ⟨x,dx,c,fs,l,n,rfl,hx,hc,hC,hn,q⟩:=h
  refine ⟨_,(Ag (Ao (Fh aP (hr.mono (by decide:4<=_)) (Bh (pv 0) rfl) (Ad Af (Ad (pv 1) Aa rfl) rfl)))),?_⟩
  k_is
  refine ⟨x,ag,dx,fs,.ref c,rfl,hx,Z.cl,Z.n_counts,hc,?_⟩
  obtain ⟨dc,t,u,hc1,_⟩:=id hC
  k_is
  refine ⟨c,dc,_,rfl,hc1,rfl,?_⟩
  k_is
  exact ⟨c,l,true,n,rfl,hC,hn,q⟩
def Re (K:PySem.W.Frag)(CC CP:Addr):Sp:=fun vs H Q _=>∃ (x dx c:Addr) (fs:List (Str×V)) (l:List Bool) (n:Nat),vs=[.ref x,.int n]/\H x=some (.ins CP dx fs)/\fs.lookup ("counts":Str)=some (.ref c)/\Bb K CC H c l/\n<=l.length/\∀ H',Ak H H'->Q (.int ((occ false l n).length:Nat)) H'
theorem Qh {f:Addr}{fd:FuncData}(F:Fun K "closes_ahead" "Pairs.closes_ahead" C9 f fd)(T:Txt K mg aB aC ah ad aa ac aj am ao aq ar au av aw ax ay az aA)(Z:Qc K ag)(aP:Mth P w K mg base ae "ahead" 4 ["self","bit","place"] (O1 K ae)):Ax P w K mg base CX0 5 f fd ["self","place"] (Re K ae ag):=by
 refine F.ok Jh (fun vs H Q E h=>?_) (fun cdv A outer s H vs Q E hr h=>?_)
 ·obtain ⟨x,dx,c,fs,l,n,rfl,_⟩:=h
  rfl
 ·obtain ⟨x,dx,c,fs,l,n,rfl,hx,hc,hC,hn,q⟩:=h
  refine ⟨_,(Ag (Ao (Fh aP (hr.mono (by decide:4<=_)) (Bh (pv 0) rfl) (Ad Af (Ad (pv 1) Aa rfl) rfl)))),?_⟩
  k_is
  refine ⟨x,ag,dx,fs,.ref c,rfl,hx,Z.cl,Z.n_counts,hc,?_⟩
  obtain ⟨dc,t,u,hc1,_⟩:=id hC
  k_is
  refine ⟨c,dc,_,rfl,hc1,rfl,?_⟩
  k_is
  exact ⟨c,l,false,n,rfl,hC,hn,q⟩
def Pk (K:PySem.W.Frag)(CC CP:Addr):Sp:=fun vs H Q _=>∃ (x dx c:Addr) (fs:List (Str×V)) (l:List Bool) (n:Nat),vs=[.ref x,.int n]/\H x=some (.ins CP dx fs)/\fs.lookup ("counts":Str)=some (.ref c)/\fs.lookup ("opens_ahead":Str)=none/\Bb K CC H c l/\n<=l.length/\∀ H',Ak H H'->Q (.int (2*((occ true l n).length:Int)-n)) H'
theorem Qs {f:Addr}{fd:FuncData}(F:Fun K "height" "Heights.height" E1 f fd)(T:Txt K mg aB aC ah ad aa ac aj am ao aq ar au av aw ax ay az aA)(Z:Qc K ag)(bE:Mth P w K mg base ag "opens_ahead" 5 ["self","place"] (Vy K ae ag)):Ax P w K mg base CX0 6 f fd ["self","place"] (Pk K ae ag):=by
 refine F.ok Mq (fun vs H Q E h=>?_) (fun cdv A outer s H vs Q E hr h=>?_)
 ·obtain ⟨x,dx,c,fs,l,n,rfl,_⟩:=h
  rfl
 ·obtain ⟨x,dx,c,fs,l,n,rfl,hx,hc,ho,hC,hn,q⟩:=h
  refine ⟨_,(Ag (Ao (Aj Cl (Aj Ha Af (Fh bE (hr.mono (by decide:5<=_)) (pv 0) (Ad (pv 1) Aa rfl))) (pv 1)))),?_⟩
  k_is
  refine ⟨x,dx,fs,rfl,hx,ho,?_⟩
  k_is
  refine ⟨x,dx,c,fs,l,n,rfl,hx,hc,hC,hn,fun H' s=>?_⟩
  k_is
  exact q H' s
def Lb (K:PySem.W.Frag)(CB CP:Addr):Sp:=fun vs H Q _=>∃ (x dx b:Addr) (fs:List (Str×V)) (l:List Bool) (i j:Nat),vs=[.ref x,.int i,.int j]/\H x=some (.ins CP dx fs)/\fs.lookup ("bits":Str)=some (.ref b)/\Es K CB H b l/\i<=j/\j<=l.length/\∀ H',Ak H H'->Q (.str (Aw ((l.drop i).take (j-i)))) H'
theorem Qx {f:Addr}{fd:FuncData}(F:Fun K "stretch" "Pairs.stretch" Fz f fd)(T:Txt K mg aB aC ah ad aa ac aj am ao aq ar au av aw ax ay az aA)(Z:Qc K ag)(bF:Mth P w K mg base ai "stretch" 5 ["self","low","high"] (Mx K ai)):Ax P w K mg base CX0 6 f fd ["self","low","high"] (Lb K ai ag):=by
 refine F.ok Nx (fun vs H Q E h=>?_) (fun cdv A outer s H vs Q E hr h=>?_)
 ·obtain ⟨x,dx,b,fs,l,i,j,rfl,_⟩:=h
  rfl
 ·obtain ⟨x,dx,b,fs,l,i,j,rfl,hx,hb,hB,hij,hj,q⟩:=h
  refine ⟨_,(Ag (Ao (Fh bF (hr.mono (by decide:5<=_)) (Bh (pv 0) rfl) (Ad (pv 1) (Ad (pv 2) Aa rfl) rfl)))),?_⟩
  k_is
  refine ⟨x,ag,dx,fs,.ref b,rfl,hx,Z.cl,Z.n_bits,hb,?_⟩
  obtain ⟨db,t,hb1,_⟩:=id hB
  k_is
  refine ⟨b,db,_,rfl,hb1,rfl,?_⟩
  k_is
  exact ⟨b,l,i,j,rfl,hB,hij,hj,q⟩
def bgH (l:List Bool)(t:Nat):Int:=2*((occ true l (t*256)).length:Int)-(t*256:Nat)
def sgH (l:List Bool)(t:Nat):List Bool:=(l.drop (t*256)).take 256
theorem pP (l:List Bool)(t:Nat):(sgH l t).length<=1000:=by unfold sgH;rw [List.length_take];omega
def Vx (l:List Bool)(t:Nat):List Int:=htB (sgH l t) (bgH l t) (sgH l t).length
def jZ (l:List Bool)(H:Hp)(r:Addr)(j:Nat):Prop:=∃ mn mx:Int,H r=some (.tup [.int (bgH l j),.int mn,.int mx])/\Vd (Vx l j) mn/\cS (Vx l j) mx
def N5 (l:List Bool)(H:Hp)(t:Addr):Prop:=∃ rs:List Addr,H t=some (.tup (rs.map V.ref))/\rs.length=(l.length+256-1)/256/\∀ (j:Nat) r,rs[j]?=some r->jZ l H r j
theorem N5.keep {l:List Bool}{H H':Hp}{t:Addr}(k:∀ b xs,H b=some (.tup xs)->H' b=some (.tup xs))(h:N5 l H t):N5 l H' t:=by
 obtain ⟨rs,h1,h2,h3⟩:=h
 refine ⟨rs,k _ _ h1,h2,fun j r e=>?_⟩
 obtain ⟨mn,mx,e1,e2,e3⟩:=h3 j r e
 exact ⟨mn,mx,k _ _ e1,e2,e3⟩
theorem N5.same {l:List Bool}{H H':Hp}{t:Addr}(s:Ak H H')(h:N5 l H t):N5 l H' t:=h.keep fun b xs e=>s _ _ e
def Dd (K:PySem.W.Frag)(CB CC CP:Addr)(H:Hp)(x:Addr)(l:List Bool):Prop:=∃ (dx b c t:Addr) (o:V),H x=some (.ins CP dx (iY (.ref b) (.ref c) (.int (l.length:Nat)) (.ref t) o))/\Es K CB H b l/\Bb K CC H c l/\N5 l H t/\Vs 0 l/\l.length<=8192
theorem Dd.same {K:PySem.W.Frag}{CB CC CP:Addr}{H H':Hp}{x:Addr}{l:List Bool}(h:Dd K CB CC CP H x l)(s:Ak H H'):Dd K CB CC CP H' x l:=by
 obtain ⟨dx,b,c,t,o,h1,h2,h3,h4,h5⟩:=h
 exact ⟨dx,b,c,t,o,s _ _ h1,h2.same s,h3.same s,h4.same s,h5⟩
def dR (K:PySem.W.Frag)(CB CC CP:Addr):Sp:=fun vs H Q _=>∃ (x:Addr) (l:List Bool),vs=[.ref x]/\Dd K CB CC CP H x l/\Q (.int (l.length:Nat)) H
theorem Q5 {f:Addr}{fd:FuncData}(F:Fun K "size" "Heights.size" Gb f fd)(T:Txt K mg aB aC ah ad aa ac aj am ao aq ar au av aw ax ay az aA)(Z:Qc K ag):Ax P w K mg base CX0 1 f fd ["self"] (dR K ai ae ag):=by
 refine F.ok Ol (fun vs H Q E h=>?_) (fun cdv A outer s H vs Q E hr h=>?_)
 ·obtain ⟨x,l,rfl,_⟩:=h
  rfl
 ·obtain ⟨x,l,rfl,⟨dx,b,c,t,o,hx,_⟩,q⟩:=h
  refine ⟨_,(Ag (Ao (Bh (pv 0) rfl))),?_⟩
  k_is
  exact ⟨x,ag,dx,_,_,rfl,hx,Z.cl,Z.n_length,rfl,q⟩
def U3 (K:PySem.W.Frag)(CB CC CP:Addr):Sp:=fun vs H Q _=>∃ (x:Addr) (l:List Bool),vs=[.ref x]/\Dd K CB CC CP H x l/\∀ H',Ak H H'->Q (.str (Aw l)) H'
theorem Q6 {f:Addr}{fd:FuncData}(F:Fun K "text" "Heights.text" Gc f fd)(T:Txt K mg aB aC ah ad aa ac aj am ao aq ar au av aw ax ay az aA)(Z:Qc K ag)(bG:Mth P w K mg base ag "stretch" 6 ["self","low","high"] (Lb K ai ag)):Ax P w K mg base CX0 7 f fd ["self"] (U3 K ai ae ag):=by
 refine F.ok Ov (fun vs H Q E h=>?_) (fun cdv A outer s H vs Q E hr h=>?_)
 ·obtain ⟨x,l,rfl,_⟩:=h
  rfl
 ·obtain ⟨x,l,rfl,⟨dx,b,c,t,o,hx,hB,hC,_⟩,q⟩:=h
  refine ⟨_,(Ag (Ao (Fh bG (hr.mono (by decide:6<=_)) (pv 0) (Ad Af (Ad (Bh (pv 0) rfl) Aa rfl) rfl)))),?_⟩
  k_is
  refine ⟨x,dx,_,rfl,hx,rfl,?_⟩
  k_is
  refine ⟨x,ag,dx,_,_,rfl,hx,Z.cl,Z.n_length,rfl,?_⟩
  k_is
  refine ⟨x,dx,b,_,l,0,l.length,rfl,hx,rfl,hB,Nat.zero_le _,Nat.le_refl _,fun H' s=>?_⟩
  simpa using q H' s
theorem Ht {H1 H2:Hp}{x dx C:Addr}(hx:H1 x=none)(hd:H1 dx=none)(s:SameBut x (upd (upd H1 dx (.own x)) x (.ins C dx [])) H2):Ak H1 H2:=fun b u e=>s b u (Aq e hx) (by rw [Al (Aq e hx),Al (Aq e hd)];exact e)
theorem L9 {H1:Hp}{x dx:Addr}{o o':HO}(hx:H1 x=none)(hd:H1 dx=none):Ak H1 (upd (upd H1 dx o) x o'):=fun b u e=>by rw [Al (Aq e hx),Al (Aq e hd)];exact e
theorem Ic {K:PySem.W.Frag}{C x b:Addr}{H H':Hp}{l:List Bool}(s:SameBut x H H')(n:mZ H x)(hne:b≠x)(h:Bb K C H b l):Bb K C H' b l:=by
 obtain ⟨dx,t,u,h1,h2,h3,h4⟩:=h
 exact ⟨dx,t,u,s _ _ hne h1,s _ _ (fun e=>by subst e;exact (n _).1 (.inl h2)) h2,s _ _ (fun e=>by subst e;exact (n _).1 (.inl h3)) h3,h4⟩
def Up (K:PySem.W.Frag)(CB CC CP:Addr):Sp:=fun vs H Q _=>∃ (x dx:Addr) (l:List Bool),vs=[.ref x,.str (Aw l)]/\H x=some (.ins CP dx [])/\Vs 0 l/\l.length<=8000/\∀ H',SameBut x H H'->Dd K CB CC CP H' x l->Q .non H'
theorem Wc {f : Addr}{fd : FuncData}(F : Fun K "__init__" "Pairs.__init__" Cv f fd)(T : Txt K mg aB aC ah ad aa ac aj am ao aq ar au av aw ax ay az aA)(Z : Qc K ag)(bH : Cal P w K mg base "check_row" 1 ["text"] Ur)(bI : Mkr P w K mg base "Bits" ai 3 ["self", "text"] (K6 K ai))
    (bJ : Mkr P w K mg base "Counts" ae 3 ["self", "bits"] (Ik K ai ae))(bK : Mth P w K mg base ag "height" 6 ["self", "place"] (Pk K ae ag))(bL : Cal P w K mg base "heights_of" 1 ["text", "begin"] K5)
    (Q7 : rM P w K mg base "Heights" "__init__" 1 ["self", "length", "table", "often_least"] (Ut K ag)) : Ax P w K mg base CX0 7 f fd ["self", "text"] (Up K ai ae ag) := by
  refine F.ok Dt (fun vs H Q E h => ?_) (fun cdv A outer s H vs Q E hr h => ?_)
  · obtain ⟨x, dx, l, rfl, _⟩ := h
    rfl
  · obtain ⟨x, dx, l, rfl, hx, hV, hl8, q⟩ := h
    refine ⟨_, (Ab (Bj (A4 bH (hr.mono (by decide : 1 <= _)) (Ad (pv 1) Aa rfl)))
      (Ab (Er (pv 0) (jC bI (hr.mono (by decide : 4 <= _)) (Ad (pv 1) Aa rfl)) rfl)
      (Ab (Er (pv 0) (jC bJ (hr.mono (by decide : 4 <= _)) (Ad (Bh (pv 0) rfl) Aa rfl)) rfl)
      (Ab (Am (i := 2) Dt.nd rfl (Or.inl rfl) (Zg rfl rfl T.n_list rfl T.n_range (Ad Af (Ad (Ar Cs (by rfl) T.n_len Em (Ad (pv 1) Aa rfl)) (Ad (Ba rfl T.g_STRETCH_BITS) Aa rfl) rfl) rfl)))
      (Ab (Mj (i := 3) rfl Oj Dt.nd rfl rfl (Fa (pv 2)) (fun _ _ _ _ => Dg) (fun _ _ _ _ => (Fh bK (hr.mono (by decide : 6 <= _)) (pv 1) (Ad (pv 0) Aa rfl))))
      (Ab (Tk (i := 4) rfl Om Dt.nd rfl rfl (mR rfl T.n_zip (Ad (pv 2) (Ad (pv 3) Aa rfl) rfl)) (fun _ _ _ _ => Dg) (fun _ _ _ _ => (A4 bL (hr.mono (by decide : 1 <= _)) (Ad (Ce Wk (pv 2) (Bw (pv 0)) (Bw (Aj Be (pv 0) (Ba rfl T.g_STRETCH_BITS)))) (Ad (pv 1) Aa rfl) rfl))))
      (Ab (Tk (i := 5) rfl Oh Dt.nd rfl rfl (mR rfl T.n_zip (Ad (pv 3) (Ad (pv 4) Aa rfl) rfl)) (fun _ _ _ _ => Dg) (fun _ _ _ _ => (Gh (Ad (pv 0) (Ad (Ar (Pi K rfl) (by rfl) T.n_min Xc (Ad (pv 1) Aa rfl)) (Ad (Ar (cQ K rfl) (by rfl) T.n_max qR (Ad (pv 1) Aa rfl)) Aa rfl) rfl) rfl))))
      (Ag (Bj (wH Q7 (hr.mono (by decide : 1 <= _)) rfl (Ad (pv 0) (Ad (Ar Cs (by rfl) T.n_len Em (Ad (pv 1) Aa rfl)) (Ad (Di Fc (by rfl) T.n_tuple O5 (Ad (pv 5) Aa rfl)) (Ad (Oa rfl Os (Fa (pv 4)) (fun _ _ _ _ => Dg) (fun _ _ _ _ => (cC K PySem.F.plainAttrs_list PySem.F.slot_list_count PySem.F.type_list_count Tz (pv 0) (Ad (Ar (Pi K rfl) (by rfl) T.n_min Xc (Ad (pv 0) Aa rfl)) Aa rfl)))) Aa rfl) rfl) rfl) rfl))))))))))), ?_⟩
    k_is
    refine ⟨l, rfl, hV, hl8, fun H1 s1 => ?_⟩
    have hl : l.length <= 8192 := by omega
    have hx1 := s1 _ _ hx
    k_is
    intro b db hb hdb hbd
    refine ⟨b, db, l, rfl, Ac, by omega, fun H2 s2 hB2 => ⟨rfl, ?_⟩⟩
    have s2 := Ht hb hdb s2
    have hx2 := s2 _ _ hx1
    have nbx : b ≠ x := (Aq hx1 hb).symm
    k_is
    refine C8 hx2 Z.cl Z.n_bits (show 0 < 1000 by decide) ?_
    rw [show Fj ("bits" : Str) (V.ref b) [] = (Hw (.ref b)) from rfl]
    have hB3 : Es K ai (upd H2 x (.ins ag dx (Hw (.ref b)))) b l := Gi A7 (Ea hx2) nbx hB2
    have hx3 : upd H2 x (.ins ag dx (Hw (.ref b))) x = some (.ins ag dx (Hw (.ref b))) := Ac
    have b3 : SameBut x H2 (upd H2 x (.ins ag dx (Hw (.ref b)))) := A7
    generalize upd H2 x (.ins ag dx (Hw (.ref b))) = H3 at *
    k_is
    refine ⟨x, ag, dx, _, .ref b, rfl, hx3, Z.cl, Z.n_bits, rfl, ?_⟩
    k_is
    intro c dc hc hdc hcd
    refine ⟨c, dc, b, l, rfl, Ac, hB3.same (L9 hc hdc), fun H4 s4 hC4 => ⟨rfl, ?_⟩⟩
    have s4 := Ht hc hdc s4
    have hx4 := s4 _ _ hx3
    have ncx : c ≠ x := (Aq hx3 hc).symm
    have hB4 := hB3.same s4
    k_is
    refine C8 hx4 Z.cl Z.n_counts (show 1 < 1000 by decide) ?_
    rw [show Fj ("counts" : Str) (V.ref c) (Hw (.ref b)) = F3 (.ref b) (.ref c) from rfl]
    have hB5 : Es K ai (upd H4 x (.ins ag dx (F3 (.ref b) (.ref c)))) b l := Gi A7 (Ea hx4) nbx hB4
    have hC5 : Bb K ae (upd H4 x (.ins ag dx (F3 (.ref b) (.ref c)))) c l := Ic A7 (Ea hx4) ncx hC4
    have hx5 : upd H4 x (.ins ag dx (F3 (.ref b) (.ref c))) x = some (.ins ag dx (F3 (.ref b) (.ref c))) := Ac
    have b5 : SameBut x H4 (upd H4 x (.ins ag dx (F3 (.ref b) (.ref c)))) := A7
    have but5 : SameBut x H (upd H4 x (.ins ag dx (F3 (.ref b) (.ref c)))) := (((s1.trans s2).but.trans b3).trans s4.but).trans b5
    generalize upd H4 x (.ins ag dx (F3 (.ref b) (.ref c))) = H5 at *
    k_is
    refine ⟨_, rfl, Nat.le_of_lt (Ap (by rw [A5]; omega)), ?_⟩
    rw [A5]
    k_is
    refine ⟨l.length, 256, rfl, by omega, by decide, by decide, fun lo hlo => ?_⟩
    have u6 := Ah (o := .lst ((List.range ((l.length + 256 - 1) / 256)).map fun t : Nat => V.int (t * 256 : Nat))) hlo
    have hlo6 : upd H5 lo (.lst ((List.range ((l.length + 256 - 1) / 256)).map fun t : Nat => V.int (t * 256 : Nat))) lo = some (.lst ((List.range ((l.length + 256 - 1) / 256)).map fun t : Nat => V.int (t * 256 : Nat))) := Ac
    have hx6 := u6 _ _ hx5
    have hB6 := hB5.same u6
    have hC6 := hC5.same u6
    have but6 := but5.trans u6.but
    generalize upd H5 lo (.lst ((List.range ((l.length + 256 - 1) / 256)).map fun t : Nat => V.int (t * 256 : Nat))) = H6 at *
    obtain ⟨m, hm⟩ : ∃ m, (l.length + 256 - 1) / 256 = m := ⟨_, rfl⟩
    rw [hm] at hlo6
    have hll : ((List.range m).map fun t : Nat => V.int (t * 256 : Nat)).length = m := by rw [List.length_map, List.length_range]
    k_is
    refine ⟨lo, rfl, ⟨_, SqL.of hlo6⟩, ?_⟩
    refine Mr (xs := (List.range m).map fun t : Nat => V.int (t * 256 : Nat)) (SqL.of hlo6) (fun i => (List.range i).map fun t : Nat => V.int (bgH l t)) rfl (fun i hi => ?_) (fun i y H7 R A hy s7 _ hA => ?_) (fun D7 H7 hD7 s7 h7 => ?_)
    · rw [List.length_map, List.length_range]
      exact Ap (by omega)
    · have hi : i < m := by have := Dl hy; rw [hll] at this; exact this
      rw [List.getElem?_map, List.getElem?_range hi] at hy
      obtain rfl : y = V.int (i * 256 : Nat) := (Option.some.inj hy).symm
      k_is
      refine ⟨x, dx, _, rfl, s7 _ _ hx6, rfl, ?_⟩
      k_is
      refine ⟨x, dx, c, _, l, i * 256, rfl, s7 _ _ hx6, rfl, rfl, hC6.same s7, by omega, fun H8 s8 => ?_⟩
      refine hA _ _ ?_ s8
      rw [List.range_succ, List.map_append]
      rfl
    rw [hll] at h7
    have hx7 := s7 _ _ hx6
    have hB7 := hB6.same s7
    have hC7 := hC6.same s7
    have but7 := but6.trans s7.but
    have hlo7 := s7 _ _ hlo6
    have hbl : ((List.range m).map fun t : Nat => V.int (bgH l t)).length = m := by rw [List.length_map, List.length_range]
    k_is
    refine ⟨lo, D7, rfl, ⟨_, SqL.of hlo7⟩, ⟨_, SqL.of h7⟩, ?_⟩
    refine dJ (SqL.of hlo7) (SqL.of h7) (fun D i zs H' => ∃ rs : List Addr, zs = rs.map V.ref/\rs.length = i/\∀ (j : Nat) r, rs[j]? = some r->r ≠ D/\H' r = some (.lst ((Vx l j).map V.int))) (fun D H' _ _ => ⟨[], rfl, rfl, fun j r e => by cases e⟩) ?_ ?_ ?_ ?_ ?_
    · rintro D i zs H' us o hD ⟨rs, e1, e2, e3⟩
      exact ⟨rs, e1, e2, fun j r e => ⟨(e3 j r e).1, by rw [Al (e3 j r e).1]; exact (e3 j r e).2⟩⟩
    · rintro D i zs H' hi ⟨rs, rfl, e2, e3⟩
      rw [List.length_map, e2]
      rw [hll, hbl] at hi
      exact Ap (by omega)
    · rintro D i zs H' H'' s ⟨rs, e1, e2, e3⟩
      exact ⟨rs, e1, e2, fun j r e => ⟨(e3 j r e).1, s _ _ (e3 j r e).2⟩⟩
    · intro D i zs y y2 H8 A R hy hy2 s8 hD0 hD8 hPv hA
      obtain ⟨rs, rfl, e2, e3⟩ := hPv
      have hi : i < m := by have := Dl hy; rw [hll] at this; exact this
      rw [List.getElem?_map, List.getElem?_range hi] at hy hy2
      obtain rfl : y = V.int (i * 256 : Nat) := (Option.some.inj hy).symm
      obtain rfl : y2 = V.int (bgH l i) := (Option.some.inj hy2).symm
      k_is
      refine ⟨_, rfl, Nat.le_of_lt (Ap (by rw [A5]; omega)), ?_⟩
      k_is
      have ec : Vw (Aw l) (some ((i * 256 : Nat) : Int)) (some (((i * 256 : Nat) : Int) + 256)) = Aw (sgH l i) := by
        have := Ko l (i * 256) (i * 256 + 256)
        rw [Nat.add_sub_cancel_left] at this
        exact this
      rw [ec]
      refine ⟨sgH l i, bgH l i, rfl, pP l i, fun p H9 s9 hp h9 => ?_⟩
      refine hA _ _ s9 ⟨rs ++ [p], by rw [List.map_append]; rfl, by rw [List.length_append, e2]; rfl, fun j r e => ?_⟩
      by_cases hj : j < rs.length
      · rw [List.getElem?_append_left hj] at e
        exact ⟨(e3 j r e).1, s9 _ _ (e3 j r e).2⟩
      · have hj2 := Dl e
        rw [List.length_append] at hj2
        have hj3 : j = rs.length := by simp at hj2; omega
        subst hj3
        rw [List.getElem?_append_right (Nat.le_refl _), Nat.sub_self] at e
        obtain rfl : p = r := Option.some.inj e
        rw [e2]
        exact ⟨(Aq hD8 hp).symm, h9⟩
    · intro D8 zs H8 hD8 s8 hPv h8
      obtain ⟨rs, rfl, e2, e3⟩ := hPv
      rw [hll, hbl, Nat.min_self] at e2
      have hx8 := s8 _ _ hx7
      have hB8 := hB7.same s8
      have hC8 := hC7.same s8
      have but8 := but7.trans s8.but
      have h78 := s8 _ _ h7
      have hrl : (rs.map V.ref).length = m := by rw [List.length_map, e2]
      have hne : ∀ i, i < m->Vx l i ≠ [] := fun i hi e => by
        have e := congrArg List.length e
        unfold Vx htB hts sgH at e
        simp at e
        omega
      k_is
      refine ⟨D7, D8, rfl, ⟨_, SqL.of h78⟩, ⟨_, SqL.of h8⟩, ?_⟩
      refine dJ (SqL.of h78) (SqL.of h8) (fun D i zs H' => ∃ ts : List Addr, zs = ts.map V.ref/\ts.length = i/\∀ (j : Nat) r, ts[j]? = some r->jZ l H' r j) (fun D H' _ _ => ⟨[], rfl, rfl, fun j r e => by cases e⟩) ?_ ?_ ?_ ?_ ?_
      · rintro D i zs H' us o hD ⟨ts, e1, e2, e3⟩
        refine ⟨ts, e1, e2, fun j r e => ?_⟩
        obtain ⟨mn, mx, h1, h2⟩ := e3 j r e
        exact ⟨mn, mx, by rw [Al (fun z => by rw [z, hD] at h1; cases h1)]; exact h1, h2⟩
      · rintro D i zs H' hi ⟨ts, rfl, e2, e3⟩
        rw [hbl, hrl] at hi
        rw [List.length_map, e2]
        exact Ap (by omega)
      · rintro D i zs H' H'' s ⟨ts, e1, e2, e3⟩
        refine ⟨ts, e1, e2, fun j r e => ?_⟩
        obtain ⟨mn, mx, h1, h2⟩ := e3 j r e
        exact ⟨mn, mx, s _ _ h1, h2⟩
      · intro D i zs y y2 H9 A R hy hy2 s9 hD0 hD9 hPv hA
        obtain ⟨ts, rfl, ts2, ts3⟩ := hPv
        have hi : i < m := by have := Dl hy; rw [hbl] at this; exact this
        rw [List.getElem?_map, List.getElem?_range hi] at hy
        obtain rfl : y = V.int (bgH l i) := (Option.some.inj hy).symm
        have er : rs[i]? = some (rs[i]'(by omega)) := List.getElem?_eq_getElem _
        generalize rs[i]'(by omega) = r at er
        rw [List.getElem?_map, er] at hy2
        obtain rfl : y2 = V.ref r := (Option.some.inj hy2).symm
        have hr9 := s9 _ _ (e3 i r er).2
        k_is
        refine ⟨r, Vx l i, rfl, SqL.of hr9, hne i hi, fun mn hmn => ?_⟩
        k_is
        refine ⟨r, Vx l i, rfl, SqL.of hr9, hne i hi, fun mx hmx => ?_⟩
        k_is
        refine ⟨few (by simp), fun tp htp => ?_⟩
        refine hA _ _ (Ah htp) ⟨ts ++ [tp], by rw [List.map_append]; rfl, by rw [List.length_append, ts2]; rfl, fun j q e => ?_⟩
        by_cases hj : j < ts.length
        · rw [List.getElem?_append_left hj] at e
          obtain ⟨mn', mx', h1, h2⟩ := ts3 j q e
          exact ⟨mn', mx', Ah htp _ _ h1, h2⟩
        · have hj2 := Dl e
          rw [List.length_append] at hj2
          have hj3 : j = ts.length := by simp at hj2; omega
          subst hj3
          rw [List.getElem?_append_right (Nat.le_refl _), Nat.sub_self] at e
          obtain rfl : tp = q := Option.some.inj e
          rw [ts2]
          exact ⟨mn, mx, Ac, hmn, hmx⟩
      · intro D9 zs H9 hD9 s9 hPv h9
        rw [hbl, hrl, Nat.min_self] at hPv
        obtain ⟨ts, rfl, ts2, ts3⟩ := hPv
        have hx9 := s9 _ _ hx8
        have hB9 := hB8.same s9
        have hC9 := hC8.same s9
        have but9 := but8.trans s9.but
        have h89 := s9 _ _ h8
        k_is
        refine ⟨_, rfl, Nat.le_of_lt (Ap (by rw [A5]; omega)), ?_⟩
        rw [A5]
        k_is
        refine ⟨D9, _, rfl, .inl ⟨SqL.of h9, fun tq htq => ?_⟩⟩
        have s10 := Ah (o := .tup (ts.map V.ref)) htq
        have hx10 := s10 _ _ hx9
        have hB10 := hB9.same s10
        have hC10 := hC9.same s10
        have but10 := but9.trans s10.but
        have h810 := s10 _ _ h89
        have e310 : ∀ (j : Nat) r, rs[j]? = some r->upd H9 tq (.tup (ts.map V.ref)) r = some (.lst ((Vx l j).map V.int)) := fun j r e => s10 _ _ (s9 _ _ (e3 j r e).2)
        have hTab10 : N5 l (upd H9 tq (.tup (ts.map V.ref))) tq := ⟨ts, Ac, by rw [ts2, hm], fun j r e => by
          obtain ⟨mn, mx, h1, h2⟩ := ts3 j r e
          exact ⟨mn, mx, s10 _ _ h1, h2⟩⟩
        generalize upd H9 tq (.tup (ts.map V.ref)) = H10 at *
        k_is
        refine ⟨D8, rfl, ⟨_, SqL.of h810⟩, ?_⟩
        refine iG (SqL.of h810) (fun i ys H' => ys.length = i) (fun _ _ => rfl) (fun i ys H' D zs o _ h => h) (fun i ys H' hi h => ?_) ?_ ?_
        · rw [hrl] at hi
          rw [h]
          exact Ap (by omega)
        · intro i ys y H11 A R hy s11 hPv hA
          have hi : i < m := by have := Dl hy; rw [hrl] at this; exact this
          have er : rs[i]? = some (rs[i]'(by omega)) := List.getElem?_eq_getElem _
          generalize rs[i]'(by omega) = r at er
          rw [List.getElem?_map, er] at hy
          obtain rfl : y = V.ref r := (Option.some.inj hy).symm
          have hr := s11 _ _ (e310 i r er)
          k_is
          refine ⟨.inl ⟨rfl, _, SqL.of hr⟩, ?_⟩
          k_is
          refine ⟨r, Vx l i, rfl, SqL.of hr, hne i hi, fun mn _ => ?_⟩
          k_is
          refine ⟨r, _, _, rfl, rfl, hr, Hm _, rfl, ?_⟩
          exact hA _ _ (Ak.refl _) (by rw [List.length_append, hPv]; rfl)
        · intro D12 ys H12 hD12 s12 hPv h12
          have hx12 := s12 _ _ hx10
          k_is
          refine ⟨x, dx, .ref b, .ref c, .int (l.length : Nat), .ref tq, .ref D12, rfl, hx12, ?_⟩
          exact q _ ((but10.trans s12.but).trans A7) ⟨dx, b, c, tq, _, Ac, Gi A7 (Ea hx12) nbx (hB10.same s12), Ic A7 (Ea hx12) ncx (hC10.same s12), (hTab10.same s12).keep (fun b2 xs e => by rw [Al (fun z => by rw [z, hx12] at e; cases e)]; exact e), hV, hl⟩
theorem Dd.sm {K:PySem.W.Frag}{CB CC CP x:Addr}{ts:List Tb}{H H':Hp}{l:List Bool}(h:Dd K CB CC CP H x l)(s:SmT ts H H'):Dd K CB CC CP H' x l:=by
 obtain ⟨dx,b,c,t,o,h1,⟨d2,t2,b1,b2,b3⟩,h3,h4,h5⟩:=h
 exact ⟨dx,b,c,t,o,s.k h1,⟨d2,t2,s.k b1,s.k b2,b3⟩,h3.sm s,h4.keep (fun b xs e=>s.k e),h5⟩
def M6 (K:PySem.W.Frag)(CB CC CP:Addr)(ts:List Tb):Sp:=fun vs H Q _=>∃ (x:Addr) (l:List Bool) (n t:Nat),vs=[.ref x,.int n]/\Dd K CB CC CP H x l/\Tbs ts H/\(occ false l l.length)[n]?=some t/\∀ H',SmT ts H H'->Q (.int t) H'
theorem Qw {f:Addr}{fd:FuncData}{ts:List Tb}(F:Fun K "closing" "Pairs.closing" Fu f fd)(T:Txt K mg aB aC ah ad aa ac aj am ao aq ar au av aw ax ay az aA)(Z:Qc K ag)(bM:Mth P w K mg base ae "place_of" 5 ["self","bit","nth"] (Nr K ae ts)):Ax P w K mg base CX0 6 f fd ["self","number"] (M6 K ai ae ag ts):=by
 refine F.ok Nt (fun vs H Q E h=>?_) (fun cdv A outer s H vs Q E hr h=>?_)
 ·obtain ⟨x,l,n,t,rfl,_⟩:=h
  rfl
 ·obtain ⟨x,l,n,t,rfl,⟨dx,b,c,tt,o,hx,hB,hC,_⟩,hT,ht,q⟩:=h
  refine ⟨_,(Ag (Ao (Fh bM (hr.mono (by decide:5<=_)) (Bh (pv 0) rfl) (Ad Af (Ad (pv 1) Aa rfl) rfl)))),?_⟩
  k_is
  refine ⟨x,ag,dx,_,.ref c,rfl,hx,Z.cl,Z.n_counts,rfl,?_⟩
  obtain ⟨dc,t1,u1,hc1,_⟩:=id hC
  k_is
  refine ⟨c,dc,_,rfl,hc1,rfl,?_⟩
  k_is
  exact ⟨c,l,false,n,t,rfl,hC,hT,ht,q⟩
def Wm (K:PySem.W.Frag)(C:Addr):Sp:=fun vs H Q E=>∃ v o,vs=[v]/\ThA K H v o/\(∀ ds,K4 o ds->∀ l H',Ak H H'->H l=none->H' l=some (.lst ((Az ds).map V.int))->Q (.ref l) H')/\rT C H E o
theorem Nc {xs:List V}{k:Nat}{x:V}(h:xs[k]?=some x):xs.take (k+1)=xs.take k++[x]:=by rw [List.take_add_one,h];rfl
theorem Z4 {f : Addr}{fd : FuncData}(F : Fun K "look_at" "look_at" M7 f fd)(T : Txt K mg aB aC ah ad aa ac aj am ao aq ar au av aw ax ay az aA)(aQ : tH P w K mg base "NoWood" ah ac 1 ["self", "place"])(aI : Cal P w K mg base "is_whole" 1 ["thing"] (Jz K)) : Ax P w K mg base (CXE P w) 3 f fd ["elders"] (Wm K ac) := by
  refine F.okE Ih (fun vs H Q E h => ?_) (fun cdv A outer s H vs Q E hr h => ?_)
  · obtain ⟨v, o, rfl, _⟩ := h
    rfl
  · obtain ⟨v, o, rfl, hT, q, qe⟩ := h
    refine ⟨_, (Ab (B4 (E3 (C5 (Ar Cq (by rfl) T.n_isinstance A9 (Ad (pv 0) (Ad (F5 (v := .ty "list") rfl T.n_list Rq rfl) Aa rfl) rfl)))) (Ag (Nk aQ (hr.mono (by decide : 2 <= _)) rfl (Ad Af Aa rfl)))
      A6)
      (Ab (Am (i := 1) Ih.nd rfl (Or.inl rfl) (Bd (Ad (Dy Ch Af) Aa rfl)))
      (Ab (D0 PassesOwn.leaving rfl (Pg rfl T.n_enumerate (Ad (pv 0) Aa rfl)) (Sj rfl (Dw (Bn (i := 2) Ih.nd rfl (Or.inl rfl)) (Dw (Bn (i := 3) Ih.nd rfl (Or.inl rfl)) Me)))
      (Ab (B4 (PW.pt (K0 (An B7 (pv 2) (Ba rfl T.g_MOST_KNOTS) (Au _)) (K0 (E3 (C5 (A4 aI (hr.mono (by decide : 1 <= _)) (Ad (pv 3) Aa rfl)))) (La (An Oc (pv 3) (Dy Ch Af) (Au _)))))) (Ag (Nk aQ (hr.mono (by decide : 2 <= _)) rfl (Ad (pv 2) Aa rfl)))
      A6)
      (Ab (Jk PassesOwn.leaving (An K2 (C3 Ci (pv 1) (Dy Ch Af) (fun _ _ => rfl)) (pv 3) (Au _))
      (Ag (Bj (lW PySem.F.plainAttrs_list PySem.F.slot_list_pop PySem.F.type_list_pop lQ (pv 1)))))
      (Ab (B4 (An Tw (C3 Ci (pv 1) (Dy Ch Af) (fun _ _ => rfl)) (pv 3) (Au _)) (Ag (Nk aQ (hr.mono (by decide : 2 <= _)) rfl (Ad (pv 2) Aa rfl)))
      A6)
      (Ag (Bj (Ey PySem.F.plainAttrs_list PySem.F.slot_list_append PySem.F.type_list_append De (pv 1) (Ad (pv 2) Aa rfl))))))))
      (Ag (Ao (Di Iw (by rfl) T.n_list Rq (Ad (pv 0) Aa rfl))))))), ?_⟩
    k_is
    cases o with
    | none =>
      obtain ⟨t, ht, hk⟩ := hT
      refine ⟨_, _, _, _, rfl, ht, hk, ?_⟩
      k_is
      exact ⟨_, rfl, by decide, fun dx hx => qe 0 rfl dx _ (Ah hx) hx Ac⟩
    | some xs =>
      obtain ⟨a, rfl, ha, hf, hn⟩ := hT
      refine ⟨_, _, _, _, rfl, .lst ha, Sz, ?_⟩
      k_is
      refine ⟨few (by simp), fun p hp => ?_⟩
      k_is
      have t0 := Ah (o := .lst [V.int (-1)]) hp
      refine ⟨a, rfl, ⟨_, SqL.of (t0 _ _ ha)⟩, ?_⟩
      refine R9 (xs := xs) (fun k σ H1 => (∃ (ds : List Nat) (v2 v3 : Option V), σ = [some (.ref a), some (.ref p), v2, v3]/\Dok ds/\ds.length = k/\k <= 4000/\xs.take k = (Az ds).map V.int/\H1 p = some (.lst ((way ds k).map V.int)))/\Ak H H1) ?_ (fun k σ H1 _ h => SqL.of (h.2 _ _ ha)) ?_ ?_
      · exact ⟨⟨[], _, _, rfl, (fun k hk => by cases hk), rfl, Nat.zero_le _, rfl, Ac⟩, t0⟩
      · rintro k x σ H1 t hx ⟨⟨ds, v2, v3, rfl, hD, hl, hk4, htk, hp1⟩, s1⟩ ht
        have hk := Dl hx
        have hfx := hf x (List.mem_of_getElem? hx)
        have st := Ah (o := .tup [.int k, x]) ht
        have hp2 := st _ _ hp1
        have s2 := s1.trans st
        generalize upd H1 t (.tup [.int k, x]) = H2 at *
        have sm : ((k : Nat) : Int).natAbs < 10 ^ 12 := qD (by omega)
        have out : ∀ H3, Ak H H3->(k = 4000\/∀ e, xs[k]? = some (V.int e)->e ∉ way ds k)->∀ dx, H3 dx = none->E (.ref ac) (some dx) (upd H3 dx (.xd [("place", .int (k : Nat))])) := fun H3 s3 hb dx hx3 =>
          qe k ⟨ds, hD, hl, hk, hk4, htk, hb⟩ dx _ (s3.trans (Ah hx3)) (s3.free hx3) Ac
        k_is
        refine B8 (fun h => ?_) (fun h4 => ?_)
        · have h := V.int.inj h
          k_is
          exact ⟨_, rfl, sm, out H2 s2 (.inl (by omega))⟩
        have hk4 : k < 4000 := by
          rcases Nat.lt_or_eq_of_le hk4 with h | h
          · exact h
          · exact absurd (by rw [h]; rfl) h4
        k_is
        refine ⟨x, rfl, hfx.same s2, ?_⟩
        cases hix : isI x with
        | false =>
          k_is
          refine ⟨_, rfl, sm, out H2 s2 (.inr fun e he => ?_)⟩
          rw [hx] at he
          rw [Option.some.inj he] at hix
          cases hix
        | true =>
          obtain ⟨e, rfl⟩ := Vq hix
          k_is
          refine B8 (fun h => ?_) (fun hge => ?_)
          · k_is
            refine ⟨_, rfl, sm, out H2 s2 (.inr fun e' he hm => ?_)⟩
            rw [hx] at he
            have := tV hD (by omega) hm
            have := V.int.inj (Option.some.inj he)
            omega
          k_is
          have hw := Cu hD k (by omega)
          have hw0 := Fe hD k (by omega)
          refine Kh (fun σ H3 => σ = [some (.ref a), some (.ref p), some (.int k), some (.int e)]/\Ak H H3/\∃ m, 1 <= m/\m <= (way ds k).length/\H3 p = some (.lst (((way ds k).take m).map V.int))/\∀ (j : Nat) y, m <= j->(way ds k)[j]? = some y->e < y) (fun _ H3 => kY H3 p)
            ⟨rfl, s2, (way ds k).length, by omega, Nat.le_refl _, by rw [List.take_of_length_le (Nat.le_refl _)]; exact hp2, fun j y hj hy => by have := Dl hy; omega⟩ ?_
          rintro z σ H3 ⟨rfl, s3, m, hm1, hm2, hp3, hab⟩ hz
          rw [Xs hp3, Lu hm2] at hz
          k_is
          have hx1 : (way ds k)[m - 1]? = some ((way ds k)[m - 1]'(by omega)) := List.getElem?_eq_getElem _
          generalize (way ds k)[m - 1]'(by omega) = y at hx1
          refine Eb (SqL.of hp3) (Tl (by omega) hx1) ?_
          k_is
          refine B8 (fun h => ?_) (fun h => ?_)
          · have hm3 : 2 <= m := by
              by_cases e1 : m = 1
              · rw [e1, hw0] at hx1
                have := Option.some.inj hx1
                omega
              · omega
            refine Pn ?_
            k_is
            refine ⟨.inl ⟨rfl, _, SqL.of hp3⟩, ?_⟩
            refine ⟨p, _, .int y, rfl, rfl, hp3, ?_, ?_⟩
            · rw [Lu hm2, eF (n := y)]
              rw [List.getElem?_take_of_lt (by omega)]
              exact hx1
            k_is
            rw [gN hm2]
            refine ⟨⟨rfl, Cp s3 hp, m - 1, by omega, by omega, Ac, fun j y' hj hy' => ?_⟩, ?_⟩
            · by_cases ej : j = m - 1
              · rw [ej, hx1] at hy'
                rw [<- Option.some.inj hy']
                omega
              · exact hab j y' (by omega) hy'
            · rw [Xs Ac, Lu (by omega)]
              omega
          · k_is
            refine Eb (SqL.of hp3) (Tl (by omega) hx1) ?_
            k_is
            refine wP (fun hne => ?_) (fun hye => ?_)
            · k_is
              refine ⟨_, rfl, sm, out H3 s3 (.inr fun e' he hmem => ?_)⟩
              rw [hx] at he
              obtain rfl := V.int.inj (Option.some.inj he)
              obtain ⟨j, hj⟩ := List.getElem?_of_mem hmem
              have hye : y ≠ e := fun e1 => hne (congrArg V.int e1)
              by_cases h1 : m <= j
              · have := hab j e h1 hj
                omega
              · by_cases h2 : j = m - 1
                · rw [h2, hx1] at hj
                  exact hye (Option.some.inj hj)
                · have := Lj hD k j (m - 1) _ _ (by omega) (by omega) hj hx1
                  omega
            · obtain rfl : y = e := V.int.inj hye
              k_is
              refine ⟨.inl ⟨rfl, _, SqL.of hp3⟩, ?_⟩
              k_is
              refine Ex hp3 ?_ ?_
              · rw [Lu hm2]
                exact Ap (by have := P0 hD k (by omega); omega)
              k_is
              have hgd : (way ds k).getD (m - 1) 0 = y := by unfold List.getD; rw [hx1]; rfl
              refine ⟨⟨ds ++ [m - 1], _, _, rfl, Ga hD (by rw [hl]; omega), by rw [List.length_append, hl]; rfl, by omega, ?_, ?_⟩, Cp s3 hp⟩
              · rw [Nc hx, htk, Ee, hl, hgd, List.map_append]
                rfl
              · have e1 := Fm ds (m - 1)
                rw [hl] at e1
                rw [Ac, e1, show m - 1 + 1 = m by omega, List.map_append]
                rfl
      · rintro σ H1 ⟨⟨ds, v2, v3, rfl, hD, hl, hk4, htk, hp1⟩, s1⟩
        rw [List.take_of_length_le (Nat.le_refl _)] at htk
        k_is
        refine ⟨a, _, rfl, .inl (SqL.of (s1 _ _ ha)), fun l hl2 => ?_⟩
        refine q ds ⟨hD, by omega, htk⟩ l _ (s1.trans (Ah hl2)) (s1.free hl2) ?_
        rw [Ac, htk]
def Sd:Sp:=fun vs H Q _=>∃ (a:Addr) (ds:List Nat),vs=[.ref a]/\H a=some (.lst ((Az ds).map V.int))/\Dok ds/\ds.length<4000/\∀ l H',Ak H H'->H' l=some (.lst (nV ds))->Q (.ref l) H'
theorem T6 {ds:List Nat}{k:Nat}(hk:k<ds.length):nV (ds.take k)++[V.int (dAt ds k:Nat)]=nV (ds.take (k+1)):=by
 rw [List.take_add_one,List.getElem?_eq_getElem hk,<- tF]
 unfold dAt List.getD
 rw [List.getElem?_eq_getElem hk]
 rfl
theorem U9 {f:Addr}{fd:FuncData}(F:Fun K "depths_of" "depths_of" Kj f fd)(T:Txt K mg aB aC ah ad aa ac aj am ao aq ar au av aw ax ay az aA):Ax P w K mg base CX0 1 f fd ["elders"] Sd:=by
 refine F.ok Iy (fun vs H Q E h=>?_) (fun cdv A outer s H vs Q E hr h=>?_)
 ·obtain ⟨a,ds,rfl,_⟩:=h
  rfl
 ·obtain ⟨a,ds,rfl,ha,hD,hn,q⟩:=h
  refine ⟨_,(Ab (Am (i:=1) Iy.nd rfl (Or.inl rfl) (Bd Aa))
   (Ab (D0 PassesOwn.never rfl (Fa (pv 0)) (Bn (i:=2) Iy.nd rfl (Or.inl rfl))
   (Ag (Bj (Ey PySem.F.plainAttrs_list PySem.F.slot_list_append PySem.F.type_list_append De (pv 1) (Ad (Gm (An B7 (pv 2) (Dy Ch Af) (Au _)) Af (Aj Be (C3 Ci (pv 1) (pv 2) (fun _ _=>rfl)) Af)) Aa rfl)))))
   (Ag (Ao (pv 1))))),?_⟩
  k_is
  refine ⟨Nat.zero_le _,fun p hp=>?_⟩
  k_is
  have t0:=Ah (o:=.lst []) hp
  refine ⟨a,rfl,⟨_,SqL.of (t0 _ _ ha)⟩,?_⟩
  refine Mo (xs:=(Az ds).map V.int) (fun k σ H1=>(∃ v2:Option V,σ=[some (.ref a),some (.ref p),v2])/\H1 p=some (.lst (nV (ds.take k)))/\Ak H H1) ⟨⟨_,rfl⟩,Ac,t0⟩ (fun k σ H1 _ h=>SqL.of (h.2.2 _ _ ha)) ?_ ?_
  ·rintro k x σ H1 hx ⟨⟨v2,rfl⟩,hp1,s1⟩
   have hk:=Dl hx
   rw [List.length_map,Bv] at hk
   obtain ⟨e,he,rfl⟩:=cH hx
   rw [Hu hk] at he
   obtain rfl:=Option.some.inj he
   have hz:(nV (ds.take k)).length<sizeLine:=by
    rw [Ng,List.length_take]
    exact Ap (by omega)
   k_is
   refine ⟨.inl ⟨rfl,_,SqL.of hp1⟩,?_⟩
   k_is
   refine B8 (fun h=>?_) (fun h=>?_)
   ·have hd:=Uk hD hk (V.int.inj h)
    k_is
    refine Ex hp1 hz ?_
    k_is
    refine ⟨⟨_,rfl⟩,?_,Cp s1 hp⟩
    rw [Ac,<- T6 hk,hd]
    rfl
   ·obtain ⟨v,hv,hlt,hd⟩:=Hs hD hk (fun e=>h (congrArg V.int e))
    k_is
    rw [hv]
    refine Eb (SqL.of hp1) (v:=.int (dAt ds v:Nat)) ?_ ?_
    ·refine Bx (vJ ?_)
     rw [List.getElem?_take_of_lt hlt,List.getElem?_eq_getElem (by omega)]
     unfold dAt List.getD
     rw [List.getElem?_eq_getElem (by omega)]
     rfl
    k_is
    refine Ex hp1 hz ?_
    k_is
    refine ⟨⟨_,rfl⟩,?_,Cp s1 hp⟩
    rw [Ac,<- T6 hk,hd]
    rfl
  ·rintro σ H1 ⟨⟨v2,rfl⟩,hp1,s1⟩
   rw [List.length_map,Bv,List.take_of_length_le (Nat.le_refl _)] at hp1
   k_is
   exact q p H1 s1 hp1
theorem fJ (n:Nat):(List.replicate n [V.int 0]).flatten=(List.replicate n (0:Int)).map V.int:=by
 induction n with
 | zero=>rfl
 | succ n ih=>rw [List.replicate_succ,List.flatten_cons,ih,List.replicate_succ];rfl
def gsK (ds:List Nat)(k:Nat):List Nat:=(List.range (ds.length+1)).map fun j:Nat=>(C7 ds k ((j:Int)-1)).length
theorem Mb (ds:List Nat)(k:Nat):(gsK ds k).length=ds.length+1:=by unfold gsK;rw [List.length_map,List.length_range]
theorem Ue {ds:List Nat}{k j:Nat}(hj:j<ds.length+1):(gsK ds k)[j]?=some (C7 ds k ((j:Int)-1)).length:=by unfold gsK;rw [List.getElem?_map,List.getElem?_range hj];rfl
theorem nB (ds:List Nat):gsK ds 0=List.replicate (ds.length+1) 0:=by
 refine List.ext_getElem? fun j=>?_
 by_cases hj:j<ds.length+1
 ·rw [Ue hj,List.getElem?_replicate,if_pos hj];rfl
 ·rw [List.getElem?_eq_none (by rw [Mb];omega),List.getElem?_eq_none (by rw [List.length_replicate];omega)]
theorem oS (ds:List Nat):gsK ds ds.length=gsC ds:=by
 unfold gsK gsC
 rw [List.range_succ_eq_map,List.map_cons,List.map_map]
 refine congr (congrArg List.cons rfl) (List.map_congr_left fun j _=>?_)
 show (C7 ds ds.length (((j+1:Nat):Int)-1)).length=_
 rw [show (((j+1:Nat):Int)-1)=(j:Int) by omega]
theorem iW {ds:List Nat}{k e:Nat}(he:eld ds k=(e:Int)-1)(h1:e<ds.length+1):gsK ds (k+1)=(gsK ds k).set e ((C7 ds k ((e:Int)-1)).length+1):=by
 refine List.ext_getElem? fun j=>?_
 by_cases hj:j<ds.length+1
 ·rw [Ue hj,List.getElem?_set]
  by_cases hje:e=j
  ·subst hje
   rw [if_pos rfl,if_pos (by rw [Mb];exact h1),jO he,List.length_append]
   rfl
  ·rw [if_neg hje,Ue hj,oQ (by rw [he];omega)]
 ·rw [List.getElem?_eq_none (by rw [Mb];omega),List.getElem?_eq_none (by rw [List.length_set,Mb];omega)]
def Lm:Sp:=fun vs H Q _=>∃ (l:Addr) (ds:List Nat),vs=[.ref l]/\H l=some (.lst ((Az ds).map V.int))/\Dok ds/\ds.length<=4000/\∀ p H',Ak H H'->H p=none->H' p=some (.lst (nV (gsC ds)))->Q (.ref p) H'
theorem Ks {f : Addr}{fd : FuncData}(F : Fun K "children_counted" "children_counted" D1 f fd)(T : Txt K mg aB aC ah ad aa ac aj am ao aq ar au av aw ax ay az aA) : Ax P w K mg base CX0 1 f fd ["elders"] Lm := by
  refine F.ok Dq (fun vs H Q E h => ?_) (fun cdv A outer s H vs Q E hr h => ?_)
  · obtain ⟨l, ds, rfl, _⟩ := h
    rfl
  · obtain ⟨l, ds, rfl, hl, hD, hn, q⟩ := h
    have hel : ((Az ds).map V.int).length = ds.length := by unfold Az; rw [List.length_map, List.length_map, List.length_range]
    refine ⟨_, (Ab (Am (i := 1) Dq.nd rfl (Or.inl rfl) (Aj Pm (Bd (Ad Af Aa rfl)) (Aj Be (Ar Bk (by rfl) T.n_len Em (Ad (pv 0) Aa rfl)) Af)))
      (Ab (D0 PassesOwn.never rfl (Fa (pv 0)) (Bn (i := 2) Dq.nd rfl (Or.inl rfl))
      (Ag (dZ (pv 1) (Aj Be (pv 2) Af) Te Af Hv X2)))
      (Ag (Ao (pv 1))))), ?_⟩
    k_is
    refine ⟨few (by simp), fun p hp => ?_⟩
    have u0 := Ah (o := .lst [V.int 0]) hp
    k_is
    refine ⟨l, _, rfl, .inl (SqL.of (u0 _ _ hl)), ?_⟩
    k_is
    rw [hel]
    refine ⟨p, ((ds.length + 1 : Nat) : Int), _, rfl, rfl, Ac, by omega, by omega, Nat.le_of_lt (Ap (by simp; omega)), fun m hm => ?_⟩
    have u1 := u0.trans (Ah (o := .lst (List.replicate (((ds.length + 1 : Nat) : Int)).toNat [V.int 0]).flatten) hm)
    have hm0 : H m = none := u0.free hm
    have hM : (upd (upd H p (.lst [V.int 0])) m (.lst (List.replicate (((ds.length + 1 : Nat) : Int)).toNat [V.int 0]).flatten)) m = some (.lst (nV (gsK ds 0))) := by
      rw [Ac, Int.toNat_natCast, fJ, nB]
      unfold nV
      rw [List.map_replicate, List.map_replicate]
      rfl
    generalize (upd (upd H p (.lst [V.int 0])) m (.lst (List.replicate (((ds.length + 1 : Nat) : Int)).toNat [V.int 0]).flatten)) = H2 at *
    k_is
    refine ⟨l, rfl, ⟨_, SqL.of (u1 _ _ hl)⟩, ?_⟩
    refine Mo (xs := (Az ds).map V.int) (fun k σ H3 => (∃ v2 : Option V, σ = [some (.ref l), some (.ref m), v2])/\H3 m = some (.lst (nV (gsK ds k)))/\Ak H H3) ⟨⟨_, rfl⟩, hM, u1⟩ (fun k σ H3 _ h => SqL.of (h.2.2 _ _ hl)) ?_ ?_
    · rintro k x σ H3 hx ⟨⟨v2, rfl⟩, hm3, s3⟩
      obtain ⟨n, hn2, rfl⟩ := cH hx
      have hk : k < ds.length := by have := Dl hn2; unfold Az at this; rwa [List.length_map, List.length_range] at this
      obtain rfl : eld ds k = n := by
        unfold Az at hn2
        rw [List.getElem?_map, List.getElem?_range hk] at hn2
        exact Option.some.inj hn2
      have h1 := kU hD hk
      have h2 := kX hD hk
      obtain ⟨e, he⟩ : ∃ e : Nat, eld ds k = (e : Int) - 1 := ⟨(eld ds k + 1).toNat, by omega⟩
      have he1 : e < ds.length + 1 := by omega
      have hix : eld ds k + 1 = (e : Int) := by omega
      k_is
      rw [hix]
      refine Eb (SqL.of hm3) (v := .int ((C7 ds k ((e : Int) - 1)).length : Nat)) (Bx (by unfold nV; rw [List.getElem?_map, Ue he1]; rfl)) ?_
      k_is
      refine jS hm3 rfl (by rw [Ng, Mb]; exact he1) ?_
      refine ⟨⟨_, rfl⟩, ?_, Cp s3 hm0⟩
      rw [Ac, iW he he1]
      unfold nV
      rw [List.map_set]
      rfl
    · rintro σ H3 ⟨⟨v2, rfl⟩, hm3, s3⟩
      rw [hel, oS] at hm3
      k_is
      exact q m H3 s3 hm0 hm3
theorem Py {f:Addr}{fd:FuncData}(F:Fun K "counted_row" "counted_row" Fd f fd)(T:Txt K mg aB aC ah ad aa ac aj am ao aq ar au av aw ax ay az aA):Ax P w K mg base CX0 1 f fd ["many"] R0:=by
 refine F.ok Se (fun vs H Q E h=>?_) (fun cdv A outer s H vs Q E hr h=>?_)
 ·obtain ⟨l,ns,rfl,_⟩:=h
  rfl
 ·obtain ⟨l,ns,rfl,hl,hn,q⟩:=h
  refine ⟨_,(Ag (Ao (Ey PySem.F.plainAttrs_str PySem.F.slot_str_join PySem.F.type_str_join Uw As (Ad (Oa rfl M2 (Fa (pv 0)) (fun _ _ _ _=>Dg) (fun _ _ _ _=>(Aj Pr (Aj nM As (pv 0)) As))) Aa rfl)))),?_⟩
  k_is
  refine ⟨rfl,?_⟩
  k_is
  refine ⟨_,rfl,⟨_,SqL.of hl⟩,?_⟩
  refine Mr (xs:=nV ns) (SqL.of hl) (fun i=>(ns.take i).map fun n=>V.str (Aw (List.replicate n true++[false]))) rfl (fun i hi=>?_) (fun i x H1 R A hx s1 _ hA=>?_) (fun D H1 hD s1 h1=>?_)
  ·rw [List.length_map,List.length_take]
   exact Ap (by omega)
  ·obtain ⟨n,hn1,rfl⟩:=cO hx
   have hns:=P7 hn1
   k_is
   refine ⟨"1",(n:Int),rfl,rfl,by omega,by omega,?_,few (by decide),?_⟩
   ·exact Nat.le_of_lt (Ap (by rw [show ("1":Str).length=1 by rfl];omega))
   have e0:Vb ("1":Str) ((n:Int)).toNat=Aw (List.replicate n true):=by
    rw [Int.toNat_natCast]
    exact fN true _
   rw [e0]
   k_is
   have e1:Aw (List.replicate n true)++("0":Str)=Aw (List.replicate n true++[false]):=L6 (List.replicate n true) [false]
   refine ⟨_,"0",rfl,rfl,?_,?_⟩
   ·rw [A5,List.length_replicate]
    exact Nat.le_of_lt (Ap (by rw [show ("0":Str).length=1 by rfl];omega))
   rw [e1]
   refine hA _ _ ?_ (Ak.refl _)
   rw [List.take_add_one,hn1,List.map_append]
   rfl
  ·k_is
   refine mV (ls:=ns.map fun n=>List.replicate n true++[false]) ?_ ?_ (q _ s1)
   ·rw [h1,Ng,List.take_of_length_le (Nat.le_refl _),List.map_map]
    rfl
   ·show (grB ns).length<=_
    rw [O2]
    omega
theorem Rl:∀ {ns:List Int} {x:Int},x∈ns->∃ j:Nat,ns[j]?=some x/\∀ i:Nat,i<j->ns[i]?≠some x
 | y::ns,x,h=>by
  by_cases e:y=x
  ·exact ⟨0,by rw [e];rfl,fun i hi=>absurd hi (Nat.not_lt_zero _)⟩
  ·obtain ⟨j,h1,h2⟩:=Rl (List.mem_of_ne_of_mem (fun z=>e z.symm) h)
   refine ⟨j+1,h1,fun i hi=>?_⟩
   cases i with
   | zero=>exact fun z=>e (Option.some.inj z)
   | succ i=>exact h2 i (by omega)
def Y0:Sp:=fun vs H Q _=>∃ (l:Addr) (ds:List Nat),vs=[.ref l]/\H l=some (.lst (nV ds))/\ds.length<=4000/\∀ (r:Nat) H',r<16->Ak H H'->Q (.int r) H'
theorem Wl {f:Addr}{fd:FuncData}(F:Fun K "thin_rest" "thin_rest" Js f fd)(T:Txt K mg aB aC ah ad aa ac aj am ao aq ar au av aw ax ay az aA):Ax P w K mg base CX0 1 f fd ["depths"] Y0:=by
 refine F.ok Iq (fun vs H Q E h=>?_) (fun cdv A outer s H vs Q E hr h=>?_)
 ·obtain ⟨l,ds,rfl,_⟩:=h
  rfl
 ·obtain ⟨l,ds,rfl,hl,hn,q⟩:=h
  refine ⟨_,(Ab (Am (i:=1) Iq.nd rfl (Or.inl rfl) (Aj Pm (Bd (Ad Af Aa rfl)) (Ba rfl T.g_MARK_STEP)))
   (Ab (D0 PassesOwn.never rfl (Fa (pv 0)) (Bn (i:=2) Iq.nd rfl (Or.inl rfl))
   (Ag (dZ (pv 1) (Aj Ca (pv 2) (Ba rfl T.g_MARK_STEP)) Te Af Hv X2)))
   (Ag (Ao (Ey PySem.F.plainAttrs_list PySem.F.slot_list_index PySem.F.type_list_index Wz (pv 1) (Ad (Ar (S3 rfl) (by rfl) T.n_min Xc (Ad (pv 1) Aa rfl)) Aa rfl)))))),?_⟩
  k_is
  refine ⟨few (by simp),fun p hp=>?_⟩
  have u0:=Ah (o:=.lst [V.int 0]) hp
  k_is
  refine ⟨p,16,_,rfl,rfl,Ac,by omega,by omega,Nat.le_of_lt (Ap (by decide)),fun m hm=>?_⟩
  have u1:=u0.trans (Ah (o:=.lst (List.replicate (16:Int).toNat [V.int 0]).flatten) hm)
  have hm0:H m=none:=u0.free hm
  have hM:(upd (upd H p (.lst [V.int 0])) m (.lst (List.replicate (16:Int).toNat [V.int 0]).flatten)) m=some (.lst (nV (List.replicate 16 0))):=by
   rw [Ac]
   rfl
  generalize (upd (upd H p (.lst [V.int 0])) m (.lst (List.replicate (16:Int).toNat [V.int 0]).flatten))=H2 at *
  k_is
  refine ⟨l,rfl,⟨_,SqL.of (u1 _ _ hl)⟩,?_⟩
  refine Mo (xs:=nV ds) (fun k σ H3=>(∃ v2:Option V,σ=[some (.ref l),some (.ref m),v2])/\(∃ cs:List Nat,cs.length=16/\H3 m=some (.lst (nV cs)))/\Ak H H3) ⟨⟨_,rfl⟩,⟨_,List.length_replicate,hM⟩,u1⟩ (fun k σ H3 _ h=>SqL.of (h.2.2 _ _ hl)) ?_ ?_
  ·rintro k x σ H3 hx ⟨⟨v2,rfl⟩,⟨cs,hc,hm3⟩,s3⟩
   obtain ⟨n,hn2,rfl⟩:=cO hx
   k_is
   rw [show ((n:Int)%16)=((n%16:Nat):Int) by omega]
   have hlt:n%16<cs.length:=by omega
   refine Eb (SqL.of hm3) (v:=.int (cs[n%16]:Nat)) (Bx (by unfold nV;rw [List.getElem?_map,List.getElem?_eq_getElem hlt];rfl)) ?_
   k_is
   refine jS hm3 rfl (by rw [Ng];exact hlt) ?_
   refine ⟨⟨_,rfl⟩,⟨cs.set (n%16) (cs[n%16]+1),by rw [List.length_set];exact hc,?_⟩,Cp s3 hm0⟩
   rw [Ac]
   unfold nV
   rw [List.map_set]
   rfl
  ·rintro σ H3 ⟨⟨v2,rfl⟩,⟨cs,hc,hm3⟩,s3⟩
   k_is
   refine ⟨.inl ⟨rfl,_,SqL.of hm3⟩,?_⟩
   k_is
   have hm4:=hm3
   rw [dY] at hm4
   refine ⟨m,_,rfl,SqL.of hm4,fun z=>?_,fun x hx=>?_⟩
   ·have:=congrArg List.length z
    rw [List.length_map,hc] at this
    cases this
   ·k_is
    obtain ⟨j,hj,hno⟩:=Rl hx.1
    refine ⟨m,_,x,j,rfl,rfl,hm4,hj,hno,?_⟩
    have:=Dl hj
    rw [List.length_map,hc] at this
    exact q j H3 this s3
def P6:Sp:=fun vs H Q _=>∃ (a:Addr) (ds:List Nat),vs=[.ref a]/\H a=some (.lst ((Az ds).map V.int))/\Dok ds/\ds.length<4000/\∀ p kvs H',Ak H H'->H p=none->H' p=some (.dK kvs)->Q (.ref p) H'
def Sm (n:Nat)(H:Hp)(zs:List V):Prop:=∃ (as:List Addr) (ks:List Int) (ys:List V),zs=as.map V.ref/\qL H as ks ys/\as.length<=n
theorem Sm.same {n:Nat}{H H':Hp}{zs:List V}(s:Ak H H')(h:Sm n H zs):Sm n H' zs:=by
 obtain ⟨as,ks,ys,e,⟨h1,h2,h3⟩,hn⟩:=h
 exact ⟨as,ks,ys,e,⟨h1,h2,fun i a k y e1 e2 e3=>s _ _ (h3 i a k y e1 e2 e3)⟩,hn⟩
theorem Sm.but {n:Nat}{H:Hp}{D:Addr}{us:List V}{o:HO}{zs:List V}(hd:H D=some (.lst us))(h:Sm n H zs):Sm n (upd H D o) zs:=by
 obtain ⟨as,ks,ys,e,⟨h1,h2,h3⟩,hn⟩:=h
 refine ⟨as,ks,ys,e,⟨h1,h2,fun i a k y e1 e2 e3=>?_⟩,hn⟩
 have:=h3 i a k y e1 e2 e3
 rw [Al (fun z=>by rw [z,hd] at this;cases this)]
 exact this
theorem Sm.more {n:Nat}{H:Hp}{zs:List V}(h:Sm n H zs){t:Addr}{k:Int}{y:V}(ht:H t=some (.tup [.int k,y])):Sm (n+1) H (zs++[.ref t]):=by
 obtain ⟨as,ks,ys,rfl,⟨h1,h2,h3⟩,hn⟩:=h
 refine ⟨as++[t],ks++[k],ys++[y],by rw [List.map_append];rfl,⟨by rw [List.length_append,List.length_append,h1];rfl,by rw [List.length_append,List.length_append,h2];rfl,fun i a k' y' e1 e2 e3=>?_⟩,by rw [List.length_append];simpa using hn⟩
 by_cases hi:i<as.length
 ·rw [List.getElem?_append_left hi] at e1
  rw [List.getElem?_append_left (by omega)] at e2 e3
  exact h3 i a k' y' e1 e2 e3
 ·have hi2:i=as.length:=by have:=Dl e1;rw [List.length_append] at this;simp at this;omega
  rw [List.getElem?_append_right (by omega),hi2,Nat.sub_self] at e1
  rw [List.getElem?_append_right (by omega),show i-ks.length=0 by omega] at e2
  rw [List.getElem?_append_right (by omega),show i-ys.length=0 by omega] at e3
  rw [<- Option.some.inj e1,<- Option.some.inj e2,<- Option.some.inj e3]
  exact ht
theorem Xp:∀ (ks:List Int) (ys:List V) (kvs:List (Key×V)),(Vm kvs ks ys).length<=kvs.length+ks.length
 | [],ys,kvs=>by cases ys<;>exact Nat.le_refl _
 | k::ks,[],kvs=>Nat.le_add_right _ _
 | k::ks,y::ys,kvs=>by
  have h1:=Xp ks ys (Xk kvs (.inl k) y)
  have h2:=Xl kvs (.inl k:Key) y
  show (Vm (Xk kvs (.inl k) y) ks ys).length<=_
  rw [List.length_cons]
  omega
theorem Mw {f : Addr}{fd : FuncData}(F : Fun K "marked_depths" "marked_depths" Dz f fd)(T : Txt K mg aB aC ah ad aa ac aj am ao aq ar au av aw ax ay az aA)(bN : Cal P w K mg base "depths_of" 1 ["elders"] Sd)(bO : Cal P w K mg base "thin_rest" 1 ["depths"] Y0) : Ax P w K mg base CX0 2 f fd ["elders"] P6 := by
  refine F.ok E5 (fun vs H Q E h => ?_) (fun cdv A outer s H vs Q E hr h => ?_)
  · obtain ⟨a, ds, rfl, _⟩ := h
    rfl
  · obtain ⟨a, ds, rfl, ha, hD, hn, q⟩ := h
    refine ⟨_, (Ab (Am (i := 1) E5.nd rfl (Or.inl rfl) (A4 bN (hr.mono (by decide : 1 <= _)) (Ad (pv 0) Aa rfl)))
      (Ab (Am (i := 2) E5.nd rfl (Or.inr rfl) (A4 bO (hr.mono (by decide : 1 <= _)) (Ad (pv 1) Aa rfl)))
      (Ag (Ao (Di (Yw rfl) (by rfl) T.n_dict rR (Ad (sN rfl Lo (Pg rfl T.n_enumerate (Ad (pv 1) Aa rfl)) (fun _ _ _ _ => eN (An B7 (Aj Ca (pv 1) (Ba rfl T.g_MARK_STEP)) (pv 2) (Au _))) (fun _ _ _ _ => (Gh (Ad (pv 0) (Ad (pv 1) Aa rfl) rfl)))) Aa rfl)))))), ?_⟩
    k_is
    refine ⟨a, ds, rfl, ha, hD, hn, fun l H1 s1 hl => ?_⟩
    k_is
    refine ⟨l, ds, rfl, hl, by omega, fun r H2 hr2 s2 => ?_⟩
    k_is
    have hl2 := s2 _ _ hl
    refine ⟨l, rfl, ⟨_, SqL.of hl2⟩, ?_⟩
    refine jL (SqL.of hl2) (fun D i zs H3 => Sm i H3 zs) (fun D H3 _ _ => ⟨[], [], [], rfl, ⟨rfl, rfl, fun i a k y e => by cases e⟩, Nat.zero_le _⟩) (fun D i zs H3 us o hD3 h => h.but hD3) (fun D i zs H3 hi h => ?_) (fun D i zs H3 H4 s4 h => h.same s4) (fun D i zs x H3 A R hx s3 hD1 hD3 hM hR hA => ?_) (fun D zs H3 hD1 s3 hM hD3 => ?_)
    · obtain ⟨as, ks, ys, rfl, _, hle⟩ := h
      rw [Ng] at hi
      rw [List.length_map]
      exact Ap (by omega)
    · obtain ⟨n, hn2, rfl⟩ := cO hx
      k_is
      refine B8 (fun _ => ?_) (fun _ => ?_)
      · k_is
        refine ⟨few (by simp), fun t ht => ?_⟩
        refine hA _ _ (Ah ht) ?_
        exact (hM.same (Ah ht)).more Ac
      · refine hR _ (Ak.refl _) ?_
        obtain ⟨as, ks, ys, e, h1, h2⟩ := hM
        exact ⟨as, ks, ys, e, h1, by omega⟩
    · obtain ⟨as, ks, ys, rfl, h1, hle⟩ := hM
      k_is
      have sm := (s1.trans s2).trans s3
      refine ⟨D, as, ks, ys, rfl, hD3, h1, ?_, fun p hp => ?_⟩
      · have := Xp ks ys []
        simpa using this
      · exact q p _ _ (sm.trans (Ah hp)) (sm.free hp) Ac
def F6 (ds:List Nat):List Bool:=true::grB (gsC ds)
theorem Md {ds:List Nat}(h:Dok ds):(gsC ds).sum=ds.length:=Yt h
theorem Pw {ds:List Nat}(h:Dok ds):(F6 ds).length=2*ds.length+2:=by
 unfold F6
 rw [List.length_cons,O2,Md h,Ir]
 omega
theorem pK {ds:List Nat}(h:Dok ds):Vs 0 (F6 ds):=S4 (uG h)
def cK (n:Nat):List (Str×V):=[("knots",.int n)]
def Y1 (n:Nat)(p:V):List (Str×V):=[("knots",.int n),("pairs",p)]
def cFs (n:Nat)(p m:V):List (Str×V):=[("knots",.int n),("pairs",p),("marks",m)]
def By (K:PySem.W.Frag)(CB CC CP CD:Addr)(H:Hp)(x:Addr)(ds:List Nat):Prop:=∃ (dx p:Addr) (m:V),H x=some (.ins CD dx (cFs ds.length (.ref p) m))/\Dd K CB CC CP H p (F6 ds)/\Dok ds/\ds.length<4000
theorem By.same {K:PySem.W.Frag}{CB CC CP CD:Addr}{H H':Hp}{x:Addr}{ds:List Nat}(h:By K CB CC CP CD H x ds)(s:Ak H H'):By K CB CC CP CD H' x ds:=by
 obtain ⟨dx,p,m,h1,h2,h3⟩:=h
 exact ⟨dx,p,m,s _ _ h1,h2.same s,h3⟩
theorem N3 {K:PySem.W.Frag}{CB CC CP C x dx p:Addr}{H H':Hp}{l:List Bool}{fs:List (Str×V)}(s:SameBut x H H')(hx:H x=some (.ins C dx fs))(hf:fs.length<3)(h:Dd K CB CC CP H p l):Dd K CB CC CP H' p l:=by
 obtain ⟨d,b,c,t,o,h1,h2,h3,h4,h5⟩:=h
 have ne:∀ {y C' d':Addr} {gs:List (Str×V)},H y=some (.ins C' d' gs)->3<=gs.length->y≠x:=fun hy hg e=>by
  rw [e,hx] at hy
  cases hy
  omega
 refine ⟨d,b,c,t,o,s _ _ (ne h1 (show 3<=5 by decide)) h1,Gi s (Ea hx) ?_ h2,Ic s (Ea hx) ?_ h3,h4.keep (fun y xs e=>s _ _ (fun z=>by rw [z,hx] at e;cases e) e),h5⟩
 ·obtain ⟨d2,t2,k,_⟩:=h2
  exact ne k (Nat.le_refl 3)
 ·obtain ⟨d2,t2,u2,k,_⟩:=h3
  exact ne k (Nat.le_refl 3)
def O7 (K:PySem.W.Frag)(CB CC CP CD CW:Addr):Sp:=fun vs H Q E=>∃ (x dx:Addr) (v:V) (o:Option (List V)),vs=[.ref x,v]/\H x=some (.ins CD dx [])/\ThA K H v o/\(∀ ds,K4 o ds->ds.length<4000)/\(∀ ds,K4 o ds->∀ H',SameBut x H H'->By K CB CC CP CD H' x ds->Q .non H')/\rT CW H E o
theorem Qz {f : Addr}{fd : FuncData}(F : Fun K "__init__" "Counted.__init__" Go f fd)(T : Txt K mg aB aC ah ad aa ac aj am ao aq ar au av aw ax ay az aA)(Z : Qa K af)(bP : Yu P w K mg base "look_at" 3 ["elders"] (Wm K ac))(bQ : Mkr P w K mg base "Pairs" ag 7 ["self", "text"] (Up K ai ae ag))
    (bR : Cal P w K mg base "counted_row" 1 ["many"] R0)(bS : Cal P w K mg base "children_counted" 1 ["elders"] Lm)(bT : Cal P w K mg base "marked_depths" 2 ["elders"] P6) : Ax P w K mg base (CXE P w) 9 f fd ["self", "elders"] (O7 K ai ae ag af ac) := by
  refine F.okE Jf (fun vs H Q E h => ?_) (fun cdv A outer s H vs Q E hr h => ?_)
  · obtain ⟨x, dx, v, o, rfl, _⟩ := h
    rfl
  · obtain ⟨x, dx, v, o, rfl, hx, hT, hsm, q, qe⟩ := h
    refine ⟨_, (Ab (Am (i := 2) Jf.nd rfl (Or.inl rfl) (Lg bP (hr.mono (by decide : 3 <= _)) (Cb rfl) (Ad (pv 1) Aa rfl)))
      (Ab (Er (pv 0) (Ar Bk (by rfl) T.n_len Em (Ad (pv 2) Aa rfl)) rfl)
      (Ab (Er (pv 0) (jC bQ (hr.mono (by decide : 8 <= _)) (Ad (Aj Pr As (A4 bR (hr.mono (by decide : 1 <= _)) (Ad (A4 bS (hr.mono (by decide : 1 <= _)) (Ad (pv 2) Aa rfl)) Aa rfl))) Aa rfl)) rfl)
      (Ag (Er (pv 0) (A4 bT (hr.mono (by decide : 2 <= _)) (Ad (pv 2) Aa rfl)) rfl))))), ?_⟩
    k_is
    refine ⟨v, o, rfl, hT, fun ds hG l H1 s1 _ hl => ?_, qe⟩
    have q := q ds hG
    have hn := hsm ds hG
    have hD : Dok ds := by
      cases o with
      | some xs => exact hG.1
      | none => exact hG.elim
    have hx1 := s1 _ _ hx
    k_is
    refine ⟨l, _, rfl, .inl (SqL.of hl), ?_⟩
    rw [List.length_map, Bv]
    k_is
    refine C8 hx1 Z.cl Z.n_knots (show 0 < 1000 by decide) ?_
    rw [show Fj ("knots" : Str) (V.int (ds.length : Nat)) [] = (cK ds.length) from rfl]
    have hx2 : upd H1 x (.ins af dx (cK ds.length)) x = some (.ins af dx (cK ds.length)) := Ac
    have lx : l ≠ x := fun e => by rw [e, hx1] at hl; cases hl
    have b2 : SameBut x H (upd H1 x (.ins af dx (cK ds.length))) := s1.but.trans A7
    have hl2 : upd H1 x (.ins af dx (cK ds.length)) l = some (.lst ((Az ds).map V.int)) := by rw [Al lx]; exact hl
    generalize upd H1 x (.ins af dx (cK ds.length)) = H2 at *
    k_is
    refine ⟨l, ds, rfl, hl2, hD, by omega, fun g H3 s3 hg0 hg => ?_⟩
    k_is
    refine ⟨g, gsC ds, rfl, hg, by rw [Md hD, Ir]; omega, fun H4 s4 => ?_⟩
    k_is
    refine ⟨_, _, rfl, rfl, ?_, ?_⟩
    · exact Nat.le_of_lt (Ap (by rw [A5, O2, Md hD, Ir, show ("1" : Str).length = 1 from rfl]; omega))
    rw [show ("1" : Str) ++ Aw (grB (gsC ds)) = Aw (F6 ds) from L6 [true] _]
    k_is
    have s34 := s3.trans s4
    intro p dp hp hdp hpd
    refine ⟨p, dp, F6 ds, rfl, Ac, pK hD, by rw [Pw hD]; omega, fun H5 s5 hP5 => ⟨rfl, ?_⟩⟩
    have s5 := Ht hp hdp s5
    have s25 := s34.trans s5
    have hx5 := s25 _ _ hx2
    have hl5 := s25 _ _ hl2
    have b5 := b2.trans s25.but
    k_is
    refine C8 hx5 Z.cl Z.n_pairs (show 1 < 1000 by decide) ?_
    rw [show Fj ("pairs" : Str) (V.ref p) (cK ds.length) = Y1 ds.length (.ref p) from rfl]
    have hx6 : upd H5 x (.ins af dx (Y1 ds.length (.ref p))) x = some (.ins af dx (Y1 ds.length (.ref p))) := Ac
    have b6 : SameBut x H5 (upd H5 x (.ins af dx (Y1 ds.length (.ref p)))) := A7
    have hl6 : upd H5 x (.ins af dx (Y1 ds.length (.ref p))) l = some (.lst ((Az ds).map V.int)) := by rw [Al lx]; exact hl5
    have hP6 := N3 b6 hx5 (show 1 < 3 by decide) hP5
    have b26 := b5.trans b6
    generalize upd H5 x (.ins af dx (Y1 ds.length (.ref p))) = H6 at *
    k_is
    refine ⟨l, ds, rfl, hl6, hD, hn, fun m kvs H7 s7 hm0 hm => ?_⟩
    have hx7 := s7 _ _ hx6
    k_is
    refine C8 hx7 Z.cl Z.n_marks (show 2 < 1000 by decide) ?_
    rw [show Fj ("marks" : Str) (V.ref m) (Y1 ds.length (.ref p)) = cFs ds.length (.ref p) (.ref m) from rfl]
    exact q _ ((b26.trans s7.but).trans A7) ⟨dx, p, _, Ac, N3 A7 hx7 (show 2 < 3 by decide) (hP6.same s7), hD, hn⟩
def Zy (K:PySem.W.Frag)(CB CC CP CD:Addr):Sp:=fun vs H Q _=>∃ (x:Addr) (ds:List Nat),vs=[.ref x]/\By K CB CC CP CD H x ds/\∀ H',Ak H H'->Q (.str (Aw (grB (gsC ds)))) H'
theorem Q8 {f:Addr}{fd:FuncData}(F:Fun K "row" "Counted.row" G3 f fd)(T:Txt K mg aB aC ah ad aa ac aj am ao aq ar au av aw ax ay az aA)(Z:Qa K af)(bU:Mth P w K mg base ag "text" 7 ["self"] (U3 K ai ae ag)):Ax P w K mg base CX0 8 f fd ["self"] (Zy K ai ae ag af):=by
 refine F.ok Sf (fun vs H Q E h=>?_) (fun cdv A outer s H vs Q E hr h=>?_)
 ·obtain ⟨x,l,rfl,_⟩:=h
  rfl
 ·obtain ⟨x,ds,rfl,⟨dx,p,m,hx,hP,hD,hn⟩,q⟩:=h
  refine ⟨_,(Ag (Ao (Ce Wk (P4 bU (hr.mono (by decide:7<=_)) (Bh (pv 0) rfl)) (Bw Af) G0))),?_⟩
  k_is
  refine ⟨x,af,dx,_,_,rfl,hx,Z.cl,Z.n_pairs,rfl,?_⟩
  obtain ⟨dp,b,c,t,o,hp,_⟩:=id hP
  k_is
  refine ⟨p,dp,_,rfl,hp,rfl,?_⟩
  k_is
  refine ⟨p,F6 ds,rfl,hP,fun H1 s1=>?_⟩
  k_is
  refine ⟨_,rfl,Nat.le_of_lt (Ap (by rw [A5,Pw hD];omega)),?_⟩
  have ec:Vw (Aw (F6 ds)) (some 1) none=Aw (grB (gsC ds)):=by
   have h1:=Ko (F6 ds) 1 (F6 ds).length
   rw [List.take_of_length_le (by rw [List.length_drop];exact Nat.le_refl _)] at h1
   rw [<- show (F6 ds).drop 1=grB (gsC ds) from rfl,<- h1]
   unfold Vw
   rw [HT.sIx_nat,show (Aw (F6 ds)).cps.size=(F6 ds).length from A5 _,Nat.min_self]
   rfl
  k_is
  rw [ec]
  exact q H1 s1
def wt (ds:List Nat)(k:Nat):List Int:=((way ds k).map fun x=>List.replicate (Jj ds k x) x).flatten
theorem eX (ds:List Nat):wt ds 0=List.replicate (C7 ds ds.length (-1)).length (-1):=by
 show (List.replicate (Jj ds 0 (-1)) (-1:Int))++[]=_
 rw [List.append_nil,gF]
theorem eT {ds:List Nat}(h:Dok ds){k:Nat}(hk:k<ds.length):∃ B:List Int,wt ds k=B++[eld ds k]/\wt ds (k+1)=B++List.replicate (C7 ds ds.length k).length (k:Int):=by
 have ea:=Jy h hk
 have ew:way ds (k+1)=(way ds k).take (dAt ds k)++[eld ds k]++[(k:Int)]:=by
  show (way ds k).take (dAt ds k+1)++[(k:Int)]=_
  rw [List.take_add_one,ea]
  rfl
 have ew0:way ds k=(way ds k).take (dAt ds k)++[eld ds k]++(way ds k).drop (dAt ds k+1):=by
  have:=(List.take_append_drop (dAt ds k+1) (way ds k)).symm
  rw [List.take_add_one,ea] at this
  exact this
 have em:((way ds k).take (dAt ds k)).map (fun x=>List.replicate (Jj ds (k+1) x) x)=((way ds k).take (dAt ds k)).map (fun x=>List.replicate (Jj ds k x) x):=List.map_congr_left fun x hx=>by
  obtain ⟨i,hi⟩:=List.mem_iff_getElem?.mp hx
  have hil:i<dAt ds k:=by
   have:=(List.getElem?_eq_some_iff.mp hi).1
   rw [List.length_take] at this
   omega
  rw [List.getElem?_take_of_lt hil] at hi
  have:=Lj h k i (dAt ds k) _ _ (by omega) hil hi ea
  rw [Tx hk x,if_neg (by omega)]
  rfl
 have ed:(((way ds k).drop (dAt ds k+1)).map (fun x=>List.replicate (Jj ds k x) x)).flatten=[]:=by
  rw [List.flatten_eq_nil_iff]
  intro l hl
  obtain ⟨x,hx,rfl⟩:=List.mem_map.mp hl
  obtain ⟨i,hi⟩:=List.mem_iff_getElem?.mp hx
  rw [List.getElem?_drop] at hi
  rw [kE h hk hi (by omega)]
  rfl
 have hs:=Tx hk (eld ds k)
 rw [if_pos rfl] at hs
 refine ⟨(((way ds k).take (dAt ds k)).map (fun x=>List.replicate (Jj ds k x) x)).flatten++List.replicate (Jj ds (k+1) (eld ds k)) (eld ds k),?_,?_⟩
 ·unfold wt
  rw [ew0,List.map_append,List.map_append,List.flatten_append,List.flatten_append,ed,List.append_nil,List.append_assoc]
  rw [<- ew0]
  congr 1
  show List.replicate (Jj ds k (eld ds k)) (eld ds k)++[]=_
  rw [List.append_nil,hs,List.replicate_succ']
 ·unfold wt
  rw [ew,List.map_append,List.map_append,List.flatten_append,List.flatten_append,em]
  congr 1
  ·congr 1
   show _++[]=_
   rw [List.append_nil]
  ·show List.replicate (Jj ds (k+1) k) (k:Int)++[]=_
   rw [List.append_nil,hU h]
theorem lG {ds:List Nat}(h:Dok ds):∀ k,k<=ds.length->(wt ds k).length+k=((gsC ds).take (k+1)).sum
 | 0,_=>by
  rw [eX,List.length_replicate]
  unfold gsC
  simp
 | k+1,hk=>by
  obtain ⟨B,e1,e2⟩:=eT h (show k<ds.length by omega)
  have ih:=lG h k (by omega)
  rw [e1,List.length_append] at ih
  rw [e2,List.length_append,List.length_replicate,List.take_add_one,Y4 (show k<ds.length by omega),List.sum_append]
  simp at ih ⊢
  omega
theorem W2 (ns:List Nat)(k:Nat):(ns.take k).sum<=ns.sum:=by
 have:=congrArg List.sum (List.take_append_drop k ns)
 rw [List.sum_append] at this
 omega
def Nq (K:PySem.W.Frag)(CB CC CP CD:Addr):Sp:=fun vs H Q _=>∃ (x:Addr) (ds:List Nat),vs=[.ref x]/\By K CB CC CP CD H x ds/\∀ p H',Ak H H'->H p=none->H' p=some (.lst ((Az ds).map V.int))->Q (.ref p) H'
theorem Qr {f : Addr}{fd : FuncData}(F : Fun K "elders" "Counted.elders" Dh f fd)(T : Txt K mg aB aC ah ad aa ac aj am ao aq ar au av aw ax ay az aA)(Z : Qa K af)(bV : Mth P w K mg base af "row" 8 ["self"] (Zy K ai ae ag af)) : Ax P w K mg base CX0 9 f fd ["self"] (Nq K ai ae ag af) := by
  refine F.ok Cd (fun vs H Q E h => ?_) (fun cdv A outer s H vs Q E hr h => ?_)
  · obtain ⟨x, l, rfl, _⟩ := h
    rfl
  · obtain ⟨x, ds, rfl, hC, q⟩ := h
    obtain ⟨dx, p, m, hx, hP, hD, hn⟩ := id hC
    refine ⟨_, (Ab (Mj (i := 1) rfl Kx Cd.nd rfl rfl (Fa (Ey PySem.F.plainAttrs_str PySem.F.slot_str_split PySem.F.type_str_split fK (P4 bV (hr.mono (by decide : 8 <= _)) (pv 0)) (Ad As Aa rfl))) (fun _ _ _ _ => Dg) (fun _ _ _ _ => (Ar Cs (by rfl) T.n_len Em (Ad (pv 0) Aa rfl))))
      (Ab (Am (i := 2) Cd.nd rfl (Or.inl rfl) (Bd Aa))
      (Ab (Am (i := 3) Cd.nd rfl (Or.inl rfl) (Aj Pm (Bd (Ad (Dy Ch Af) Aa rfl)) (C3 Ci (pv 1) Af (fun _ _ => rfl))))
      (Ab (D0 PassesOwn.never rfl (F7 rfl T.n_range (Ad (Bh (pv 0) rfl) Aa rfl)) (Bn (i := 4) Cd.nd rfl (Or.inl rfl))
      (Ab (Bj (Ey PySem.F.plainAttrs_list PySem.F.slot_list_append PySem.F.type_list_append De (pv 2) (Ad (lW PySem.F.plainAttrs_list PySem.F.slot_list_pop PySem.F.type_list_pop lQ (pv 3)) Aa rfl)))
      (Ag (Bj (Ey PySem.F.plainAttrs_list PySem.F.slot_list_extend PySem.F.type_list_extend gA (pv 3) (Ad (Aj Pm (Bd (Ad (pv 4) Aa rfl)) (C3 Ci (pv 1) (Aj Be (pv 4) Af) (fun _ _ => rfl))) Aa rfl))))))
      (Ag (Ao (pv 2))))))), ?_⟩
    k_is
    refine ⟨x, dx, _, rfl, hx, rfl, ?_⟩
    k_is
    refine ⟨x, ds, rfl, hC, fun H1 s1 => ?_⟩
    have hs0 := Md hD
    have hl0 := Ir ds
    have es : Txt.split (Aw (grB (gsC ds))) ("0" : Str) = ((gsC ds).map fun n => (⟨(List.replicate n 49).toArray⟩ : Str)) ++ [⟨#[]⟩] := by
      rw [oJ]
      exact Uf (gsC ds)
    k_is
    refine ⟨rfl, ?_⟩
    refine ⟨_, _, rfl, rfl, rfl, ?_, fun D hD0 => ?_⟩
    · rw [A5, O2]
      omega
    rw [es]
    have s2 := s1.trans (Ah (o := .lst ((((gsC ds).map fun n => (⟨(List.replicate n 49).toArray⟩ : Str)) ++ [(⟨#[]⟩ : Str)]).map V.str)) hD0)
    have hD1 : upd H1 D (.lst ((((gsC ds).map fun n => (⟨(List.replicate n 49).toArray⟩ : Str)) ++ [(⟨#[]⟩ : Str)]).map V.str)) D = some (.lst ((((gsC ds).map fun n => (⟨(List.replicate n 49).toArray⟩ : Str)) ++ [(⟨#[]⟩ : Str)]).map V.str)) := Ac
    generalize upd H1 D (.lst ((((gsC ds).map fun n => (⟨(List.replicate n 49).toArray⟩ : Str)) ++ [(⟨#[]⟩ : Str)]).map V.str)) = H2 at *
    have eg : (((gsC ds).map fun n => (⟨(List.replicate n 49).toArray⟩ : Str)) ++ [(⟨#[]⟩ : Str)]).map V.str = (gsC ds ++ [0]).map fun n => V.str ⟨(List.replicate n 49).toArray⟩ := by
      rw [List.map_append, List.map_append, List.map_map]
      rfl
    rw [eg] at hD1
    obtain ⟨gs, hgs⟩ : ∃ gs, gs = gsC ds ++ [0] := ⟨_, rfl⟩
    rw [<- hgs] at hD1
    have hgl : gs.length = ds.length + 2 := by rw [hgs, List.length_append, hl0]; rfl
    have hgsum : gs.sum = ds.length := by rw [hgs, List.sum_append, hs0]; rfl
    refine ⟨_, rfl, ⟨_, SqL.of hD1⟩, ?_⟩
    refine Mr (SqL.of hD1) (fun i => nV (gs.take i)) rfl (fun i hi => ?_) (fun i x H3 R A hx s3 _ hA => ?_) (fun D4 H4 hD4 s4 h4 => ?_)
    · rw [Ng, List.length_take]
      exact Ap (by omega)
    · rw [List.getElem?_map] at hx
      cases e : gs[i]? with
      | none => rw [e] at hx; cases hx
      | some n =>
        rw [e] at hx
        cases hx
        have hns := P7 e
        k_is
        have hl : (⟨(List.replicate n 49).toArray⟩ : Str).length = n := by simp [Str.length]
        refine ⟨_, rfl, by rw [hl]; exact Nat.le_of_lt (Ap (by omega)), ?_⟩
        rw [hl]
        refine hA _ _ ?_ (Ak.refl _)
        rw [List.take_add_one, e]
        unfold nV
        rw [List.map_append]
        rfl
    rw [List.length_map, List.take_of_length_le (Nat.le_refl _)] at h4
    have s24 := s2.trans s4
    k_is
    refine ⟨Nat.zero_le _, fun el hel => ?_⟩
    have t1 := Ah (o := .lst []) hel
    have nDe : D4 ≠ el := Aq h4 hel
    have he1 : upd H4 el (.lst []) el = some (.lst []) := Ac
    have h41 := t1 _ _ h4
    have s14 := s24.trans t1
    have nel : H el = none := s24.free hel
    generalize upd H4 el (.lst []) = H5 at *
    k_is
    refine ⟨few (by simp), fun w0 hw0 => ?_⟩
    have t2 := Ah (o := .lst [V.int (-1)]) hw0
    have hw1 : upd H5 w0 (.lst [V.int (-1)]) w0 = some (.lst [V.int (-1)]) := Ac
    have h42 := t2 _ _ h41
    have he2 := t2 _ _ he1
    have s15 := s14.trans t2
    generalize upd H5 w0 (.lst [V.int (-1)]) = H6 at *
    k_is
    refine Eb (SqL.of h42) (v := .int ((C7 ds ds.length (-1)).length : Nat)) (Bx (by rw [hgs]; rfl)) ?_
    have hk0 := eQ ds ds.length (-1)
    refine ⟨w0, ((C7 ds ds.length (-1)).length : Nat), _, rfl, rfl, hw1, by omega, by omega, Nat.le_of_lt (Ap (by simp; omega)), fun wa hwa => ?_⟩
    have t3 := Ah (o := .lst (List.replicate (((C7 ds ds.length (-1)).length : Nat) : Int).toNat [V.int (-1)]).flatten) hwa
    have hW : (upd H6 wa (.lst (List.replicate (((C7 ds ds.length (-1)).length : Nat) : Int).toNat [V.int (-1)]).flatten)) wa = some (.lst ((wt ds 0).map V.int)) := by
      rw [Ac, Int.toNat_natCast, eX, List.map_replicate, List.flatten_replicate_singleton]
    have h43 := t3 _ _ h42
    have he3 := t3 _ _ he2
    have s16 := s15.trans t3
    have nwa : H wa = none := s15.free hwa
    have newa : el ≠ wa := Aq he2 hwa
    have nDw : D4 ≠ wa := Aq h42 hwa
    generalize upd H6 wa (.lst (List.replicate (((C7 ds ds.length (-1)).length : Nat) : Int).toNat [V.int (-1)]).flatten) = H7 at *
    k_is
    refine ⟨x, af, dx, _, _, rfl, s16 _ _ hx, Z.cl, Z.n_knots, rfl, ?_⟩
    k_is
    refine ⟨_, rfl, by omega, by omega, ?_⟩
    rw [Int.toNat_natCast]
    refine Hd (fun k σ H8 => (∃ v4 : Option V, σ = [some (.ref x), some (.ref D4), some (.ref el), some (.ref wa), v4])/\H8 el = some (.lst (((Az ds).take k).map V.int))/\H8 wa = some (.lst ((wt ds k).map V.int))/\H8 D4 = some (.lst (nV gs))/\Ak H H8) ⟨⟨_, rfl⟩, he3, hW, h43, s16⟩ ?_ ?_
    · rintro k σ H8 hk ⟨⟨v4, rfl⟩, hel8, hwa8, hg8, s8⟩
      obtain ⟨B, e1, e2⟩ := eT hD hk
      have hlen := lG hD k (by omega)
      have hts := W2 (gsC ds) (k + 1)
      k_is
      refine ⟨.inl ⟨rfl, _, SqL.of hel8⟩, ?_⟩
      k_is
      refine ⟨.inl ⟨rfl, _, SqL.of hwa8⟩, ?_⟩
      refine ⟨wa, _, .int (eld ds k), rfl, rfl, hwa8, ?_, ?_⟩
      · rw [e1, List.map_append, List.length_append, List.length_map, List.getElem?_append_right (by simp)]
        simp
      k_is
      have hdl : ((wt ds k).map V.int).dropLast = B.map V.int := by
        rw [e1, List.map_append]
        exact List.dropLast_concat
      rw [hdl]
      refine Ex (by rw [Al newa]; exact hel8) ?_ ?_
      · rw [List.length_map, List.length_take, Bv]
        exact Ap (by omega)
      have hel9 : upd (upd H8 wa (.lst (B.map V.int))) el (.lst (((Az ds).take k).map V.int ++ [V.int (eld ds k)])) el = some (.lst (((Az ds).take (k + 1)).map V.int)) := by
        rw [Ac, List.take_add_one, Hu hk, List.map_append]
        rfl
      have hwa9 : upd (upd H8 wa (.lst (B.map V.int))) el (.lst (((Az ds).take k).map V.int ++ [V.int (eld ds k)])) wa = some (.lst (B.map V.int)) := by rw [Al newa.symm, Ac]
      have hg9 : upd (upd H8 wa (.lst (B.map V.int))) el (.lst (((Az ds).take k).map V.int ++ [V.int (eld ds k)])) D4 = some (.lst (nV gs)) := by rw [Al nDe, Al nDw]; exact hg8
      have s9 : Ak H (upd (upd H8 wa (.lst (B.map V.int))) el (.lst (((Az ds).take k).map V.int ++ [V.int (eld ds k)]))) := Cp (Cp s8 nwa) nel
      generalize upd (upd H8 wa (.lst (B.map V.int))) el (.lst (((Az ds).take k).map V.int ++ [V.int (eld ds k)])) = H9 at *
      have hBl : B.length <= ds.length := by rw [e1, List.length_append] at hlen; omega
      k_is
      refine ⟨.inl ⟨rfl, _, SqL.of hwa9⟩, ?_⟩
      k_is
      refine ⟨few (by simp), fun c0 hc0 => ?_⟩
      have t4 := Ah (o := .lst [V.int (0 + (k : Int))]) hc0
      have hc1 : upd H9 c0 (.lst [V.int (0 + (k : Int))]) c0 = some (.lst [V.int (0 + (k : Int))]) := Ac
      have hel10 := t4 _ _ hel9
      have hwa10 := t4 _ _ hwa9
      have hg10 := t4 _ _ hg9
      have s10 := s9.trans t4
      generalize upd H9 c0 (.lst [V.int (0 + (k : Int))]) = H10 at *
      k_is
      have hkk := eQ ds ds.length (k : Int)
      refine Eb (SqL.of hg10) (v := .int ((C7 ds ds.length k).length : Nat)) ?_ ?_
      · rw [show (0 + (k : Int) + 1) = ((k + 1 : Nat) : Int) by omega]
        refine Bx ?_
        rw [hgs]
        unfold nV
        rw [List.getElem?_map, List.getElem?_append_left (by omega), Y4 hk]
        rfl
      k_is
      refine ⟨c0, ((C7 ds ds.length k).length : Nat), _, rfl, rfl, hc1, by omega, by omega, Nat.le_of_lt (Ap (by simp; omega)), fun c2 hc2 => ?_⟩
      have t5 := Ah (o := .lst (List.replicate (((C7 ds ds.length k).length : Nat) : Int).toNat [V.int (0 + (k : Int))]).flatten) hc2
      have hc3 : upd H10 c2 (.lst (List.replicate (((C7 ds ds.length k).length : Nat) : Int).toNat [V.int (0 + (k : Int))]).flatten) c2 = some (.lst ((List.replicate (C7 ds ds.length k).length (k : Int)).map V.int)) := by
        rw [Ac, Int.toNat_natCast, List.flatten_replicate_singleton, List.map_replicate, Int.zero_add]
      have hel11 := t5 _ _ hel10
      have hwa11 := t5 _ _ hwa10
      have hg11 := t5 _ _ hg10
      have s11 := s10.trans t5
      generalize upd H10 c2 (.lst (List.replicate (((C7 ds ds.length k).length : Nat) : Int).toNat [V.int (0 + (k : Int))]).flatten) = H11 at *
      refine ⟨wa, c2, _, _, rfl, rfl, hwa11, hc3, ?_, ?_⟩
      · rw [List.length_map, List.length_map, List.length_replicate]
        exact Nat.le_of_lt (Ap (by omega))
      k_is
      refine ⟨⟨_, rfl⟩, ?_, ?_, ?_, Cp s11 nwa⟩
      · rw [Al newa]
        exact hel11
      · rw [Ac, e2, List.map_append]
      · rw [Al nDw]
        exact hg11
    · rintro σ H8 ⟨⟨v4, rfl⟩, hel8, hwa8, hg8, s8⟩
      k_is
      refine q el H8 s8 nel ?_
      rw [hel8, List.take_of_length_le (by rw [Bv]; exact Nat.le_refl _)]
theorem NoK.no {k:V}{n:Nat}(hb:NoK k n)(h:inI k 0 ((n:Int)-1)=true):False:=by
 unfold NoK at hb
 rw [hb] at h
 cases h
theorem S7:∀ ns:List Nat,(grB ns).count true=ns.sum
 | []=>rfl
 | n::r=>by
  rw [show grB (n::r)=(List.replicate n true++[false])++grB r from rfl,List.count_append,List.count_append,S7 r,List.count_replicate_self]
  simp
theorem Tm {ds:List Nat}(h:Dok ds){k:Nat}(hk:k<=ds.length):∃ t,(occ false (F6 ds) (F6 ds).length)[k]?=some t:=by
 have h1:=(O4 (F6 ds) (F6 ds).length).2
 have h2:cnt (F6 ds) (F6 ds).length=ds.length+1:=by
  show ((F6 ds).take (F6 ds).length).count true=_
  rw [List.take_length]
  unfold F6
  rw [List.count_cons_self,S7,Md h]
 have h3:=Pw h
 exact ⟨_,List.getElem?_eq_getElem (by omega)⟩
def Mi (K:PySem.W.Frag)(CB CC CP CD CN:Addr)(ts:List Tb):Sp:=fun vs H Q E=>∃ (x:Addr) (ds:List Nat) (k:V),vs=[.ref x,k]/\By K CB CC CP CD H x ds/\Tbs ts H/\Any K H k/\(inI k 0 ((ds.length:Int)-1)=true->∀ (m:Int) H',SmT ts H H'->Q (.int m) H')/\(NoK k ds.length->E (.ref CN) none H)
theorem Q1 {f : Addr}{fd : FuncData}{ts : List Tb}(F : Fun K "many" "Counted.many" Ge f fd)(T : Txt K mg aB aC ah ad aa ac aj am ao aq ar au av aw ax ay az aA)(Z : Qa K af)(aE : Yu P w K mg base "check_knot" 3 ["k", "many_knots"] (Eg K aa))(aZ : Mth P w K mg base ag "closing" 6 ["self", "number"] (M6 K ai ae ag ts)) : Ax P w K mg base (CXE P w) 7 f fd ["self", "k"] (Mi K ai ae ag af aa ts) := by
  refine F.okE Oi (fun vs H Q E h => ?_) (fun cdv A outer s H vs Q E hr h => ?_)
  · obtain ⟨x, ds, k, rfl, _⟩ := h
    rfl
  · obtain ⟨x, ds, kv, rfl, hC, hT, hA, q, qe⟩ := h
    obtain ⟨dx, p, m, hx, hP, hD, hn⟩ := id hC
    obtain ⟨dp, b, c, tt, o, hp, _⟩ := id hP
    refine ⟨_, (Ab (Bj (Lg aE (hr.mono (by decide : 3 <= _)) (Cb rfl) (Ad (pv 1) (Ad (Bh (pv 0) rfl) Aa rfl) rfl)))
      (Ag (Ao (Aj Cl (Aj Cl (Fh aZ (hr.mono (by decide : 6 <= _)) (Bh (pv 0) rfl) (Ad (Aj Be (pv 1) Af) Aa rfl)) (Fh aZ (hr.mono (by decide : 6 <= _)) (Bh (pv 0) rfl) (Ad (pv 1) Aa rfl))) Af)))), ?_⟩
    k_is
    refine ⟨x, af, dx, _, _, rfl, hx, Z.cl, Z.n_knots, rfl, ?_⟩
    k_is
    refine ⟨kv, ds.length, rfl, hA, fun hi => ?_, qe⟩
    obtain ⟨ki, rfl, hk0, hk1⟩ := tP hi
    obtain ⟨k, rfl⟩ : ∃ k : Nat, ki = (k : Int) := ⟨ki.toNat, by omega⟩
    obtain ⟨t0, z1⟩ := Tm hD (show k <= ds.length by omega)
    obtain ⟨t9, y1⟩ := Tm hD (show k + 1 <= ds.length by omega)
    have q := q hi
    k_is
    refine ⟨x, af, dx, _, _, rfl, hx, Z.cl, Z.n_pairs, rfl, ?_⟩
    k_is
    refine ⟨p, dp, _, rfl, hp, rfl, ?_⟩
    k_is
    refine ⟨p, F6 ds, k + 1, t9, by rw [show ((k + 1 : Nat) : Int) = (k : Int) + 1 by omega]; rfl, hP, hT, y1, fun H1 s1 => ?_⟩
    have hP1 := hP.sm s1
    obtain ⟨dp1, b1, c1, t1, o1, hp1, _⟩ := id hP1
    k_is
    refine ⟨x, af, dx, _, _, rfl, s1.k hx, Z.cl, Z.n_pairs, rfl, ?_⟩
    k_is
    refine ⟨p, dp1, _, rfl, hp1, rfl, ?_⟩
    k_is
    refine ⟨p, F6 ds, k, t0, rfl, hP1, s1.ok, z1, fun H2 s2 => ?_⟩
    k_is
    exact q _ H2 (s1.trans s2)
def U4 (K:PySem.W.Frag)(CB CC CP CD CN CQ:Addr)(ts:List Tb):Sp:=fun vs H Q E=>∃ (x:Addr) (ds:List Nat) (k i:V),vs=[.ref x,k,i]/\By K CB CC CP CD H x ds/\Tbs ts H/\Any K H k/\Any K H i/\((NoK k ds.length/\E (.ref CN) none H)\/(inI k 0 ((ds.length:Int)-1)=true/\Ta i/\∀ H',SmT ts H H'->E (.ref CQ) none H'))
theorem Wi {f : Addr}{fd : FuncData}{ts : List Tb}(F : Fun K "nth" "Wood.nth" K7 f fd)(T : Txt K mg aB aC ah ad aa ac aj am ao aq ar au av aw ax ay az aA)(Z : Qa K af)(aL : Fi P w K mg base af "many" 7 ["self", "k"] (Mi K ai ae ag af aa ts))(bW : Yu P w K mg base "check_from_nought" 3 ["number"] (M9 K ad)) : Ax P w K mg base (CXE P w) 8 f fd ["self", "k", "i"] (U4 K ai ae ag af aa ad ts) := by
  refine F.okE Og (fun vs H Q E h => ?_) (fun cdv A outer s H vs Q E hr h => ?_)
  · obtain ⟨x, ds, k, i, rfl, _⟩ := h
    rfl
  · obtain ⟨x, ds, k, i, rfl, hC, hT, hA, hI, hq⟩ := h
    obtain ⟨dx, p, m, hx, hP, hD, hn⟩ := id hC
    refine ⟨_, (Ab (Am (i := 3) Og.nd rfl (Or.inl rfl) (G9 aL (hr.mono (by decide : 7 <= _)) (Cb rfl) (pv 0) (Ad (pv 1) Aa rfl)))
      (Ab (Bj (Lg bW (hr.mono (by decide : 3 <= _)) (Cb rfl) (Ad (pv 2) Aa rfl)))
      (Ag Bi))), ?_⟩
    k_is
    refine ⟨x, dx, _, rfl, hx, rfl, ?_⟩
    k_is
    rcases hq with ⟨hb, qe⟩ | ⟨hg, hb, qe⟩
    · exact ⟨x, ds, k, rfl, hC, hT, hA, fun h => (hb.no h).elim, fun _ => qe⟩
    · refine ⟨x, ds, k, rfl, hC, hT, hA, fun _ mm H1 s1 => ?_, fun h => (h.no hg).elim⟩
      k_is
      exact ⟨i, rfl, s1.any hI, hb, qe H1 s1⟩
def Bf (K:PySem.W.Frag)(CB CC CP CD CN:Addr):Sp:=fun vs H Q E=>∃ (x:Addr) (ds:List Nat) (k:V),vs=[.ref x,k]/\By K CB CC CP CD H x ds/\Any K H k/\NoK k ds.length/\E (.ref CN) none H
def Np (K:PySem.W.Frag)(CB CC CP CD CN:Addr)(ts:List Tb):Sp:=fun vs H Q E=>Tbs ts H/\Bf K CB CC CP CD CN vs H Q E
theorem Wd {f:Addr}{fd:FuncData}{ts:List Tb}(F:Fun K "first" "Wood.first" Hy f fd)(T:Txt K mg aB aC ah ad aa ac aj am ao aq ar au av aw ax ay az aA)(Z:Qa K af)(aR:Fi P w K mg base af "nth" 8 ["self","k","i"] (U4 K ai ae ag af aa ad ts)):Ax P w K mg base (CXE P w) 9 f fd ["self","k"] (Np K ai ae ag af aa ts):=by
 refine F.okE Su (fun vs H Q E h=>?_) (fun cdv A outer s H vs Q E hr h=>?_)
 ·obtain ⟨hT,x,ds,k,rfl,_⟩:=h
  rfl
 ·obtain ⟨hT,x,ds,k,rfl,hC,hA,hb,qe⟩:=h
  obtain ⟨dx,p,m,hx,_⟩:=id hC
  refine ⟨_,(Ag (Ao (G9 aR (hr.mono (by decide:8<=_)) (Cb rfl) (pv 0) (Ad (pv 1) (Ad Af Aa rfl) rfl)))),?_⟩
  k_is
  refine ⟨x,dx,_,rfl,hx,rfl,?_⟩
  k_is
  exact ⟨x,ds,k,.int 0,rfl,hC,hT,hA,Bt _,.inl ⟨hb,qe⟩⟩
theorem Wh {f : Addr}{fd : FuncData}{ts : List Tb}(F : Fun K "last" "Wood.last" Jq f fd)(T : Txt K mg aB aC ah ad aa ac aj am ao aq ar au av aw ax ay az aA)(Z : Qa K af)(aL : Fi P w K mg base af "many" 7 ["self", "k"] (Mi K ai ae ag af aa ts)) : Ax P w K mg base (CXE P w) 8 f fd ["self", "k"] (Np K ai ae ag af aa ts) := by
  refine F.okE Mm (fun vs H Q E h => ?_) (fun cdv A outer s H vs Q E hr h => ?_)
  · obtain ⟨hT, x, ds, k, rfl, _⟩ := h
    rfl
  · obtain ⟨hT, x, ds, k, rfl, hC, hA, hb, qe⟩ := h
    obtain ⟨dx, p, m, hx, _⟩ := id hC
    refine ⟨_, (Ab (Am (i := 2) Mm.nd rfl (Or.inl rfl) (G9 aL (hr.mono (by decide : 7 <= _)) (Cb rfl) (pv 0) (Ad (pv 1) Aa rfl)))
      (Ag Bi)), ?_⟩
    k_is
    refine ⟨x, dx, _, rfl, hx, rfl, ?_⟩
    k_is
    exact ⟨x, ds, k, rfl, hC, hT, hA, fun h => (hb.no h).elim, fun _ => qe⟩
theorem Q2 {f : Addr}{fd : FuncData}(F : Fun K "stem" "Counted.stem" Gn f fd)(T : Txt K mg aB aC ah ad aa ac aj am ao aq ar au av aw ax ay az aA)(Z : Qa K af)(aE : Yu P w K mg base "check_knot" 3 ["k", "many_knots"] (Eg K aa)) : Ax P w K mg base (CXE P w) 4 f fd ["self", "k"] (Bf K ai ae ag af aa) := by
  refine F.okE Oy (fun vs H Q E h => ?_) (fun cdv A outer s H vs Q E hr h => ?_)
  · obtain ⟨x, ds, k, rfl, _⟩ := h
    rfl
  · obtain ⟨x, ds, k, rfl, hC, hA, hb, qe⟩ := h
    obtain ⟨dx, p, m, hx, _⟩ := id hC
    refine ⟨_, (Ab (Bj (Lg aE (hr.mono (by decide : 3 <= _)) (Cb rfl) (Ad (pv 1) (Ad (Bh (pv 0) rfl) Aa rfl) rfl)))
      (Ag Bi)), ?_⟩
    k_is
    refine ⟨x, af, dx, _, _, rfl, hx, Z.cl, Z.n_knots, rfl, ?_⟩
    k_is
    exact ⟨k, ds.length, rfl, hA, fun h => (hb.no h).elim, fun _ => qe⟩
theorem Qo {f : Addr}{fd : FuncData}(F : Fun K "stretch" "Counted.stretch" Eu f fd)(T : Txt K mg aB aC ah ad aa ac aj am ao aq ar au av aw ax ay az aA)(Z : Qa K af)(aE : Yu P w K mg base "check_knot" 3 ["k", "many_knots"] (Eg K aa)) : Ax P w K mg base (CXE P w) 4 f fd ["self", "k"] (Bf K ai ae ag af aa) := by
  refine F.okE Li (fun vs H Q E h => ?_) (fun cdv A outer s H vs Q E hr h => ?_)
  · obtain ⟨x, ds, k, rfl, _⟩ := h
    rfl
  · obtain ⟨x, ds, k, rfl, hC, hA, hb, qe⟩ := h
    obtain ⟨dx, p, m, hx, _⟩ := id hC
    refine ⟨_, (Ab (Bj (Lg aE (hr.mono (by decide : 3 <= _)) (Cb rfl) (Ad (pv 1) (Ad (Bh (pv 0) rfl) Aa rfl) rfl)))
      (Ab Bi
      (Ab Bi
      (Ag Bi)))), ?_⟩
    k_is
    refine ⟨x, af, dx, _, _, rfl, hx, Z.cl, Z.n_knots, rfl, ?_⟩
    k_is
    exact ⟨k, ds.length, rfl, hA, fun h => (hb.no h).elim, fun _ => qe⟩
theorem Qu {f : Addr}{fd : FuncData}(F : Fun K "elder" "Counted.elder" Fy f fd)(T : Txt K mg aB aC ah ad aa ac aj am ao aq ar au av aw ax ay az aA)(Z : Qa K af)(bX : Mth P w K mg base ag "closes_ahead" 5 ["self", "place"] (Re K ae ag))(aF : Fi P w K mg base af "stem" 4 ["self", "k"] (Bf K ai ae ag af aa)) : Ax P w K mg base (CXE P w) 6 f fd ["self", "k"] (Bf K ai ae ag af aa) := by
  refine F.okE Hl (fun vs H Q E h => ?_) (fun cdv A outer s H vs Q E hr h => ?_)
  · obtain ⟨x, ds, k, rfl, _⟩ := h
    rfl
  · obtain ⟨x, ds, k, rfl, hC, hA, hb, qe⟩ := h
    obtain ⟨dx, p, m, hx, hP, _⟩ := id hC
    obtain ⟨dp, b, c, tt, o, hp, _⟩ := id hP
    refine ⟨_, (Ab (Am (i := 2) Hl.nd rfl (Or.inl rfl) (Fh bX (hr.mono (by decide : 5 <= _)) (Bh (pv 0) rfl) (Ad (G9 aF (hr.mono (by decide : 4 <= _)) (Cb rfl) (pv 0) (Ad (pv 1) Aa rfl)) Aa rfl)))
      (Ag Bi)), ?_⟩
    k_is
    refine ⟨x, af, dx, _, _, rfl, hx, Z.cl, Z.n_pairs, rfl, ?_⟩
    k_is
    refine ⟨p, dp, _, rfl, hp, rfl, ?_⟩
    k_is
    refine ⟨x, dx, _, rfl, hx, rfl, ?_⟩
    k_is
    exact ⟨x, ds, k, rfl, hC, hA, hb, qe⟩
theorem Qv {f : Addr}{fd : FuncData}(F : Fun K "right" "Counted.right" Fx f fd)(T : Txt K mg aB aC ah ad aa ac aj am ao aq ar au av aw ax ay az aA)(Z : Qa K af)(aF : Fi P w K mg base af "stem" 4 ["self", "k"] (Bf K ai ae ag af aa)) : Ax P w K mg base (CXE P w) 5 f fd ["self", "k"] (Bf K ai ae ag af aa) := by
  refine F.okE He (fun vs H Q E h => ?_) (fun cdv A outer s H vs Q E hr h => ?_)
  · obtain ⟨x, ds, k, rfl, _⟩ := h
    rfl
  · obtain ⟨x, ds, k, rfl, hC, hA, hb, qe⟩ := h
    obtain ⟨dx, p, m, hx, _⟩ := id hC
    refine ⟨_, (Ab (Am (i := 2) He.nd rfl (Or.inl rfl) (Aj Cl (G9 aF (hr.mono (by decide : 4 <= _)) (Cb rfl) (pv 0) (Ad (pv 1) Aa rfl)) Af))
      (Ag Bi)), ?_⟩
    k_is
    refine ⟨x, dx, _, rfl, hx, rfl, ?_⟩
    k_is
    exact ⟨x, ds, k, rfl, hC, hA, hb, qe⟩
theorem Q0 {f : Addr}{fd : FuncData}(F : Fun K "left" "Counted.left" Gk f fd)(T : Txt K mg aB aC ah ad aa ac aj am ao aq ar au av aw ax ay az aA)(Z : Qa K af)(aF : Fi P w K mg base af "stem" 4 ["self", "k"] (Bf K ai ae ag af aa)) : Ax P w K mg base (CXE P w) 5 f fd ["self", "k"] (Bf K ai ae ag af aa) := by
  refine F.okE Jc (fun vs H Q E h => ?_) (fun cdv A outer s H vs Q E hr h => ?_)
  · obtain ⟨x, ds, k, rfl, _⟩ := h
    rfl
  · obtain ⟨x, ds, k, rfl, hC, hA, hb, qe⟩ := h
    obtain ⟨dx, p, m, hx, _⟩ := id hC
    refine ⟨_, (Ab (Am (i := 2) Jc.nd rfl (Or.inl rfl) (Aj Be (G9 aF (hr.mono (by decide : 4 <= _)) (Cb rfl) (pv 0) (Ad (pv 1) Aa rfl)) Af))
      (Ag Bi)), ?_⟩
    k_is
    refine ⟨x, dx, _, rfl, hx, rfl, ?_⟩
    k_is
    exact ⟨x, ds, k, rfl, hC, hA, hb, qe⟩
theorem Qg {f : Addr}{fd : FuncData}(F : Fun K "child_place" "Counted.child_place" C6 f fd)(T : Txt K mg aB aC ah ad aa ac aj am ao aq ar au av aw ax ay az aA)(Z : Qa K af)(aF : Fi P w K mg base af "stem" 4 ["self", "k"] (Bf K ai ae ag af aa)) : Ax P w K mg base (CXE P w) 5 f fd ["self", "k"] (Bf K ai ae ag af aa) := by
  refine F.okE En (fun vs H Q E h => ?_) (fun cdv A outer s H vs Q E hr h => ?_)
  · obtain ⟨x, ds, k, rfl, _⟩ := h
    rfl
  · obtain ⟨x, ds, k, rfl, hC, hA, hb, qe⟩ := h
    obtain ⟨dx, p, m, hx, _⟩ := id hC
    refine ⟨_, (Ab (Am (i := 2) En.nd rfl (Or.inl rfl) (G9 aF (hr.mono (by decide : 4 <= _)) (Cb rfl) (pv 0) (Ad (pv 1) Aa rfl)))
      (Ag Bi)), ?_⟩
    k_is
    refine ⟨x, dx, _, rfl, hx, rfl, ?_⟩
    k_is
    exact ⟨x, ds, k, rfl, hC, hA, hb, qe⟩
theorem Qq {f : Addr}{fd : FuncData}(F : Fun K "behind" "Counted.behind" E4 f fd)(T : Txt K mg aB aC ah ad aa ac aj am ao aq ar au av aw ax ay az aA)(Z : Qa K af)(aS : Fi P w K mg base af "stretch" 4 ["self", "k"] (Bf K ai ae ag af aa)) : Ax P w K mg base (CXE P w) 5 f fd ["self", "k"] (Bf K ai ae ag af aa) := by
  refine F.okE Gw (fun vs H Q E h => ?_) (fun cdv A outer s H vs Q E hr h => ?_)
  · obtain ⟨x, ds, k, rfl, _⟩ := h
    rfl
  · obtain ⟨x, ds, k, rfl, hC, hA, hb, qe⟩ := h
    obtain ⟨dx, p, m, hx, _⟩ := id hC
    refine ⟨_, (Ab (Am (i := 2) Gw.nd rfl (Or.inl rfl) (G9 aS (hr.mono (by decide : 4 <= _)) (Cb rfl) (pv 0) (Ad (pv 1) Aa rfl)))
      (Ag Bi)), ?_⟩
    k_is
    refine ⟨x, dx, _, rfl, hx, rfl, ?_⟩
    k_is
    exact ⟨x, ds, k, rfl, hC, hA, hb, qe⟩
theorem Qn {f:Addr}{fd:FuncData}(F:Fun K "beneath" "Counted.beneath" Ev f fd)(T:Txt K mg aB aC ah ad aa ac aj am ao aq ar au av aw ax ay az aA)(Z:Qa K af)(aT:Fi P w K mg base af "behind" 5 ["self","k"] (Bf K ai ae ag af aa)):Ax P w K mg base (CXE P w) 6 f fd ["self","k"] (Bf K ai ae ag af aa):=by
 refine F.okE Lq (fun vs H Q E h=>?_) (fun cdv A outer s H vs Q E hr h=>?_)
 ·obtain ⟨x,ds,k,rfl,_⟩:=h
  rfl
 ·obtain ⟨x,ds,k,rfl,hC,hA,hb,qe⟩:=h
  obtain ⟨dx,p,m,hx,_⟩:=id hC
  refine ⟨_,(Ag (Ao (Aj Cl (Aj Cl (G9 aT (hr.mono (by decide:5<=_)) (Cb rfl) (pv 0) (Ad (pv 1) Aa rfl)) (pv 1)) Af))),?_⟩
  k_is
  refine ⟨x,dx,_,rfl,hx,rfl,?_⟩
  k_is
  exact ⟨x,ds,k,rfl,hC,hA,hb,qe⟩
theorem Qt {f : Addr}{fd : FuncData}(F : Fun K "depth" "Counted.depth" Ft f fd)(T : Txt K mg aB aC ah ad aa ac aj am ao aq ar au av aw ax ay az aA)(Z : Qa K af)(aU : Fi P w K mg base af "elder" 6 ["self", "k"] (Bf K ai ae ag af aa)) : Ax P w K mg base (CXE P w) 7 f fd ["self", "k"] (Bf K ai ae ag af aa) := by
  refine F.okE Ez (fun vs H Q E h => ?_) (fun cdv A outer s H vs Q E hr h => ?_)
  · obtain ⟨x, ds, k, rfl, _⟩ := h
    rfl
  · obtain ⟨x, ds, k, rfl, hC, hA, hb, qe⟩ := h
    obtain ⟨dx, p, m, hx, _⟩ := id hC
    refine ⟨_, (Ab (Am (i := 2) Ez.nd rfl (Or.inl rfl) Af)
      (Ab (Am (i := 3) Ez.nd rfl (Or.inl rfl) (G9 aU (hr.mono (by decide : 6 <= _)) (Cb rfl) (pv 0) (Ad (pv 1) Aa rfl)))
      (Ab Bi
      (Ag Bi)))), ?_⟩
    k_is
    refine ⟨x, dx, _, rfl, hx, rfl, ?_⟩
    k_is
    exact ⟨x, ds, k, rfl, hC, hA, hb, qe⟩
def Us (K:PySem.W.Frag)(CB CC CP CD CN:Addr):Sp:=fun vs H Q E=>∃ (x:Addr) (ds:List Nat) (k o:V),vs=[.ref x,k,o]/\By K CB CC CP CD H x ds/\Any K H k/\Any K H o/\(NoK k ds.length\/NoK o ds.length)/\E (.ref CN) none H
theorem Qf {f : Addr}{fd : FuncData}(F : Fun K "lies_beneath" "Counted.lies_beneath" Cy f fd)(T : Txt K mg aB aC ah ad aa ac aj am ao aq ar au av aw ax ay az aA)(Z : Qa K af)(aE : Yu P w K mg base "check_knot" 3 ["k", "many_knots"] (Eg K aa)) : Ax P w K mg base (CXE P w) 4 f fd ["self", "k", "other"] (Us K ai ae ag af aa) := by
  refine F.okE Hq (fun vs H Q E h => ?_) (fun cdv A outer s H vs Q E hr h => ?_)
  · obtain ⟨x, ds, k, o, rfl, _⟩ := h
    rfl
  · obtain ⟨x, ds, k, o, rfl, hC, hA, hB, hb, qe⟩ := h
    obtain ⟨dx, p, m, hx, _⟩ := id hC
    refine ⟨_, (Ab (Bj (Lg aE (hr.mono (by decide : 3 <= _)) (Cb rfl) (Ad (pv 1) (Ad (Bh (pv 0) rfl) Aa rfl) rfl)))
      (Ab (Bj (Lg aE (hr.mono (by decide : 3 <= _)) (Cb rfl) (Ad (pv 2) (Ad (Bh (pv 0) rfl) Aa rfl) rfl)))
      (Ag Bi))), ?_⟩
    k_is
    refine ⟨x, af, dx, _, _, rfl, hx, Z.cl, Z.n_knots, rfl, ?_⟩
    k_is
    refine ⟨k, ds.length, rfl, hA, fun hi => ?_, fun _ => qe⟩
    k_is
    refine ⟨x, af, dx, _, _, rfl, hx, Z.cl, Z.n_knots, rfl, ?_⟩
    k_is
    refine ⟨o, ds.length, rfl, hB, fun hj => ?_, fun _ => qe⟩
    exact (hb.elim (fun h => h.no hi) fun h => h.no hj).elim
def P9 (K:PySem.W.Frag):Sp:=fun vs H Q _=>∃ (a:Addr) (ns:List Int) (k:Nat),vs=[.ref a,.int k]/\SqL K H a (ns.map V.int)/\∀ c:Int,Q (.int c) H
theorem Ri {f : Addr}{fd : FuncData}(F : Fun K "_law_cell_at" "_law_cell_at" G6 f fd)(T : Txt K mg aB aC ah ad aa ac aj am ao aq ar au av aw ax ay az aA) : Ax P w K mg base CX0 1 f fd ["_law_script", "_law_k"] (P9 K) := by
  refine F.ok Rw (fun vs H Q E h => ?_) (fun cdv A outer s H vs Q E hr h => ?_)
  · obtain ⟨a, ns, k, rfl, _⟩ := h
    rfl
  · obtain ⟨a, ns, k, rfl, hS, q⟩ := h
    refine ⟨_, (Ab (B4 (An Oc (pv 1) (Ar Bk (by rfl) T.n_len Em (Ad (pv 0) Aa rfl)) (Au _)) (Ag (Ao (C3 Ci (pv 0) (pv 1) (fun _ _ => rfl))))
      A6)
      (Ag (Ao Af))), ?_⟩
    k_is
    refine ⟨a, _, rfl, .inl hS, ?_⟩
    k_is
    rw [List.length_map]
    refine B8 (fun hb => ?_) (fun hb => ?_)
    · k_is
      have hk : k < ns.length := by omega
      refine Eb hS (v := .int ns[k]) ?_ (q _)
      refine Bx ?_
      rw [List.getElem?_map, List.getElem?_eq_getElem hk]
      rfl
    · k_is
      exact q 0
def Pf:Sp:=fun vs H Q _=>∃ (c:Int) (k:Nat),vs=[.int c,.int k]/\k<=1000/\∀ r:Nat,r<300000000->Q (.int r) H
theorem Uc {f:Addr}{fd:FuncData}(F:Fun K "_law_twice" "_law_twice" Kg f fd)(T:Txt K mg aB aC ah ad aa ac aj am ao aq ar au av aw ax ay az aA):Ax P w K mg base CX0 1 f fd ["_law_cell","_law_k"] Pf:=by
 refine F.ok Ms (fun vs H Q E h=>?_) (fun cdv A outer s H vs Q E hr h=>?_)
 ·obtain ⟨c,k,rfl,_⟩:=h
  rfl
 ·obtain ⟨c,k,rfl,hk,q⟩:=h
  refine ⟨_,(Ab (Am (i:=2) Ms.nd rfl (Or.inl rfl) (Aj Ca (Aj Ha (Aj Be (Aj Be (Aj Be (Aj Ca (pv 0) Af) (Aj Ha (Aj Ha Af (pv 1)) (pv 1))) (pv 1)) Af) Af) Af))
   (Ag (Ao (Aj Cf (Aj Ca (Aj Ha (Aj Be (pv 2) (pv 1)) Af) Af) Af)))),?_⟩
  k_is
  refine mT (by omega) (by omega) ?_
  k_is
  generalize ((c%2147483647+7919*(k:Int)*k+k+1)*48271%2147483629+k)*69621=z
  have h0:=Int.emod_nonneg z (show (2147483647:Int)≠0 by decide)
  have h1:=Int.emod_lt_of_pos z (show (0:Int)<2147483647 by decide)
  have e:z%2147483647/8=((z%2147483647/8).toNat:Int):=by omega
  rw [e]
  exact q _ (by omega)
def Wn:Sp:=fun vs H Q _=>∃ (c:Int) (n:Nat),vs=[.int c,.int n]/\n<=60/\∀ p (ds:List Nat) H',Ak H H'->H p=none->H' p=some (.lst ((Az ds).map V.int))->Dok ds->ds.length=n->Q (.ref p) H'
theorem Xa {ds:List Nat}(h:Dok ds){k:Nat}(hk:k<=ds.length):[V.int (-1)]++(way ds k).tail.map V.int=(way ds k).map V.int:=by
 rw [Jx h hk]
 rfl
theorem Xx {ds:List Nat}(h:Dok ds){k d:Nat}(hk:k<=ds.length)(hd:d<=opn ds k):atI ((way ds k).map V.int) (d:Int)=some (.int ((way ds k).getD d 0)):=by
 refine Bx (eF ?_)
 have hw:=Cu h k hk
 unfold List.getD
 rw [List.getElem?_eq_getElem (by omega)]
 rfl
theorem Vp {f : Addr}{fd : FuncData}(F : Fun K "_law_grown" "_law_grown" Km f fd)(T : Txt K mg aB aC ah ad aa ac aj am ao aq ar au av aw ax ay az aA) : Ax P w K mg base CX0 1 f fd ["_law_cell", "_law_many"] Wn := by
  refine F.ok Ct (fun vs H Q E h => ?_) (fun cdv A outer s H vs Q E hr h => ?_)
  · obtain ⟨c, n, rfl, _⟩ := h
    rfl
  · obtain ⟨c, n, rfl, hn, q⟩ := h
    refine ⟨_, (Ab (Am (i := 2) Ct.nd rfl (Or.inl rfl) (Bd Aa))
      (Ab (Am (i := 3) Ct.nd rfl (Or.inl rfl) (Bd Aa))
      (Ab (D0 PassesOwn.never rfl (F7 rfl T.n_range (Ad (pv 1) Aa rfl)) (Bn (i := 4) Ct.nd rfl (Or.inl rfl))
      (Ab (Am (i := 5) Ct.nd rfl (Or.inl rfl) (Aj Ca (pv 0) (Aj Be (Ar Bk (by rfl) T.n_len Em (Ad (pv 3) Aa rfl)) Af)))
      (Ab (Am (i := 0) Ct.nd rfl (Or.inl rfl) (Aj Cf (pv 0) (Aj Be (Ar Bk (by rfl) T.n_len Em (Ad (pv 3) Aa rfl)) Af)))
      (Ab (Bj (Ey PySem.F.plainAttrs_list PySem.F.slot_list_append PySem.F.type_list_append De (pv 2) (Ad (C3 Ci (Aj Fp (Bd (Ad (Dy Ch Af) Aa rfl)) (pv 3)) (pv 5) (fun _ _ => rfl)) Aa rfl)))
      (Ag (Am (i := 3) Ct.nd rfl (Or.inl rfl) (Aj Fp (Ce Ii (pv 3) G0 (Bw (pv 5))) (Bd (Ad (pv 4) Aa rfl)))))))))
      (Ag (Ao (pv 2)))))), ?_⟩
    k_is
    refine ⟨Nat.zero_le _, fun p hp => ?_⟩
    k_is
    refine ⟨Nat.zero_le _, fun p0 hp0 => ?_⟩
    have t0 := Ah (o := .lst []) hp
    have t1 := Ah (o := .lst []) hp0
    k_is
    refine ⟨_, rfl, by omega, by omega, ?_⟩
    rw [Int.toNat_natCast]
    refine Hd (fun k σ H1 => (∃ (q : Addr) (ds : List Nat) (g : Int) (v w : Option V), σ = [some (.int g), some (.int n), some (.ref p), some (.ref q), v, w]/\Dok ds/\ds.length = k/\H1 p = some (.lst ((Az ds).map V.int))/\H1 q = some (.lst ((way ds k).tail.map V.int))/\p ≠ q)/\Ak H H1) ?_ ?_ ?_
    · exact ⟨⟨p0, [], _, _, _, rfl, (fun k hk => by cases hk), rfl, t1 _ _ Ac, Ac, Aq Ac hp0⟩, t0.trans t1⟩
    · rintro k σ H1 hk ⟨⟨q1, ds, g, v, w', rfl, hD, hl, hp1, hq1, hne⟩, s1⟩
      have hw := Cu hD k (by omega)
      have hok := P0 hD k (by omega)
      have hwt : (way ds k).tail.length = opn ds k := by rw [List.length_tail]; omega
      k_is
      refine ⟨q1, _, rfl, .inl (SqL.of hq1), ?_⟩
      k_is
      rw [List.length_map, hwt]
      refine W7 (by omega) ?_
      k_is
      obtain ⟨d, hd, hd1⟩ := Ff g (opn ds k)
      rw [hd]
      refine ⟨q1, _, rfl, .inl (SqL.of hq1), ?_⟩
      k_is
      rw [List.length_map, hwt]
      refine lS (by omega) (by omega) ?_
      k_is
      refine ⟨.inl ⟨rfl, _, SqL.of hp1⟩, ?_⟩
      k_is
      refine ⟨few (by simp), fun q3 h3 => ?_⟩
      have u3 := Ah (o := .lst [V.int (-1)]) h3
      k_is
      refine ⟨q3, q1, _, _, rfl, rfl, Ac, u3 _ _ hq1, ?_, fun q4 h4 => ?_⟩
      · rw [List.length_map, hwt]
        exact few (by simp only [List.length_cons, List.length_nil]; omega)
      rw [Xa hD (by omega)] at *
      have u4 := u3.trans (Ah (o := .lst ((way ds k).map V.int)) h4)
      have h44 : (upd (upd H1 q3 (.lst [V.int (-1)])) q4 (.lst ((way ds k).map V.int))) q4 = some (.lst ((way ds k).map V.int)) := Ac
      generalize (upd (upd H1 q3 (.lst [V.int (-1)])) q4 (.lst ((way ds k).map V.int))) = H4 at *
      k_is
      refine Eb (SqL.of h44) (Xx hD (by omega) hd1) ?_
      k_is
      refine Ex (u4 _ _ hp1) ?_ ?_
      · rw [List.length_map, Bv]
        exact Ap (by omega)
      have s5 := Cp (o := .lst ((Az ds).map V.int ++ [V.int ((way ds k).getD d 0)])) (s1.trans u4) hp
      have hq5 : upd H4 p (.lst ((Az ds).map V.int ++ [V.int ((way ds k).getD d 0)])) q1 = some (.lst ((way ds k).tail.map V.int)) := by rw [Al hne.symm]; exact u4 _ _ hq1
      have hp5 : upd H4 p (.lst ((Az ds).map V.int ++ [V.int ((way ds k).getD d 0)])) p = some (.lst ((Az ds).map V.int ++ [V.int ((way ds k).getD d 0)])) := Ac
      generalize upd H4 p (.lst ((Az ds).map V.int ++ [V.int ((way ds k).getD d 0)])) = H5 at *
      k_is
      refine ⟨q1, _, rfl, SqL.of hq5, fun q6 h6 => ?_⟩
      rw [Si, <- List.map_take] at *
      have u6 := Ah (o := .lst (((way ds k).tail.take d).map V.int)) h6
      k_is
      refine ⟨few (by simp), fun q7 h7 => ?_⟩
      have u7 := Ah (o := .lst [V.int (0 + (k : Int))]) h7
      refine ⟨q6, q7, _, _, rfl, rfl, u7 _ _ Ac, Ac, ?_, fun q8 h8 => ?_⟩
      · rw [List.length_map, List.length_take]
        exact few (by simp only [List.length_cons, List.length_nil]; omega)
      have u8 := Ah (o := .lst (((way ds k).tail.take d).map V.int ++ [V.int (0 + (k : Int))])) h8
      k_is
      have hp8 := u8 _ _ (u7 _ _ (u6 _ _ hp5))
      refine ⟨⟨q8, ds ++ [d], _, _, _, rfl, Ga hD (by rw [hl]; exact hd1), by rw [List.length_append, hl]; rfl, ?_, ?_, Aq (u7 _ _ (u6 _ _ hp5)) h8⟩, ((s5.trans u6).trans u7).trans u8⟩
      · rw [hp8, Ee, List.map_append, hl]
        rfl
      · have e := Fm ds d
        rw [hl] at e
        rw [Ac, e, show (0 + (k : Int)) = (k : Int) by omega]
        have e2 : ((way ds k).take (d + 1) ++ [(k : Int)]).tail = (way ds k).tail.take d ++ [(k : Int)] := by
          rw [Jx hD (by omega)]
          rfl
        rw [e2, List.map_append]
        rfl
    · rintro σ H1 ⟨⟨q1, ds, g, v, w', rfl, hD, hl, hp1, hq1, hne⟩, s1⟩
      k_is
      exact q p ds H1 s1 hp hp1 hD hl
def U5 (K:PySem.W.Frag):Sp:=fun vs H Q _=>∃ (a:Addr) (ns:List Int) (n:Nat),vs=[.ref a,.int n]/\SqL K H a (ns.map V.int)/\n<=60/\∀ p (ds:List Nat) H',Ak H H'->H p=none->H' p=some (.lst ((Az ds).map V.int))->Dok ds->ds.length=n->Q (.ref p) H'
theorem Ul {f : Addr}{fd : FuncData}(F : Fun K "_law_drawn" "_law_drawn" Kb f fd)(T : Txt K mg aB aC ah ad aa ac aj am ao aq ar au av aw ax ay az aA)(aD : Cal P w K mg base "_law_cell_at" 1 ["_law_script", "_law_k"] (P9 K))(aM : Cal P w K mg base "_law_twice" 1 ["_law_cell", "_law_k"] Pf) : Ax P w K mg base CX0 2 f fd ["_law_script", "_law_many"] (U5 K) := by
  refine F.ok B6 (fun vs H Q E h => ?_) (fun cdv A outer s H vs Q E hr h => ?_)
  · obtain ⟨a, ns, n, rfl, _⟩ := h
    rfl
  · obtain ⟨a, ns, n, rfl, hS, hn, q⟩ := h
    refine ⟨_, (Ab (Am (i := 2) B6.nd rfl (Or.inl rfl) (Bd Aa))
      (Ab (Am (i := 3) B6.nd rfl (Or.inl rfl) (Bd Aa))
      (Ab (D0 PassesOwn.never rfl (F7 rfl T.n_range (Ad (pv 1) Aa rfl)) (Bn (i := 4) B6.nd rfl (Or.inl rfl))
      (Ab (Am (i := 5) B6.nd rfl (Or.inl rfl) (A4 aM (hr.mono (by decide : 1 <= _)) (Ad (A4 aD (hr.mono (by decide : 1 <= _)) (Ad (pv 0) (Ad (Aj Be Af (pv 4)) Aa rfl) rfl)) (Ad (pv 4) Aa rfl) rfl)))
      (Ab (Am (i := 6) B6.nd rfl (Or.inl rfl) (Ar Bk (by rfl) T.n_len Em (Ad (pv 3) Aa rfl)))
      (Ab (Am (i := 7) B6.nd rfl (Or.inl rfl) (Aj Ca (Aj Cf (pv 5) Af) (Aj Be (pv 6) Af)))
      (Ab (Am (i := 8) B6.nd rfl (Or.inl rfl) (C3 Ci (Bd (Ad (pv 7) (Ad (pv 6) (Ad (Ar (fO rfl) (by rfl) T.n_max qR (Ad Af (Ad (Aj Cl (pv 6) (Aj Ca (Aj Cf (pv 5) Af) Af)) Aa rfl) rfl)) (Ad (Ar (T4 rfl) (by rfl) T.n_min Xc (Ad (pv 7) (Ad Af Aa rfl) rfl)) Aa rfl) rfl) rfl) rfl)) (Aj Ca (pv 5) Af) (fun _ _ => rfl)))
      (Ab (Bj (Ey PySem.F.plainAttrs_list PySem.F.slot_list_append PySem.F.type_list_append De (pv 2) (Ad (C3 Ci (Aj Fp (Bd (Ad (Dy Ch Af) Aa rfl)) (pv 3)) (pv 8) (fun _ _ => rfl)) Aa rfl)))
      (Ag (Am (i := 3) B6.nd rfl (Or.inl rfl) (Aj Fp (Ce Ii (pv 3) G0 (Bw (pv 8))) (Bd (Ad (pv 4) Aa rfl)))))))))))
      (Ag (Ao (pv 2)))))), ?_⟩
    k_is
    refine ⟨Nat.zero_le _, fun p hp => ?_⟩
    k_is
    refine ⟨Nat.zero_le _, fun p0 hp0 => ?_⟩
    have t0 := Ah (o := .lst []) hp
    have t1 := Ah (o := .lst []) hp0
    k_is
    refine ⟨_, rfl, by omega, by omega, ?_⟩
    rw [Int.toNat_natCast]
    refine Hd (fun k σ H1 => (∃ (q : Addr) (ds : List Nat) (v4 v5 v6 v7 v8 : Option V), σ = [some (.ref a), some (.int n), some (.ref p), some (.ref q), v4, v5, v6, v7, v8]/\Dok ds/\ds.length = k/\H1 p = some (.lst ((Az ds).map V.int))/\H1 q = some (.lst ((way ds k).tail.map V.int))/\p ≠ q)/\Ak H H1) ?_ ?_ ?_
    · exact ⟨⟨p0, [], _, _, _, _, _, rfl, (fun k hk => by cases hk), rfl, t1 _ _ Ac, Ac, Aq Ac hp0⟩, t0.trans t1⟩
    · rintro k σ H1 hk ⟨⟨q1, ds, v4, v5, v6, v7, v8, rfl, hD, hl, hp1, hq1, hne⟩, s1⟩
      have hw := Cu hD k (by omega)
      have hok := P0 hD k (by omega)
      have hwt : (way ds k).tail.length = opn ds k := by rw [List.length_tail]; omega
      k_is
      refine ⟨a, ns, 3 + k, by simp, s1.seq hS, fun c => ?_⟩
      k_is
      refine ⟨c, k, by simp, by omega, fun r hr1 => ?_⟩
      k_is
      refine ⟨q1, _, rfl, .inl (SqL.of hq1), ?_⟩
      k_is
      rw [List.length_map, hwt]
      refine W7 (by omega) ?_
      k_is
      obtain ⟨d0, hd0, hd01⟩ := Ff ((r : Int) / 4) (opn ds k)
      rw [hd0]
      k_is
      refine ⟨_, _, rfl, ?_⟩
      k_is
      refine ⟨_, _, rfl, ?_⟩
      k_is
      refine ⟨few (by simp), fun q9 h9 => ?_⟩
      k_is
      obtain ⟨d, hat, hd1⟩ : ∃ d : Nat, atI [V.int (d0 : Int), V.int (opn ds k : Int), V.int (if (opn ds k : Int) - (r : Int) / 4 % 3 > 0 then (opn ds k : Int) - (r : Int) / 4 % 3 else 0), V.int (if (2 : Int) < (d0 : Int) then 2 else (d0 : Int))] ((r : Int) % 4) = some (.int d)/\d <= opn ds k := by
        have h4 : (r : Int) % 4 = ((r % 4 : Nat) : Int) := (Int.natCast_emod r 4).symm
        rw [h4]
        have hr4 : r % 4 < 4 := Nat.mod_lt _ (by decide)
        generalize r % 4 = m at *
        match m, hr4 with
        | 0, _ => exact ⟨d0, Bx rfl, hd01⟩
        | 1, _ => exact ⟨opn ds k, Bx rfl, Nat.le_refl _⟩
        | 2, _ =>
          refine ⟨((opn ds k : Int) - (r : Int) / 4 % 3).toNat, (Bx rfl).trans ?_, by omega⟩
          congr 2
          split <;> omega
        | 3, _ =>
          refine ⟨min 2 d0, (Bx rfl).trans ?_, by omega⟩
          congr 2
          split <;> omega
      have u9 := Ah (o := .lst [V.int (d0 : Int), V.int (opn ds k : Int), V.int (if (opn ds k : Int) - (r : Int) / 4 % 3 > 0 then (opn ds k : Int) - (r : Int) / 4 % 3 else 0), V.int (if (2 : Int) < (d0 : Int) then 2 else (d0 : Int))]) h9
      refine Eb (SqL.of Ac) hat ?_
      replace hp1 := u9 _ _ hp1
      replace hq1 := u9 _ _ hq1
      replace s1 := s1.trans u9
      generalize upd H1 q9 _ = H1 at *
      k_is
      refine ⟨.inl ⟨rfl, _, SqL.of hp1⟩, ?_⟩
      k_is
      refine ⟨few (by simp), fun q3 h3 => ?_⟩
      have u3 := Ah (o := .lst [V.int (-1)]) h3
      k_is
      refine ⟨q3, q1, _, _, rfl, rfl, Ac, u3 _ _ hq1, ?_, fun q4 h4 => ?_⟩
      · rw [List.length_map, hwt]
        exact few (by simp only [List.length_cons, List.length_nil]; omega)
      rw [Xa hD (by omega)] at *
      have u4 := u3.trans (Ah (o := .lst ((way ds k).map V.int)) h4)
      have h44 : (upd (upd H1 q3 (.lst [V.int (-1)])) q4 (.lst ((way ds k).map V.int))) q4 = some (.lst ((way ds k).map V.int)) := Ac
      generalize (upd (upd H1 q3 (.lst [V.int (-1)])) q4 (.lst ((way ds k).map V.int))) = H4 at *
      k_is
      refine Eb (SqL.of h44) (Xx hD (by omega) hd1) ?_
      k_is
      refine Ex (u4 _ _ hp1) ?_ ?_
      · rw [List.length_map, Bv]
        exact Ap (by omega)
      have s5 := Cp (o := .lst ((Az ds).map V.int ++ [V.int ((way ds k).getD d 0)])) (s1.trans u4) hp
      have hq5 : upd H4 p (.lst ((Az ds).map V.int ++ [V.int ((way ds k).getD d 0)])) q1 = some (.lst ((way ds k).tail.map V.int)) := by rw [Al hne.symm]; exact u4 _ _ hq1
      have hp5 : upd H4 p (.lst ((Az ds).map V.int ++ [V.int ((way ds k).getD d 0)])) p = some (.lst ((Az ds).map V.int ++ [V.int ((way ds k).getD d 0)])) := Ac
      generalize upd H4 p (.lst ((Az ds).map V.int ++ [V.int ((way ds k).getD d 0)])) = H5 at *
      k_is
      refine ⟨q1, _, rfl, SqL.of hq5, fun q6 h6 => ?_⟩
      rw [Si, <- List.map_take] at *
      have u6 := Ah (o := .lst (((way ds k).tail.take d).map V.int)) h6
      k_is
      refine ⟨few (by simp), fun q7 h7 => ?_⟩
      have u7 := Ah (o := .lst [V.int (0 + (k : Int))]) h7
      refine ⟨q6, q7, _, _, rfl, rfl, u7 _ _ Ac, Ac, ?_, fun q8 h8 => ?_⟩
      · rw [List.length_map, List.length_take]
        exact few (by simp only [List.length_cons, List.length_nil]; omega)
      have u8 := Ah (o := .lst (((way ds k).tail.take d).map V.int ++ [V.int (0 + (k : Int))])) h8
      k_is
      have hp8 := u8 _ _ (u7 _ _ (u6 _ _ hp5))
      refine ⟨⟨q8, ds ++ [d], _, _, _, _, _, rfl, Ga hD (by rw [hl]; exact hd1), by rw [List.length_append, hl]; rfl, ?_, ?_, Aq (u7 _ _ (u6 _ _ hp5)) h8⟩, ((s5.trans u6).trans u7).trans u8⟩
      · rw [hp8, Ee, List.map_append, hl]
        rfl
      · have e := Fm ds d
        rw [hl] at e
        rw [Ac, e, show (0 + (k : Int)) = (k : Int) by omega]
        have e2 : ((way ds k).take (d + 1) ++ [(k : Int)]).tail = (way ds k).tail.take d ++ [(k : Int)] := by
          rw [Jx hD (by omega)]
          rfl
        rw [e2, List.map_append]
        rfl
    · rintro σ H1 ⟨⟨q1, ds, v4, v5, v6, v7, v8, rfl, hD, hl, hp1, hq1, hne⟩, s1⟩
      k_is
      exact q p ds H1 s1 hp hp1 hD hl
def nE:Sp:=fun vs H Q _=>∃ (a:Addr) (ds:List Nat) (m:Nat) (b:Bool),vs=[.ref a,.int m,.bl b]/\H a=some (.lst ((Az ds).map V.int))/\Dok ds/\0<ds.length/\m*ds.length<=1000/\ds.length<=60/\∀ p (es:List Nat) H',Ak H H'->H p=none->H' p=some (.lst ((Az es).map V.int))->Dok es->es.length=(m+1)*ds.length->Q (.ref p) H'
theorem fB {ds:List Nat}(h:Dok ds)(hp:0<ds.length):(way ds ds.length).getD (opn ds ds.length) 0=(ds.length:Int)-1:=by
 obtain ⟨k,hk⟩:∃ k,ds.length=k+1:=⟨ds.length-1,by omega⟩
 rw [hk]
 show ((way ds k).take (dAt ds k+1)++[(k:Int)]).getD (dAt ds k+1) 0=_
 have hw:=Cu h k (by omega)
 have:=h k (by omega)
 unfold List.getD
 rw [List.getElem?_append_right (by rw [List.length_take];omega),List.length_take,Nat.min_eq_left (by omega),Nat.sub_self]
 show (k:Int)=((k+1:Nat):Int)-1
 omega
theorem Ou {f : Addr}{fd : FuncData}(F : Fun K "_law_repeated" "_law_repeated" Et f fd)(T : Txt K mg aB aC ah ad aa ac aj am ao aq ar au av aw ax ay az aA) : Ax P w K mg base CX0 1 f fd ["_law_elders", "_law_times", "_law_hung"] nE := by
  refine F.ok B0 (fun vs H Q E h => ?_) (fun cdv A outer s H vs Q E hr h => ?_)
  · obtain ⟨a, ds, m, b, rfl, _⟩ := h
    rfl
  · obtain ⟨a, ds, m, b, rfl, ha, hD, hpos, hm, hn, q⟩ := h
    have hm1 : m <= 1000 := Nat.le_trans (Nat.le_mul_of_pos_right m hpos) hm
    refine ⟨_, (Ab (Am (i := 3) B0.nd rfl (Or.inl rfl) (Di Iw (by rfl) T.n_list Rq (Ad (pv 0) Aa rfl)))
      (Ab (D0 PassesOwn.never rfl (F7 rfl T.n_range (Ad (pv 1) Aa rfl)) (Bn (i := 4) B0.nd rfl (Or.inl rfl))
      (Ab (Am (i := 5) B0.nd rfl (Or.inr rfl) (Ar Bk (by rfl) T.n_len Em (Ad (pv 3) Aa rfl)))
      (Ab (Am (i := 6) B0.nd rfl (Or.inr rfl) (Dy Ch Af))
      (Ab (Yv (C5 (pv 2)) (Ag (Am (i := 6) B0.nd rfl (Or.inr rfl) (Aj Cl (pv 5) Af)))
      A6)
      (Ag (Am (i := 3) B0.nd rfl (Or.inl rfl) (Aj Fp (pv 3) (Oa rfl Ly (Fa (pv 0)) (fun _ _ _ _ => Dg) (fun _ _ _ _ => (Gm (An Oc (pv 0) Af (Au _)) (pv 1) (Aj Be (pv 0) (pv 2))))))))))))
      (Ag (Ao (pv 3))))), ?_⟩
    k_is
    refine ⟨a, _, rfl, .inl (SqL.of ha), fun p hp => ?_⟩
    have t0 := Ah (o := .lst ((Az ds).map V.int)) hp
    k_is
    refine ⟨_, rfl, by omega, by omega, ?_⟩
    rw [Int.toNat_natCast]
    refine Hd (fun k σ H1 => (∃ (p1 : Addr) (es : List Nat) (v4 v5 v6 : Option V), σ = [some (.ref a), some (.int m), some (.bl b), some (.ref p1), v4, v5, v6]/\Dok es/\es.length = (k + 1) * ds.length/\H p1 = none/\H1 p1 = some (.lst ((Az es).map V.int)))/\Ak H H1) ?_ ?_ ?_
    · exact ⟨⟨p, ds, _, _, _, rfl, hD, by omega, hp, Ac⟩, t0⟩
    · rintro k σ H1 hk ⟨⟨p1, es, v4, v5, v6, rfl, hE, hl, hp0, hp1⟩, s1⟩
      have hlm : (k + 1) * ds.length <= 1000 := Nat.le_trans (Nat.mul_le_mul_right _ (by omega)) hm
      have hlp : 0 < es.length := by rw [hl]; exact Nat.mul_pos (Nat.succ_pos _) hpos
      k_is
      refine ⟨p1, _, rfl, .inl (SqL.of hp1), ?_⟩
      k_is
      rw [List.length_map, Bv]
      refine kM (fun σ H' => H' = H1/\∃ D : Nat, D <= opn es es.length/\σ = [some (.ref a), some (.int m), some (.bl b), some (.ref p1), some (.int (0 + (k : Int))), some (.int (es.length : Int)), some (.int ((way es es.length).getD D 0))]) ?_ ?_
      · k_is
        cases b with
        | true =>
          k_is
          refine ⟨rfl, opn es es.length, Nat.le_refl _, ?_⟩
          rw [fB hE hlp]
          rfl
        | false =>
          k_is
          refine ⟨rfl, 0, Nat.zero_le _, ?_⟩
          have e1 : (way es es.length).getD 0 0 = -1 := by rw [Jx hE (Nat.le_refl _)]; rfl
          rw [e1]
          rfl
      · rintro σ H' ⟨rfl, D, hDo, rfl⟩
        k_is
        generalize hbs : (way es es.length).getD D 0 = bs
        refine ⟨a, rfl, ⟨_, SqL.of (s1 _ _ ha)⟩, ?_⟩
        refine Mr (SqL.of (s1 _ _ ha)) (fun i => ((Az ds).take i |>.map (shI es.length bs)).map V.int) rfl (fun i hi => ?_) (fun i x H2 R A hx s2 kR kA => ?_) (fun D2 H2 hD2 s2 hl2 => ?_)
        · rw [List.length_map, List.length_map, List.length_take]
          exact Ap (by rw [Bv]; omega)
        · obtain ⟨n, hn2, rfl⟩ := cH hx
          have hacc : (((Az ds).take (i + 1)).map (shI es.length bs)).map V.int = (((Az ds).take i).map (shI es.length bs)).map V.int ++ [.int (shI es.length bs n)] := by
            rw [List.take_add_one, hn2, List.map_append, List.map_append]
            rfl
          k_is
          refine B8 (fun h => ?_) (fun h => ?_)
          · k_is
            refine kA _ _ ?_ (Ak.refl _)
            rw [hacc]
            unfold shI
            rw [if_pos h]
          · k_is
            refine kA _ _ ?_ (Ak.refl _)
            rw [hacc]
            unfold shI
            rw [if_neg h]
        · rw [List.take_of_length_le (by rw [List.length_map]; exact Nat.le_refl _)] at hl2
          obtain ⟨c1, c2, _⟩ := nY hE hDo ds hD
          rw [hbs] at c2
          k_is
          refine ⟨p1, D2, _, _, rfl, rfl, s2 _ _ hp1, hl2, ?_, fun p3 hp3 => ?_⟩
          · simp only [List.length_map, Bv]
            exact Nat.le_of_lt (Ap (by omega))
          have u3 := Ah (o := .lst ((Az es).map V.int ++ ((Az ds).map (shI es.length bs)).map V.int)) hp3
          k_is
          refine ⟨⟨p3, Hg es D ds, _, _, _, rfl, c1, ?_, (s1.trans s2).free hp3, ?_⟩, (s1.trans s2).trans u3⟩
          · rw [Xz, hl, Nat.add_mul (k + 1) 1, Nat.one_mul]
          · rw [Ac, c2, List.map_append]
    · rintro σ H1 ⟨⟨p1, es, v4, v5, v6, rfl, hE, hl, hp0, hp1⟩, s1⟩
      k_is
      exact q p1 es H1 s1 hp0 hp1 hE hl
def Uq (K:PySem.W.Frag):Sp:=fun vs H Q _=>∃ (a:Addr) (ns:List Int) (L:Nat),vs=[.ref a,.int 60,.int L]/\SqL K H a (ns.map V.int)/\L<=400/\∀ p (ds:List Nat) H',Ak H H'->H p=none->H' p=some (.lst ((Az ds).map V.int))->Dok ds->ds.length<=460->Q (.ref p) H'
theorem Ys {f : Addr}{fd : FuncData}(F : Fun K "_law_wood" "_law_wood" Lp f fd)(T : Txt K mg aB aC ah ad aa ac aj am ao aq ar au av aw ax ay az aA)(aD : Cal P w K mg base "_law_cell_at" 1 ["_law_script", "_law_k"] (P9 K))(bY : Cal P w K mg base "_law_grown" 1 ["_law_cell", "_law_many"] Wn)(bZ : Cal P w K mg base "_law_drawn" 2 ["_law_script", "_law_many"] (U5 K))(b7 : Cal P w K mg base "_law_repeated" 1 ["_law_elders", "_law_times", "_law_hung"] nE) : Ax P w K mg base CX0 3 f fd ["_law_script", "_law_most", "_law_large"] (Uq K) := by
  refine F.ok Ec (fun vs H Q E h => ?_) (fun cdv A outer s H vs Q E hr h => ?_)
  · obtain ⟨a, ns, L, rfl, _⟩ := h
    rfl
  · obtain ⟨a, ns, L, rfl, hS, hL, q⟩ := h
    refine ⟨_, (Ab (Am (i := 3) Ec.nd rfl (Or.inl rfl) (A4 aD (hr.mono (by decide : 1 <= _)) (Ad (pv 0) (Ad Af Aa rfl) rfl)))
      (Ab (Am (i := 4) Ec.nd rfl (Or.inl rfl) (Aj Ca (Aj Cf (pv 3) Af) (Aj Be (pv 1) Af)))
      (Ab (Am (i := 5) Ec.nd rfl (Or.inl rfl) (A4 bZ (hr.mono (by decide : 2 <= _)) (Ad (pv 0) (Ad (pv 4) Aa rfl) rfl)))
      (Ab (Yv (PW.pt (Nu (An B7 (Aj Ca (pv 3) Af) Af (Au _)) (Kp (An uT (Ar lA (by rfl) T.n_abs wV (Ad (A4 aD (hr.mono (by decide : 1 <= _)) (Ad (pv 0) (Ad Af Aa rfl) rfl)) Aa rfl)) (Aj Vg Af Af) (Au _))))) (Ag (Am (i := 5) Ec.nd rfl (Or.inl rfl) (A4 bY (hr.mono (by decide : 1 <= _)) (Ad (A4 aD (hr.mono (by decide : 1 <= _)) (Ad (pv 0) (Ad Af Aa rfl) rfl)) (Ad (pv 4) Aa rfl) rfl))))
      A6)
      (Ab (Yv (PW.pt (Nu (An B7 (Aj Ca (Aj Cf (pv 3) Af) Af) Af (Au _)) (Kp (An K2 (pv 4) Af (Au _))))) (Ag (Am (i := 5) Ec.nd rfl (Or.inl rfl) (A4 b7 (hr.mono (by decide : 1 <= _)) (Ad (pv 5) (Ad (Aj Cf (pv 2) (pv 4)) (Ad (Pe B7 (Aj Ca (A4 aD (hr.mono (by decide : 1 <= _)) (Ad (pv 0) (Ad Af Aa rfl) rfl)) Af) Af (Au _)) Aa rfl) rfl) rfl))))
      A6)
      (Ag (Ao (pv 5)))))))), ?_⟩
    k_is
    refine ⟨a, ns, 0, rfl, hS, fun c => ?_⟩
    k_is
    obtain ⟨n, hn, hn1⟩ := Ff (c / 8) 60
    have hn' : c / 8 % (60 + 1) = (n : Int) := hn
    rw [hn']
    refine ⟨a, ns, n, rfl, hS, hn1, fun p0 d0 H1 s1 hp0 h0 hD0 hl0 => ?_⟩
    k_is
    refine kM (fun σ H' => Ak H H'/\∃ (p : Addr) (ds : List Nat), σ = [some (.ref a), some (.int 60), some (.int L), some (.int c), some (.int n), some (.ref p)]/\H p = none/\H' p = some (.lst ((Az ds).map V.int))/\Dok ds/\ds.length = n) ?_ ?_
    · k_is
      have keep : Ak H H1/\∃ (p : Addr) (ds : List Nat), [some (V.ref a), some (.int 60), some (.int L), some (.int c), some (.int n), some (.ref p0)] = [some (V.ref a), some (.int 60), some (.int L), some (.int c), some (.int n), some (.ref p)]/\H p = none/\H1 p = some (.lst ((Az ds).map V.int))/\Dok ds/\ds.length = n := ⟨s1, p0, d0, rfl, hp0, h0, hD0, hl0⟩
      refine B8 (fun h2 => ?_) (fun h2 => ?_)
      · k_is
        refine ⟨a, ns, 1, rfl, s1.seq hS, fun c1 => ?_⟩
        k_is
        refine ⟨_, rfl, ?_⟩
        k_is
        refine ⟨10, 18, rfl, rfl, ⟨by decide, by decide, by decide⟩, ?_⟩
        k_is
        refine B8 (fun h3 => ?_) (fun h3 => ?_)
        · k_is
          refine ⟨a, ns, 1, rfl, s1.seq hS, fun c2 => ?_⟩
          k_is
          refine ⟨c2, n, rfl, hn1, fun p1 d1 H3 s3 hp1 h1 hD1 hl1 => ?_⟩
          k_is
          exact ⟨s1.trans s3, p1, d1, rfl, s1.free hp1, h1, hD1, hl1⟩
        · k_is
          exact keep
      · k_is
        exact keep
    · rintro σ H2 ⟨s2, p, ds, rfl, hp, h2, hD, hl⟩
      k_is
      refine kM (fun σ H' => Ak H H'/\∃ (p : Addr) (es : List Nat), σ = [some (.ref a), some (.int 60), some (.int L), some (.int c), some (.int n), some (.ref p)]/\H p = none/\H' p = some (.lst ((Az es).map V.int))/\Dok es/\es.length <= 460) ?_ ?_
      · have keep : Ak H H2/\∃ (q : Addr) (es : List Nat), [some (V.ref a), some (.int 60), some (.int L), some (.int c), some (.int n), some (.ref p)] = [some (V.ref a), some (.int 60), some (.int L), some (.int c), some (.int n), some (.ref q)]/\H q = none/\H2 q = some (.lst ((Az es).map V.int))/\Dok es/\es.length <= 460 := ⟨s2, p, ds, rfl, hp, h2, hD, by omega⟩
        k_is
        refine B8 (fun h4 => ?_) (fun h4 => ?_)
        · k_is
          refine B8 (fun h5 => ?_) (fun h5 => ?_)
          · k_is
            refine lS (by omega) (by omega) ?_
            k_is
            refine ⟨a, ns, 2, rfl, s2.seq hS, fun c3 => ?_⟩
            k_is
            have e1 : (L : Int) / (n : Int) = ((L / n : Nat) : Int) := (Int.natCast_ediv L n).symm
            have hm : L / n * n <= L := Nat.div_mul_le_self L n
            rw [e1]
            refine ⟨p, ds, L / n, _, rfl, h2, hD, by omega, by rw [hl]; omega, by omega, fun p4 es H4 s4 hp4 h44 hE hle => ?_⟩
            k_is
            refine ⟨s2.trans s4, p4, es, rfl, s2.free hp4, h44, hE, ?_⟩
            rw [hle, hl, Nat.add_mul, Nat.one_mul]
            omega
          · k_is
            exact keep
        · k_is
          exact keep
      · rintro σ H5 ⟨s5, p5, es, rfl, hp5, h5, hE, hle⟩
        k_is
        exact q p5 es H5 s5 hp5 h5 hE hle
def O3 (K:PySem.W.Frag)(CN CQ CW:Addr):Sp:=fun vs H Q _=>∃ (e C:Addr) (od:Option Addr),vs=[.ref e]/\H e=some (K9 e C od)/\((C=CN/\∀ H',Ak H H'->Q (.str "knot") H')\/(C=CQ/\∀ H',Ak H H'->Q (.str "place") H')\/(C=CW/\∀ H',Ak H H'->Q (.str "wood") H'))
theorem Uz {f : Addr}{fd : FuncData}(F : Fun K "_law_class" "_law_class" J5 f fd)(T : Txt K mg aB aC ah ad aa ac aj am ao aq ar au av aw ax ay az aA) : eO P w K mg base 1 f fd ["_law_e"] (O3 K aa ad ac) := by
  refine F.okU Mv (fun vs H Q E h => ?_) (fun cdv A A2 outer s H vs Q hr h => ?_)
  · obtain ⟨e, C, od, rfl, _⟩ := h
    rfl
  · obtain ⟨e, C, od, rfl, he, h⟩ := h
    obtain ⟨b1, b2, b3, hk, w1, w2, i1, i2, i3, no1, no2, hz⟩ : ∃ b1 b2 b3 : Bool, Ji K C/\kitOne K (.ref C) (.ref ah) = some true/\kitOne K (.ref C) (.type "ValueError") = some true/\kitOne K (.ref C) (.ref aa) = some b1/\kitOne K (.ref C) (.ref ad) = some b2/\kitOne K (.ref C) (.ref ac) = some b3/\kitAny K (.ref C) [.ref aj, .ref am, .ref ao, .ref aq, .ref ar, .ref au, .ref av, .ref aw, .ref ax, .ref ay] = some false/\kitAny K (.ref C) [.ref az, .ref aA] = some false/\((b1 = true/\b2 = false/\b3 = false/\∀ H', Ak H H'->Q (.str "knot") H')\/(b1 = false/\b2 = true/\b3 = false/\∀ H', Ak H H'->Q (.str "place") H')\/(b1 = false/\b2 = false/\b3 = true/\∀ H', Ak H H'->Q (.str "wood") H')) := by
      rcases h with ⟨rfl, q⟩ | ⟨rfl, q⟩ | ⟨rfl, q⟩
      · exact ⟨true, false, false, T.k_NoKnot, T.kit_NoKnot_WoodError, T.kit_NoKnot_ValueError, T.kit_NoKnot_NoKnot, T.kit_NoKnot_NoPlace, T.kit_NoKnot_NoWood, by simp only [kitAny, T.kit_NoKnot_NoBits, T.kit_NoKnot_NoRow, T.kit_NoKnot_NoOrder, T.kit_NoKnot_NoName, T.kit_NoKnot_NoFit, T.kit_NoKnot_NoGraft, T.kit_NoKnot_TooLarge, T.kit_NoKnot_NoDeed, T.kit_NoKnot_NoNumber, T.kit_NoKnot_NoLine], by simp only [kitAny, T.kit_NoKnot_Nobody, T.kit_NoKnot_Nameless], .inl ⟨rfl, rfl, rfl, q⟩⟩
      · exact ⟨false, true, false, T.k_NoPlace, T.kit_NoPlace_WoodError, T.kit_NoPlace_ValueError, T.kit_NoPlace_NoKnot, T.kit_NoPlace_NoPlace, T.kit_NoPlace_NoWood, by simp only [kitAny, T.kit_NoPlace_NoBits, T.kit_NoPlace_NoRow, T.kit_NoPlace_NoOrder, T.kit_NoPlace_NoName, T.kit_NoPlace_NoFit, T.kit_NoPlace_NoGraft, T.kit_NoPlace_TooLarge, T.kit_NoPlace_NoDeed, T.kit_NoPlace_NoNumber, T.kit_NoPlace_NoLine], by simp only [kitAny, T.kit_NoPlace_Nobody, T.kit_NoPlace_Nameless], .inr (.inl ⟨rfl, rfl, rfl, q⟩)⟩
      · exact ⟨false, false, true, T.k_NoWood, T.kit_NoWood_WoodError, T.kit_NoWood_ValueError, T.kit_NoWood_NoKnot, T.kit_NoWood_NoPlace, T.kit_NoWood_NoWood, by simp only [kitAny, T.kit_NoWood_NoBits, T.kit_NoWood_NoRow, T.kit_NoWood_NoOrder, T.kit_NoWood_NoName, T.kit_NoWood_NoFit, T.kit_NoWood_NoGraft, T.kit_NoWood_TooLarge, T.kit_NoWood_NoDeed, T.kit_NoWood_NoNumber, T.kit_NoWood_NoLine], by simp only [kitAny, T.kit_NoWood_Nobody, T.kit_NoWood_Nameless], .inr (.inr ⟨rfl, rfl, rfl, q⟩)⟩
    clear h
    refine ⟨_, (Ab (B4 (PW.pt (K0 (E3 (C5 (Ar (Ds K) (by rfl) T.n_isinstance A9 (Ad (pv 0) (Ad (Bz (v := .ref _) rfl T.g_WoodError rfl) Aa rfl) rfl)))) (La (E3 (C5 (Ar (Ds K) (by rfl) T.n_isinstance A9 (Ad (pv 0) (Ad (F5 (v := .ty "ValueError") rfl T.We Um rfl) Aa rfl) rfl))))))) (Ag (Ao As))
      A6)
      (Ab (Am (i := 1) Mv.nd rfl (Or.inl rfl) (Bd (Ad (Ar (Ds K) (by rfl) T.n_isinstance A9 (Ad (pv 0) (Ad (Bz (v := .ref _) rfl T.g_NoKnot rfl) Aa rfl) rfl)) (Ad (Ar (Ds K) (by rfl) T.n_isinstance A9 (Ad (pv 0) (Ad (Bz (v := .ref _) rfl T.g_NoPlace rfl) Aa rfl) rfl)) (Ad (Ar (Ds K) (by rfl) T.n_isinstance A9 (Ad (pv 0) (Ad (Bz (v := .ref _) rfl T.g_NoWood rfl) Aa rfl) rfl)) Aa rfl) rfl) rfl)))
      (Ab (B4 (C5 (Ar (K1 K) (by rfl) T.n_isinstance A9 (Ad (pv 0) (Ad (Gh (Ad (Bz (v := .ref _) rfl T.g_NoBits rfl) (Ad (Bz (v := .ref _) rfl T.g_NoRow rfl) (Ad (Bz (v := .ref _) rfl T.g_NoOrder rfl) (Ad (Bz (v := .ref _) rfl T.g_NoName rfl) (Ad (Bz (v := .ref _) rfl T.g_NoFit rfl) (Ad (Bz (v := .ref _) rfl T.g_NoGraft rfl) (Ad (Bz (v := .ref _) rfl T.g_TooLarge rfl) (Ad (Bz (v := .ref _) rfl T.g_NoDeed rfl) (Ad (Bz (v := .ref _) rfl T.g_NoNumber rfl) (Ad (Bz (v := .ref _) rfl T.g_NoLine rfl) Aa rfl) rfl) rfl) rfl) rfl) rfl) rfl) rfl) rfl) rfl)) Aa rfl) rfl))) (Ag (Ao As))
      A6)
      (Ab (B4 (PW.pt (K0 (An Tw (cC K PySem.F.plainAttrs_list PySem.F.slot_list_count PySem.F.type_list_count Tz (pv 1) (Ad Gz Aa rfl)) Af (Au _)) (La (C5 (Ar (K1 K) (by rfl) T.n_isinstance A9 (Ad (pv 0) (Ad (Gh (Ad (Bz (v := .ref _) rfl T.g_Nobody rfl) (Ad (Bz (v := .ref _) rfl T.g_Nameless rfl) Aa rfl) rfl)) Aa rfl) rfl)))))) (Ag (Ao As))
      A6)
      (Ag (Ao (C3 (lZ K) (Bd (Ad As (Ad As (Ad As Aa rfl) rfl) rfl)) (cC K PySem.F.plainAttrs_list PySem.F.slot_list_index PySem.F.type_list_index gV (pv 1) (Ad Gz Aa rfl)) (fun _ _ => rfl)))))))), ?_⟩
    k_is
    refine ⟨e, C, od, _, _, _, rfl, he, hk, rfl, w1, ?_⟩
    k_is
    refine ⟨e, C, od, _, _, _, rfl, he, hk, rfl, w2, ?_⟩
    k_is
    refine ⟨e, C, od, _, _, _, rfl, he, hk, rfl, i1, ?_⟩
    k_is
    refine ⟨e, C, od, _, _, _, rfl, he, hk, rfl, i2, ?_⟩
    k_is
    refine ⟨e, C, od, _, _, _, rfl, he, hk, rfl, i3, ?_⟩
    k_is
    refine ⟨few (by simp), fun p1 h1 => ?_⟩
    have t1 := Ah (o := .lst [V.bl b1, V.bl b2, V.bl b3]) h1
    have e1 : upd H p1 (.lst [V.bl b1, V.bl b2, V.bl b3]) p1 = some (.lst [V.bl b1, V.bl b2, V.bl b3]) := Ac
    have he := t1 _ _ he
    generalize upd H p1 (.lst [V.bl b1, V.bl b2, V.bl b3]) = H1 at *
    k_is
    refine ⟨few (by simp), fun p2 h2 => ?_⟩
    have u2 := Ah (o := (.tup [V.ref aj, V.ref am, V.ref ao, V.ref aq, V.ref ar, V.ref au, V.ref av, V.ref aw, V.ref ax, V.ref ay])) h2
    have t2 := t1.trans u2
    refine ⟨e, C, od, p2, _, [.ref aj, .ref am, .ref ao, .ref aq, .ref ar, .ref au, .ref av, .ref aw, .ref ax, .ref ay], false, rfl, u2 _ _ he, hk, Ac, ⟨rfl, rfl, rfl, rfl, rfl, rfl, rfl, rfl, rfl, rfl, trivial⟩, no1, ?_⟩
    have he := u2 _ _ he
    have e1 := u2 _ _ e1
    generalize upd H1 p2 (.tup [V.ref aj, V.ref am, V.ref ao, V.ref aq, V.ref ar, V.ref au, V.ref av, V.ref aw, V.ref ax, V.ref ay]) = H2 at *
    k_is
    refine ⟨.inl ⟨rfl, _, SqL.of e1⟩, ?_⟩
    k_is
    refine ⟨p1, _, _, rfl, rfl, e1, rfl, rfl, ?_⟩
    rcases hz with ⟨rfl, rfl, rfl, q⟩ | ⟨rfl, rfl, rfl, q⟩ | ⟨rfl, rfl, rfl, q⟩
    all_goals
      k_is
      refine ⟨few (by simp), fun p3 h3 => ?_⟩
      have u3 := Ah (o := (.tup [V.ref az, V.ref aA])) h3
      refine ⟨e, C, od, p3, _, [.ref az, .ref aA], false, rfl, u3 _ _ he, hk, Ac, ⟨rfl, rfl, trivial⟩, no2, ?_⟩
      have e1 := u3 _ _ e1
      have t3 := t2.trans u3
      generalize upd H2 p3 (.tup [V.ref az, V.ref aA]) = H3 at *
      k_is
      refine ⟨few (by simp), fun p4 h4 => ?_⟩
      have u4 := Ah (o := (.lst [V.str ("knot" : Str), V.str ("place" : Str), V.str ("wood" : Str)])) h4
      have e4 : upd H3 p4 (.lst [V.str ("knot" : Str), V.str ("place" : Str), V.str ("wood" : Str)]) p4 = some (.lst [V.str ("knot" : Str), V.str ("place" : Str), V.str ("wood" : Str)]) := Ac
      have e1 := u4 _ _ e1
      have t4 := t3.trans u4
      generalize upd H3 p4 (.lst [V.str ("knot" : Str), V.str ("place" : Str), V.str ("wood" : Str)]) = H4 at *
      k_is
      refine ⟨.inl ⟨rfl, _, SqL.of e1⟩, ?_⟩
      k_is
    · exact ⟨p1, _, _, 0, rfl, rfl, e1, rfl, rfl, rfl, fun j hj => absurd hj (Nat.not_lt_zero _), Eb (SqL.of e4) rfl (q H4 t4)⟩
    · refine ⟨p1, _, _, 1, rfl, rfl, e1, rfl, rfl, rfl, fun j hj => ?_, Eb (SqL.of e4) rfl (q H4 t4)⟩
      obtain rfl : j = 0 := by omega
      simp [eqV]
    · refine ⟨p1, _, _, 2, rfl, rfl, e1, rfl, rfl, rfl, fun j hj => ?_, Eb (SqL.of e4) rfl (q H4 t4)⟩
      rcases j with _ | _ | j
      · simp [eqV]
      · simp [eqV]
      · omega
theorem Zn {ds:List Nat}(h:Dok ds){k:Nat}(hk:k<=ds.length):∃ r,way ds k=-1::r:=by
 have h0:=Fe h k hk
 cases e:way ds k with
 | nil=>rw [e] at h0;cases h0
 | cons x r =>
  rw [e] at h0
  exact ⟨r,by rw [Option.some.inj h0]⟩
def lX (K:PySem.W.Frag):Sp:=fun vs H Q _=>∃ (a:Addr) (xs:List V),vs=[.ref a]/\H a=some (.lst xs)/\(∀ x∈xs,Any K H x)/\xs.length<=600/\∀ r H',sC (some xs) r->Ak H H'->Q r H'
theorem Z6 {f : Addr}{fd : FuncData}(F : Fun K "_law_bar" "_law_bar" M8 f fd)(T : Txt K mg aB aC ah ad aa ac aj am ao aq ar au av aw ax ay az aA) : Ax P w K mg base CX0 1 f fd ["_law_things"] (lX K) := by
  refine F.ok E8 (fun vs H Q E h => ?_) (fun cdv A outer s H vs Q E hr h => ?_)
  · obtain ⟨a, xs, rfl, _⟩ := h
    rfl
  · obtain ⟨a, xs, rfl, ha, hf, hn, q⟩ := h
    refine ⟨_, (Ab (Am (i := 1) E8.nd rfl (Or.inl rfl) (Bd Aa))
      (Ab (D0 PassesOwn.never rfl (Pg rfl T.n_enumerate (Ad (pv 0) Aa rfl)) (Sj rfl (Dw (Bn (i := 2) E8.nd rfl (Or.inl rfl)) (Dw (Bn (i := 3) E8.nd rfl (Or.inl rfl)) Me)))
      (Ab (B4 (PW.pt (K0 (An B7 (pv 2) Af (Au _)) (K0 (E3 (C5 (Ar Cq (by rfl) T.n_isinstance A9 (Ad (pv 3) (Ad (F5 (v := .ty "int") rfl T.n_int mK rfl) Aa rfl) rfl)))) (La (C5 (Ar Cq (by rfl) T.n_isinstance A9 (Ad (pv 3) (Ad (F5 (v := .ty "bool") rfl T.n_bool Y2 rfl) Aa rfl) rfl))))))) (Ag (Ao (pv 2)))
      A6)
      (Ab (B4 (PW.pt (Nu (An Tw (pv 3) (Dy Ch Af) (Au _)) (Kp (An Wj (pv 3) (pv 1) rfl)))) (Ag (Ao (pv 2)))
      A6)
      (Ag (B4 (An B7 (pv 3) (Dy Ch Af) (Au _)) (Ag (Am (i := 1) E8.nd rfl (Or.inl rfl) (Bd (Ad (pv 2) Aa rfl))))
      (Ag (Am (i := 1) E8.nd rfl (Or.inl rfl) (Aj Fp (Ce Ii (pv 1) G0 (Bw (Aj Be (Ey PySem.F.plainAttrs_list PySem.F.slot_list_index PySem.F.type_list_index Wz (pv 1) (Ad (pv 3) Aa rfl)) Af))) (Bd (Ad (pv 2) Aa rfl))))))))))
      (Ag (Ao Ki)))), ?_⟩
    k_is
    refine ⟨Nat.zero_le _, fun p hp => ?_⟩
    have t0 := Ah (o := .lst []) hp
    k_is
    refine ⟨a, rfl, ⟨_, SqL.of (t0 _ _ ha)⟩, ?_⟩
    refine R9 (xs := xs) (fun k σ H1 => (∃ (q1 : Addr) (ds : List Nat) (v2 v3 : Option V), σ = [some (.ref a), some (.ref q1), v2, v3]/\Dok ds/\ds.length = k/\xs.take k = (Az ds).map V.int/\H1 q1 = some (.lst (((way ds k).drop 1).map V.int)))/\Ak H H1) ?_ (fun k σ H1 _ h => SqL.of (h.2 _ _ ha)) ?_ ?_
    · exact ⟨⟨p, [], _, _, rfl, (fun k hk => by cases hk), rfl, rfl, Ac⟩, t0⟩
    · rintro k x σ H1 t hx ⟨⟨q1, ds, v2, v3, rfl, hD, hl, htk, hq1⟩, s1⟩ ht
      have hk := Dl hx
      have st := Ah (o := .tup [.int k, x]) ht
      have s2 := s1.trans st
      obtain ⟨r, hr⟩ := Zn hD (k := k) (by omega)
      rw [hr] at hq1
      have hq2 : upd H1 t (.tup [.int k, x]) q1 = some (.lst (r.map V.int)) := st _ _ hq1
      generalize upd H1 t (.tup [.int k, x]) = H2 at *
      have out : (∀ e, xs[k]? = some (V.int e)->e ∉ way ds k)->∀ H3, Ak H H3->Q (.int (k : Int)) H3 := fun hb H3 s3 => q _ _ (.inr ⟨k, rfl, ds, hD, hl, hk, by omega, htk, .inr hb⟩) s3
      obtain ⟨ty, b1, b2, hty, hb1, hb2, hbx⟩ := (hf x (List.mem_of_getElem? hx)).same s2
      have noI : isI x = false->∀ e, xs[k]? = some (V.int e)->e ∉ way ds k := fun hix e he => by
        rw [hx] at he
        rw [Option.some.inj he] at hix
        cases hix
      k_is
      refine B8 (fun h => absurd (V.int.inj h) (by omega)) (fun _ => ?_)
      k_is
      refine ⟨_, _, _, _, rfl, hty, hb1, ?_⟩
      cases b1 with
      | false =>
        k_is
        exact out (noI (by rw [<- hbx]; rfl)) H2 s2
      | true =>
        k_is
        refine ⟨_, _, _, _, rfl, hty, hb2, ?_⟩
        cases b2 with
        | true =>
          k_is
          exact out (noI (by rw [<- hbx]; rfl)) H2 s2
        | false =>
          obtain ⟨e, rfl⟩ := Vq (x := x) (by rw [<- hbx]; rfl)
          have hw := Cu hD k (by omega)
          have hok := P0 hD k (by omega)
          k_is
          refine wP (fun hne => ?_) (fun heq => ?_)
          · have hne : e ≠ -1 := fun h => hne (congrArg V.int h)
            k_is
            refine ⟨q1, _, rfl, .inl (SqL.of hq2), rfl, Hm _, ?_⟩
            rw [sV]
            by_cases hm : e ∈ r
            · rw [decide_eq_true hm, show (if true = true then !true else true) = false by decide]
              obtain ⟨d, hd⟩ := List.getElem?_of_mem hm
              have hdl := Dl hd
              rw [hr, List.length_cons] at hw
              k_is
              refine B8 (fun h => absurd (V.int.inj h) hne) (fun _ => ?_)
              k_is
              refine ⟨.inl ⟨rfl, _, SqL.of hq2⟩, ?_⟩
              k_is
              refine ⟨q1, r, e, d, rfl, rfl, hq2, hd, fun i hi he => ?_, ?_⟩
              · have h1 : (way ds k)[i + 1]? = some e := by rw [hr]; exact he
                have h2 : (way ds k)[d + 1]? = some e := by rw [hr]; exact hd
                have := Lj hD k (i + 1) (d + 1) _ _ (by omega) (by omega) h1 h2
                omega
              k_is
              refine ⟨q1, _, rfl, SqL.of hq2, fun q3 h3 => ?_⟩
              rw [show ((d : Int) + 1) = ((d + 1 : Nat) : Int) by omega, Si, <- List.map_take] at *
              have u3 := Ah (o := .lst ((r.take (d + 1)).map V.int)) h3
              k_is
              refine ⟨few (by simp), fun q4 h4 => ?_⟩
              have u4 := Ah (o := .lst [V.int (k : Int)]) h4
              refine ⟨q3, q4, _, _, rfl, rfl, u4 _ _ Ac, Ac, ?_, fun q5 h5 => ?_⟩
              · rw [List.length_map, List.length_take]
                exact few (by simp only [List.length_cons, List.length_nil]; omega)
              have u5 := Ah (o := .lst ((r.take (d + 1)).map V.int ++ [V.int (k : Int)])) h5
              k_is
              have hgd : (way ds k).getD (d + 1) 0 = e := by rw [hr]; unfold List.getD; rw [List.getElem?_cons_succ, hd]; rfl
              refine ⟨⟨q5, ds ++ [d + 1], _, _, rfl, Ga hD (by rw [hl]; omega), by rw [List.length_append, hl]; rfl, ?_, ?_⟩, ((s2.trans u3).trans u4).trans u5⟩
              · rw [Nc hx, htk, Ee, hl, hgd, List.map_append]
                rfl
              · have e1 := Fm ds (d + 1)
                rw [hl, hr] at e1
                rw [Ac, e1, List.take_succ_cons, List.cons_append, List.drop_succ_cons, List.drop_zero, List.map_append]
                rfl
            · rw [decide_eq_false hm, show (if true = true then !false else false) = true by decide]
              k_is
              refine out (fun e' he hm' => ?_) H2 s2
              rw [hx] at he
              rw [<- V.int.inj (Option.some.inj he), hr] at hm'
              rcases List.mem_cons.mp hm' with h | h
              · exact hne h
              · exact hm h
          · obtain rfl : e = -1 := V.int.inj heq
            k_is
            refine ⟨few (by simp), fun q5 h5 => ?_⟩
            have u5 := Ah (o := .lst [V.int (k : Int)]) h5
            have hgd : (way ds k).getD 0 0 = -1 := by rw [hr]; rfl
            refine ⟨⟨q5, ds ++ [0], _, _, rfl, Ga hD (by omega), by rw [List.length_append, hl]; rfl, ?_, ?_⟩, s2.trans u5⟩
            · rw [Nc hx, htk, Ee, hl, hgd, List.map_append]
              rfl
            · have e1 := Fm ds 0
              rw [hl, hr] at e1
              rw [Ac, e1]
              rfl
    · rintro σ H1 ⟨⟨q1, ds, v2, v3, rfl, hD, hl, htk, hq1⟩, s1⟩
      rw [List.take_of_length_le (Nat.le_refl _)] at htk
      k_is
      exact q _ _ (.inl ⟨rfl, ds, hD, by omega, htk⟩) s1
theorem X8 (xs:List V)(m:Nat):Lr xs (some (m:Int)) none=xs.drop m:=by
 unfold Lr
 rw [HT.sIx_nat]
 show List.take (xs.length-min m xs.length) (List.drop (min m xs.length) xs)=_
 rw [List.take_of_length_le (by rw [List.length_drop];omega)]
 by_cases h:m<=xs.length
 ·rw [Nat.min_eq_left h]
 ·rw [Nat.min_eq_right (by omega),List.drop_of_length_le (Nat.le_refl _),List.drop_of_length_le (by omega)]
def Na (K:PySem.W.Frag):Sp:=fun vs H Q _=>∃ (a:Addr) (ds:List Nat) (r:Nat),vs=[.ref a,.int r]/\H a=some (.lst ((Az ds).map V.int))/\ds.length<=460/\∀ p (xs:List V) H',Ak H H'->H' p=some (.lst xs)->(∀ x∈xs,Any K H' x)->xs.length<=500->Q (.ref p) H'
theorem So {f : Addr}{fd : FuncData}(F : Fun K "_law_spoilt" "_law_spoilt" Ie f fd)(T : Txt K mg aB aC ah ad aa ac aj am ao aq ar au av aw ax ay az aA) : Ax P w K mg base CX0 1 f fd ["_law_elders", "_law_number"] (Na K) := by
  refine F.ok Hc (fun vs H Q E h => ?_) (fun cdv A outer s H vs Q E hr h => ?_)
  · obtain ⟨a, ds, r, rfl, _⟩ := h
    rfl
  · obtain ⟨a, ds, r, rfl, ha, hn, q⟩ := h
    have hle : ((Az ds).map V.int).length = ds.length := by rw [List.length_map, Bv]
    have anyL : ∀ {H' : Hp} {y : V}, y ∈ (Az ds).map V.int->Any K H' y := fun hy => by
      obtain ⟨n, _, rfl⟩ := List.mem_map.mp hy
      exact Bt n
    have finX : ∀ (i j : Nat) (x : V) p (H2 : Hp), i <= j->Ak H H2->Any K H2 x->H2 p = some (.lst (((Az ds).map V.int).take i ++ [x] ++ ((Az ds).map V.int).drop j))->Q (.ref p) H2 := fun i j x p H2 hij s2 hxA hp => by
      refine q p _ H2 s2 hp (fun y hy => ?_) ?_
      · rcases List.mem_append.mp hy with hy | hy
        · rcases List.mem_append.mp hy with hy | hy
          · exact anyL (List.mem_of_mem_take hy)
          · obtain rfl := List.mem_singleton.mp hy
            exact hxA
        · exact anyL (List.mem_of_mem_drop hy)
      · rw [List.length_append, List.length_append, List.length_take, List.length_drop, hle, List.length_singleton]
        omega
    refine ⟨_, (mH.h (O0 (si (Am (i := 2) Hc.nd rfl (Or.inl rfl) (Aj Ca (Aj Cf (pv 1) Af) (Aj Be (Ar Bk (by rfl) T.n_len Em (Ad (pv 0) Aa rfl)) Af))))
      (O0 (jA (i := 3) Hc.nd rfl (Or.inl rfl) (vR Ci (mG (Gv Ki (Gv Gz (Gv (Dy Ch Af) (Gv (pv 2) (Gv (Aj Be (pv 2) Af) (Gv (Aj Vg Af Af) (Gv As (Gv (Bd (Ad Af Aa rfl)) (Gv (Aj Cl (pv 2) Af) (Gv (Aj Cf (pv 2) Af) (Gv (Dy Ch Af) (Gv Gz hX rfl) rfl) rfl) rfl) rfl) rfl) rfl) rfl) rfl) rfl) rfl) rfl)) (Aj Ca (pv 1) Af) (fun _ _ => rfl)))
      (O0 (si (B4 (An B7 (Aj Ca (Aj Cf (pv 1) Af) Af) Af (Au _)) (Ag (Ao (Aj Fp (Aj Fp (Ce Ii (pv 0) G0 (Bw (pv 2))) (Bd (Ad (pv 3) Aa rfl))) (Ce Ii (pv 0) (Bw (pv 2)) G0))))
      A6))
      (jF (si (Ao (Aj Fp (Aj Fp (Ce Ii (pv 0) G0 (Bw (pv 2))) (Bd (Ad (pv 3) Aa rfl))) (Ce Ii (pv 0) (Bw (Aj Be (pv 2) Af)) G0))))))))), ?_⟩
    k_is
    refine ⟨a, _, rfl, .inl (SqL.of ha), ?_⟩
    rw [hle]
    k_is
    refine W7 (by omega) ?_
    obtain ⟨k, hk, hk1⟩ := Ff ((r : Int) / 64) ds.length
    rw [hk]
    k_is
    refine ⟨10, 20, rfl, rfl, ⟨by decide, by decide, by decide⟩, ?_⟩
    k_is
    refine ⟨few (by simp), fun pz hz => ?_⟩
    have uz := Ah (o := .lst [V.int 0]) hz
    have hz1 : upd H pz (.lst [V.int 0]) pz = some (.lst [V.int 0]) := Ac
    have ha1 := uz _ _ ha
    generalize upd H pz (.lst [V.int 0]) = H1 at *
    k_is
    refine ⟨few (by simp), fun pl hl => ?_⟩
    generalize hL : [V.non, V.bl true, V.int (-2), V.int (k : Int), V.int ((k : Int) + 1), V.int (10 ^ Int.toNat 20), V.str ("0" : Str), V.ref pz, V.int ((k : Int) - 2), V.int ((k : Int) / 2), V.int (-1), V.bl false] = L at *
    have hLl : L.length = 12 := by rw [<- hL]; rfl
    have ul := Ah (o := .lst L) hl
    have hl2 : upd H1 pl (.lst L) pl = some (.lst L) := Ac
    have ha2 := ul _ _ ha1
    have hz2 := ul _ _ hz1
    have ux := uz.trans ul
    generalize upd H1 pl (.lst L) = H2 at *
    have hA : ∀ x ∈ L, Any K H2 x := fun x hx => by
      rw [<- hL] at hx
      simp only [List.mem_cons, List.not_mem_nil, or_false] at hx
      rcases hx with rfl | rfl | rfl | rfl | rfl | rfl | rfl | rfl | rfl | rfl | rfl | rfl
      · exact Vt
      · exact Nw _
      · exact Bt _
      · exact Bt _
      · exact Bt _
      · exact Bt _
      · exact T7 _
      · exact Uo hz2
      · exact Bt _
      · exact Bt _
      · exact Bt _
      · exact Nw _
    obtain ⟨i, hi, hi1⟩ := Ff (r : Int) 11
    have hi : (r : Int) % 12 = (i : Int) := hi
    obtain ⟨x, hx⟩ : ∃ x, L[i]? = some x := ⟨_, List.getElem?_eq_getElem (by omega)⟩
    have hxA := hA x (List.mem_of_getElem? hx)
    k_is
    rw [hi]
    refine Eb (SqL.of hl2) (Bx hx) ?_
    k_is
    refine B8 (fun _ => ?_) (fun _ => ?_)
    · k_is
      refine ⟨a, _, rfl, SqL.of ha2, fun q1 h1 => ?_⟩
      rw [Si] at *
      have u1 := Ah (o := .lst (((Az ds).map V.int).take k)) h1
      k_is
      refine ⟨few (by simp), fun q2 h2 => ?_⟩
      have u2 := Ah (o := .lst [x]) h2
      refine ⟨q1, q2, _, _, rfl, rfl, u2 _ _ Ac, Ac, ?_, fun q3 h3 => ?_⟩
      · rw [List.length_take, hle]
        exact few (by simp only [List.length_cons, List.length_nil]; omega)
      have u3 := Ah (o := .lst (((Az ds).map V.int).take k ++ [x])) h3
      k_is
      have u123 := (u1.trans u2).trans u3
      refine ⟨a, _, rfl, SqL.of (u123 _ _ ha2), fun q4 h4 => ?_⟩
      rw [X8] at *
      have u4 := Ah (o := .lst (((Az ds).map V.int).drop k)) h4
      k_is
      refine ⟨q3, q4, _, _, rfl, rfl, u4 _ _ Ac, Ac, ?_, fun q5 h5 => ?_⟩
      · rw [List.length_append, List.length_take, List.length_drop, hle]
        exact few (by simp only [List.length_cons, List.length_nil]; omega)
      have u5 := (u123.trans u4).trans (Ah (o := .lst (((Az ds).map V.int).take k ++ [x] ++ ((Az ds).map V.int).drop k)) h5)
      exact finX k k _ q5 _ (by omega) (ux.trans u5) (hxA.same u5) Ac
    · k_is
      refine ⟨a, _, rfl, SqL.of ha2, fun q1 h1 => ?_⟩
      rw [Si] at *
      have u1 := Ah (o := .lst (((Az ds).map V.int).take k)) h1
      k_is
      refine ⟨few (by simp), fun q2 h2 => ?_⟩
      have u2 := Ah (o := .lst [x]) h2
      refine ⟨q1, q2, _, _, rfl, rfl, u2 _ _ Ac, Ac, ?_, fun q3 h3 => ?_⟩
      · rw [List.length_take, hle]
        exact few (by simp only [List.length_cons, List.length_nil]; omega)
      have u3 := Ah (o := .lst (((Az ds).map V.int).take k ++ [x])) h3
      k_is
      have u123 := (u1.trans u2).trans u3
      refine ⟨a, _, rfl, SqL.of (u123 _ _ ha2), fun q4 h4 => ?_⟩
      rw [show ((k : Int) + 1) = ((k + 1 : Nat) : Int) by omega, X8] at *
      have u4 := Ah (o := .lst (((Az ds).map V.int).drop (k + 1))) h4
      k_is
      refine ⟨q3, q4, _, _, rfl, rfl, u4 _ _ Ac, Ac, ?_, fun q5 h5 => ?_⟩
      · rw [List.length_append, List.length_take, List.length_drop, hle]
        exact few (by simp only [List.length_cons, List.length_nil]; omega)
      have u5 := (u123.trans u4).trans (Ah (o := .lst (((Az ds).map V.int).take k ++ [x] ++ ((Az ds).map V.int).drop (k + 1))) h5)
      exact finX k (k + 1) _ q5 _ (by omega) (ux.trans u5) (hxA.same u5) Ac
def J7 (K:PySem.W.Frag)(CB CC CP CD:Addr)(ts:List Tb):Sp:=fun vs H Q _=>∃ (x:Addr) (ds:List Nat) (z:Str) (k i:V),vs=[.ref x,.str z,k,i]/\By K CB CC CP CD H x ds/\Tbs ts H/\Any K H k/\Any K H i/\((NoK k ds.length/\∀ H',SmT ts H H'->Q (.str "knot") H')\/(z="nth"/\inI k 0 ((ds.length:Int)-1)=true/\Ta i/\∀ H',SmT ts H H'->Q (.str "place") H'))
theorem Rm {f : Addr}{fd : FuncData}{ts : List Tb}(F : Fun K "_law_refused" "_law_refused" G5 f fd)(T : Txt K mg aB aC ah ad aa ac aj am ao aq ar au av aw ax ay az aA)(Z : Qa K af)(aR : Fi P w K mg base af "nth" 8 ["self", "k", "i"] (U4 K ai ae ag af aa ad ts))(ba : Fi P w K mg base af "lies_beneath" 4 ["self", "k", "other"] (Us K ai ae ag af aa))(aL : Fi P w K mg base af "many" 7 ["self", "k"] (Mi K ai ae ag af aa ts))(aS : Fi P w K mg base af "stretch" 4 ["self", "k"] (Bf K ai ae ag af aa))(aT : Fi P w K mg base af "behind" 5 ["self", "k"] (Bf K ai ae ag af aa))(b8 : Fi P w K mg base af "child_place" 5 ["self", "k"] (Bf K ai ae ag af aa))(aU : Fi P w K mg base af "elder" 6 ["self", "k"] (Bf K ai ae ag af aa))(b9 : Fi P w K mg base af "first" 9 ["self", "k"] (Np K ai ae ag af aa ts))(ce : Fi P w K mg base af "last" 8 ["self", "k"] (Np K ai ae ag af aa ts))(cf : Fi P w K mg base af "left" 5 ["self", "k"] (Bf K ai ae ag af aa))(cg : Fi P w K mg base af "right" 5 ["self", "k"] (Bf K ai ae ag af aa))(ci : Fi P w K mg base af "beneath" 6 ["self", "k"] (Bf K ai ae ag af aa))(cj : Fi P w K mg base af "depth" 7 ["self", "k"] (Bf K ai ae ag af aa))(aV : nO P w K mg base "_law_class" 1 ["_law_e"] (O3 K aa ad ac)) : Ax P w K mg base CX0 10 f fd ["_law_wood_here", "_law_word", "_law_k", "_law_i"] (J7 K ai ae ag af ts) := by
  refine F.ok Ek (fun vs H Q E h => ?_) (fun cdv A outer s H vs Q E hr h => ?_)
  · obtain ⟨x, ds, z, k, i, rfl, _⟩ := h
    rfl
  · obtain ⟨x, ds, z, k, i, rfl, hC, hT, hA, hI, hq⟩ := h
    obtain ⟨dx, p, m, hx, _⟩ := id hC
    refine ⟨_, (Ab (Am (i := 4) Ek.nd rfl (Or.inl rfl) As)
      (Ab (kB (i := 5) rfl rfl rfl Ek.nd rfl rfl rfl T.g_WoodError (fun E pins σ => (Av (Cm (An B7 (pv 1) As (Au _)) (Av (Bl (Cc aR (hr.mono (by decide : 8 <= _)) Bs (pv 0) (Ad (pv 2) (Ad (pv 3) Aa rfl) rfl))))
      (Av (Cm (An B7 (pv 1) As (Au _)) (Av (Bl (Cc ba (hr.mono (by decide : 4 <= _)) Bs (pv 0) (Ad (pv 2) (Ad Af Aa rfl) rfl))))
      (Av (Cm (An B7 (pv 1) As (Au _)) (Av (Bl (Cc ba (hr.mono (by decide : 4 <= _)) Bs (pv 0) (Ad Af (Ad (pv 2) Aa rfl) rfl))))
      (Av (Cm (An B7 (pv 1) As (Au _)) (Av (Bl (Cc aS (hr.mono (by decide : 4 <= _)) Bs (pv 0) (Ad (pv 2) Aa rfl))))
      (Av (Cm (An B7 (pv 1) As (Au _)) (Av (Bl (Cc aT (hr.mono (by decide : 5 <= _)) Bs (pv 0) (Ad (pv 2) Aa rfl))))
      (Av (Cm (An B7 (pv 1) As (Au _)) (Av (Bl (Cc b8 (hr.mono (by decide : 5 <= _)) Bs (pv 0) (Ad (pv 2) Aa rfl))))
      (Av (Cm (An B7 (pv 1) As (Au _)) (Av (Bl (Cc aU (hr.mono (by decide : 6 <= _)) Bs (pv 0) (Ad (pv 2) Aa rfl))))
      (Av (Cm (An B7 (pv 1) As (Au _)) (Av (Bl (Cc b9 (hr.mono (by decide : 9 <= _)) Bs (pv 0) (Ad (pv 2) Aa rfl))))
      (Av (Cm (An B7 (pv 1) As (Au _)) (Av (Bl (Cc ce (hr.mono (by decide : 8 <= _)) Bs (pv 0) (Ad (pv 2) Aa rfl))))
      (Av (Cm (An B7 (pv 1) As (Au _)) (Av (Bl (Cc cf (hr.mono (by decide : 5 <= _)) Bs (pv 0) (Ad (pv 2) Aa rfl))))
      (Av (Cm (An B7 (pv 1) As (Au _)) (Av (Bl (Cc cg (hr.mono (by decide : 5 <= _)) Bs (pv 0) (Ad (pv 2) Aa rfl))))
      (Av (Cm (An B7 (pv 1) As (Au _)) (Av (Bl (Cc aL (hr.mono (by decide : 7 <= _)) Bs (pv 0) (Ad (pv 2) Aa rfl))))
      (Av (Cm (An B7 (pv 1) As (Au _)) (Av (Bl (Cc ci (hr.mono (by decide : 6 <= _)) Bs (pv 0) (Ad (pv 2) Aa rfl))))
      (Av (Bl (Cc cj (hr.mono (by decide : 7 <= _)) Bs (pv 0) (Ad (pv 2) Aa rfl)))))))))))))))))))))))))))))))
      (fun e => (Ag (Am (i := 4) Ek.nd rfl (Or.inl rfl) (jT aV (hr.mono (by decide : 1 <= _)).mark (Ad (pv 5) Aa rfl))))))
      (Ag (Ao (pv 4))))), ?_⟩
    k_is
    refine ⟨fun C od H' => SmT ts H H'/\od = none/\((C = .ref aa/\NoK k ds.length)\/(C = .ref ad/\inI k 0 ((ds.length : Int) - 1) = true)), ?_, ?_⟩
    · k_is
      rcases hq with ⟨hb, q⟩ | ⟨rfl, hg, hb, q⟩
      · have fin : SmT ts H H/\(none : Option Addr) = none/\((Value.ref aa = .ref aa/\NoK k ds.length)\/(Value.ref aa = .ref ad/\inI k 0 ((ds.length : Int) - 1) = true)) := ⟨SmT.refl hT, rfl, .inl ⟨rfl, hb⟩⟩
        iterate 13
          refine B8 (fun _ => ?_) (fun _ => ?_)
          · k_is
            refine ⟨x, dx, _, rfl, hx, rfl, ?_⟩
            k_is
            first | exact ⟨x, ds, k, rfl, hC, hA, hb, fin⟩ | exact ⟨hT, x, ds, k, rfl, hC, hA, hb, fin⟩ | exact ⟨x, ds, k, i, rfl, hC, hT, hA, hI, .inl ⟨hb, fin⟩⟩ | exact ⟨x, ds, k, .int 0, rfl, hC, hA, Bt _, .inl hb, fin⟩ | exact ⟨x, ds, .int 0, k, rfl, hC, Bt _, hA, .inr hb, fin⟩ | exact ⟨x, ds, k, rfl, hC, hT, hA, fun h => (hb.no h).elim, fun _ => fin⟩
          k_is
        refine ⟨x, dx, _, rfl, hx, rfl, ?_⟩
        k_is
        exact ⟨x, ds, k, rfl, hC, hA, hb, fin⟩
      · refine B8 (fun _ => ?_) (fun h => absurd rfl h)
        k_is
        refine ⟨x, dx, _, rfl, hx, rfl, ?_⟩
        k_is
        exact ⟨x, ds, k, i, rfl, hC, hT, hA, hI, .inr ⟨hg, hb, fun H' s' => ⟨s', rfl, .inr ⟨rfl, hg⟩⟩⟩⟩
    · rintro C od H' e ⟨sH, rfl, hc⟩ he
      rcases hc with ⟨hC2, hb⟩ | ⟨hC2, hg⟩
      · obtain rfl : C = aa := Value.ref.inj hC2
        refine ⟨T.em_NoKnot, ?_⟩
        k_is
        refine ⟨e, C, none, rfl, Ac, .inl ⟨rfl, fun H2 s2 => ?_⟩⟩
        k_is
        rcases hq with ⟨_, q⟩ | ⟨_, hg, _⟩
        · exact q H2 ((sH.then (Ah he)).then s2)
        · exact (NoK.no hb hg).elim
      · obtain rfl : C = ad := Value.ref.inj hC2
        refine ⟨T.em_NoPlace, ?_⟩
        k_is
        refine ⟨e, C, none, rfl, Ac, .inr (.inl ⟨rfl, fun H2 s2 => ?_⟩)⟩
        k_is
        rcases hq with ⟨hb, _⟩ | ⟨_, _, _, q⟩
        · exact (NoK.no hb hg).elim
        · exact q H2 ((sH.then (Ah he)).then s2)
def Rf (K:PySem.W.Frag):Sp:=fun vs H Q _=>∃ (v:V) (o:Option (List V)),vs=[v]/\ThA K H v o/\(∀ ds,K4 o ds->ds.length<4000)/\((∃ ds,K4 o ds)->∀ H',Ak H H'->Q .non H')/\(∀ k:Nat,J9 o k->∀ p H',Ak H H'->H p=none->H' p=some (.tup [.str "wood",.int k])->Q (.ref p) H')
theorem W1 {f : Addr}{fd : FuncData}(F : Fun K "_law_made" "_law_made" Lh f fd)(T : Txt K mg aB aC ah ad aa ac aj am ao aq ar au av aw ax ay az aA)(aW : kO P w K mg base "Counted" af 9 ["self", "elders"] (O7 K ai ae ag af ac))(aV : nO P w K mg base "_law_class" 1 ["_law_e"] (O3 K aa ad ac)) : Ax P w K mg base CX0 11 f fd ["_law_things"] (Rf K) := by
  refine F.ok Fg (fun vs H Q E h => ?_) (fun cdv A outer s H vs Q E hr h => ?_)
  · obtain ⟨v, o, rfl, _⟩ := h
    rfl
  · obtain ⟨v, o, rfl, hT, hsm, q1, q2⟩ := h
    refine ⟨_, (Ab (Am (i := 1) Fg.nd rfl (Or.inl rfl) Ki)
      (Ab (kB (i := 2) rfl rfl rfl Fg.nd rfl rfl rfl T.g_WoodError (fun E pins σ => (Av (Bl (iX aW (hr.mono (by decide : 10 <= _)) Bs (Ad (pv 0) Aa rfl)))))
      (fun e => (Ab (Am (i := 1) Fg.nd rfl (Or.inl rfl) (Gh (Ad As (Ad Af Aa rfl) rfl)))
      (Ag (B4 (PW.pt (Nu (An B7 (jT aV (hr.mono (by decide : 1 <= _)).mark (Ad (pv 2) Aa rfl)) As (Au _)) (Kp (E3 (C5 (Ar (Zb K) (by rfl) T.n_isinstance A9 (Ad (S9 K (pv 2)) (Ad (F5 (v := .ty "bool") rfl T.n_bool Y2 rfl) Aa rfl) rfl))))))) (Ag (Am (i := 1) Fg.nd rfl (Or.inl rfl) (Gh (Ad As (Ad (S9 K (pv 2)) Aa rfl) rfl))))
      A6)))))
      (Ag (Ao (pv 1))))), ?_⟩
    k_is
    refine ⟨fun C od H' => Ak H H'/\C = .ref ac/\∃ (dx : Addr) (k : Nat), od = some dx/\H' dx = some (.xd [("place", .int (k : Nat))])/\J9 o k, ?_, ?_⟩
    · k_is
      intro x dx hx hdx hne
      refine ⟨x, dx, v, o, rfl, Ac, hT.same (L9 hx hdx), hsm, fun ds hG H1 s1 hO => ⟨rfl, ?_⟩, fun k hk dy H' s1 _ hy => ⟨(L9 hx hdx).trans s1, rfl, dy, k, rfl, hy, hk⟩⟩
      k_is
      exact q1 ⟨ds, hG⟩ H1 (Ht hx hdx s1)
    · rintro C od H' e ⟨sH, hC, dx, k, rfl, hx, hF⟩ he
      have hC := Value.ref.inj hC
      rw [hC] at *
      have t1 := Ah (o := K9 e ac (some dx)) he
      have s1 := sH.trans t1
      have he1 : upd H' e (K9 e ac (some dx)) e = some (K9 e ac (some dx)) := Ac
      have hx1 := t1 _ _ hx
      generalize upd H' e (K9 e ac (some dx)) = H1 at *
      refine ⟨T.em_NoWood, ?_⟩
      obtain ⟨fo, O⟩ := T.ow_NoWood
      k_is
      refine ⟨few (by simp), fun p0 hp0 => ?_⟩
      have u0 := Ah (o := .tup [V.str ("odd" : Str), V.int 0]) hp0
      have he2 := u0 _ _ he1
      have hx2 := u0 _ _ hx1
      have s2 := s1.trans u0
      generalize upd H1 p0 (.tup [V.str ("odd" : Str), V.int 0]) = H2 at *
      k_is
      refine ⟨e, ac, some dx, rfl, he2, .inr (.inr ⟨rfl, fun H3 s3 => ?_⟩)⟩
      have he3 := s3 _ _ he2
      have hx3 := s3 _ _ hx2
      k_is
      refine B8 (fun _ => ?_) (fun h => absurd rfl h)
      k_is
      refine ⟨e, ah, ac, fo, dx, _, k, rfl, he3, O, T.k_NoWood, hx3, rfl, ?_⟩
      k_is
      refine ⟨_, _, _, _, rfl, .int _, T8, ?_⟩
      k_is
      refine ⟨e, ah, ac, fo, dx, _, k, rfl, he3, O, T.k_NoWood, hx3, rfl, ?_⟩
      k_is
      refine ⟨few (by simp), fun p1 hp1 => ?_⟩
      k_is
      exact q2 k hF p1 _ ((s2.trans s3).trans (Ah hp1)) ((s2.trans s3).free hp1) Ac
theorem rO {K:PySem.W.Frag}{H:Hp}{a:Addr}{kvs:List (Key×V)}(h:H a=some (.dK kvs)):Any K H (.ref a):=⟨_,false,false,.dK h,by rfl,by rfl,rfl⟩
def M1 (K:PySem.W.Frag):Sp:=fun vs H Q _=>∃ (n r:Nat),vs=[.int n,.int r]/\∀ x H',Ak H H'->Any K H' x->NoK x n->Q x H'
theorem Oq {f:Addr}{fd:FuncData}(F:Fun K "_law_no_knots" "_law_no_knots" Gf f fd)(T:Txt K mg aB aC ah ad aa ac aj am ao aq ar au av aw ax ay az aA):Ax P w K mg base CX0 1 f fd ["_law_many","_law_number"] (M1 K):=by
 refine F.ok Je (fun vs H Q E h=>?_) (fun cdv A outer s H vs Q E hr h=>?_)
 ·obtain ⟨n,r,rfl,_⟩:=h
  rfl
 ·obtain ⟨n,r,rfl,q⟩:=h
  refine ⟨_,(mH.h (O0 (jA (i:=2) Je.nd rfl (Or.inl rfl) (mG (Gv (Dy Ch Af) (Gv (pv 0) (Gv (Aj Be (pv 0) (Aj Vg Af Af)) (Gv Ki (Gv Gz (Gv As (Gv (Gh (Ad Af Aa rfl)) (Gv (Bd (Ad Af Aa rfl)) (Gv dE (Gv Gz hX rfl) rfl) rfl) rfl) rfl) rfl) rfl) rfl) rfl) rfl)))
   (jF (si (Ao (C3 Ci (pv 2) (Aj Ca (pv 1) Af) (fun _ _=>rfl))))))),?_⟩
  k_is
  refine ⟨10,20,rfl,rfl,⟨by decide,by decide,by decide⟩,?_⟩
  k_is
  refine ⟨few (by simp),fun pt ht=>?_⟩
  have ut:=Ah (o:=.tup [V.int 0]) ht
  have ht1:upd H pt (.tup [V.int 0]) pt=some (.tup [V.int 0]):=Ac
  generalize upd H pt (.tup [V.int 0])=H1 at *
  k_is
  refine ⟨few (by simp),fun pz hz=>?_⟩
  have uz:=Ah (o:=.lst [V.int 0]) hz
  have hz1:upd H1 pz (.lst [V.int 0]) pz=some (.lst [V.int 0]):=Ac
  have ht1:=uz _ _ ht1
  have s2:=ut.trans uz
  generalize upd H1 pz (.lst [V.int 0])=H2 at *
  k_is
  intro pd hd
  have ud:=Ah (o:=.dK []) hd
  have hd1:upd H2 pd (.dK []) pd=some (.dK []):=Ac
  have ht1:=ud _ _ ht1
  have hz1:=ud _ _ hz1
  have s3:=s2.trans ud
  generalize upd H2 pd (.dK [])=H3 at *
  k_is
  refine ⟨few (by simp),fun pl hl=>?_⟩
  have hbig:(0:Int)<=10 ^ Int.toNat 20:=by decide
  generalize (10:Int) ^ Int.toNat 20=big at *
  generalize hL:[V.int (-1),V.int (n:Int),V.int ((n:Int)+big),V.non,V.bl true,V.str ("0":Str),V.ref pt,V.ref pz,V.ref pd,V.bl false]=L at *
  have hLl:L.length=10:=by rw [<- hL];rfl
  have ul:=Ah (o:=.lst L) hl
  have hl2:upd H3 pl (.lst L) pl=some (.lst L):=Ac
  have ht2:=ul _ _ ht1
  have hz2:=ul _ _ hz1
  have hd2:=ul _ _ hd1
  have s4:=s3.trans ul
  generalize upd H3 pl (.lst L)=H4 at *
  have hA:∀ x∈L,Any K H4 x/\NoK x n:=fun x hx=>by
   rw [<- hL] at hx
   simp only [List.mem_cons,List.not_mem_nil,or_false] at hx
   have nI:∀ j:Int,(j<0\/(n:Int)<=j)->NoK (.int j) n:=fun j hj=>by
    unfold NoK
    rw [Uj]
    rcases hj with hj | hj
    ·rw [decide_eq_false (show ¬ 0<=j by omega)]
     rfl
    ·rw [decide_eq_false (show ¬ j<=(n:Int)-1 by omega),Bool.and_false]
   rcases hx with rfl | rfl | rfl | rfl | rfl | rfl | rfl | rfl | rfl | rfl
   ·exact ⟨Bt _,nI _ (by omega)⟩
   ·exact ⟨Bt _,nI _ (by omega)⟩
   ·exact ⟨Bt _,nI _ (by omega)⟩
   ·exact ⟨Vt,rfl⟩
   ·exact ⟨Nw _,rfl⟩
   ·exact ⟨T7 _,rfl⟩
   ·exact ⟨dH ht2,rfl⟩
   ·exact ⟨Uo hz2,rfl⟩
   ·exact ⟨rO hd2,rfl⟩
   ·exact ⟨Nw _,rfl⟩
  obtain ⟨i,hi,hi1⟩:=Ff (r:Int) 9
  have hi:(r:Int)%10=(i:Int):=hi
  obtain ⟨x,hx⟩:∃ x,L[i]?=some x:=⟨_,List.getElem?_eq_getElem (by omega)⟩
  obtain ⟨hxA,hxN⟩:=hA x (List.mem_of_getElem? hx)
  k_is
  rw [hi]
  refine Eb (SqL.of hl2) (Bx hx) ?_
  exact q x H4 s4 hxA hxN
def Lk (K:PySem.W.Frag):Sp:=fun vs H Q _=>∃ (r:Int),vs=[.int r]/\∀ x H',Ak H H'->Any K H' x->Ta x->Q x H'
theorem Nh {f:Addr}{fd:FuncData}(F:Fun K "_law_no_number" "_law_no_number" Fs f fd)(T:Txt K mg aB aC ah ad aa ac aj am ao aq ar au av aw ax ay az aA):Ax P w K mg base CX0 1 f fd ["_law_number"] (Lk K):=by
 refine F.ok Ny (fun vs H Q E h=>?_) (fun cdv A outer s H vs Q E hr h=>?_)
 ·obtain ⟨r,rfl,_⟩:=h
  rfl
 ·obtain ⟨r,rfl,q⟩:=h
  refine ⟨_,(Ag (Ao (C3 Ci (Bd (Ad (Dy Ch Af) (Ad (Dy Ch (Aj Vg Af Af)) (Ad Ki (Ad Gz (Ad As (Ad (Gh (Ad Af Aa rfl)) (Ad (Bd Aa) (Ad Gz Aa rfl) rfl) rfl) rfl) rfl) rfl) rfl) rfl)) (Aj Ca (pv 0) Af) (fun _ _=>rfl)))),?_⟩
  k_is
  refine ⟨10,20,rfl,rfl,⟨by decide,by decide,by decide⟩,?_⟩
  k_is
  refine ⟨few (by simp),fun pt ht=>?_⟩
  have ut:=Ah (o:=.tup [V.int 1]) ht
  have ht1:upd H pt (.tup [V.int 1]) pt=some (.tup [V.int 1]):=Ac
  generalize upd H pt (.tup [V.int 1])=H1 at *
  k_is
  refine ⟨Nat.zero_le _,fun pz hz=>?_⟩
  have uz:=Ah (o:=.lst []) hz
  have hz1:upd H1 pz (.lst []) pz=some (.lst []):=Ac
  have ht1:=uz _ _ ht1
  have s2:=ut.trans uz
  generalize upd H1 pz (.lst [])=H2 at *
  k_is
  refine ⟨few (by simp),fun pl hl=>?_⟩
  have hbig:(0:Int)<10 ^ Int.toNat 20:=by decide
  generalize (10:Int) ^ Int.toNat 20=big at *
  generalize hL:[V.int (-1),V.int (-big),V.non,V.bl true,V.str ("1":Str),V.ref pt,V.ref pz,V.bl false]=L at *
  have hLl:L.length=8:=by rw [<- hL];rfl
  have ul:=Ah (o:=.lst L) hl
  have hl2:upd H2 pl (.lst L) pl=some (.lst L):=Ac
  have ht2:=ul _ _ ht1
  have hz2:=ul _ _ hz1
  have s4:=s2.trans ul
  generalize upd H2 pl (.lst L)=H4 at *
  have hA:∀ x∈L,Any K H4 x/\Ta x:=fun x hx=>by
   rw [<- hL] at hx
   simp only [List.mem_cons,List.not_mem_nil,or_false] at hx
   have nI:∀ j:Int,j<0->Ta (.int j):=fun j hj i e=>by
    rw [<- V.int.inj e]
    exact hj
   rcases hx with rfl | rfl | rfl | rfl | rfl | rfl | rfl | rfl
   ·exact ⟨Bt _,nI _ (by omega)⟩
   ·exact ⟨Bt _,nI _ (by omega)⟩
   ·exact ⟨Vt,fun _ e=>nomatch e⟩
   ·exact ⟨Nw _,fun _ e=>nomatch e⟩
   ·exact ⟨T7 _,fun _ e=>nomatch e⟩
   ·exact ⟨dH ht2,fun _ e=>nomatch e⟩
   ·exact ⟨Uo hz2,fun _ e=>nomatch e⟩
   ·exact ⟨Nw _,fun _ e=>nomatch e⟩
  obtain ⟨i,hi,hi1⟩:=Ff r 7
  have hi:r%8=(i:Int):=hi
  obtain ⟨x,hx⟩:∃ x,L[i]?=some x:=⟨_,List.getElem?_eq_getElem (by omega)⟩
  obtain ⟨hxA,hxN⟩:=hA x (List.mem_of_getElem? hx)
  k_is
  rw [hi]
  refine Eb (SqL.of hl2) (Bx hx) ?_
  exact q x H4 s4 hxA hxN
theorem By.sm {K:PySem.W.Frag}{CB CC CP CD x:Addr}{ts:List Tb}{H H':Hp}{ds:List Nat}(h:By K CB CC CP CD H x ds)(s:SmT ts H H'):By K CB CC CP CD H' x ds:=by
 obtain ⟨dx,p,m,h1,h2,h3⟩:=h
 exact ⟨dx,p,m,s.k h1,h2.sm s,h3⟩
abbrev wA:List V:=[V.str ("elder":Str),V.str ("first":Str),V.str ("last":Str),V.str ("left":Str),V.str ("right":Str)]
abbrev wB:List V:=[V.str ("many":Str),V.str ("beneath":Str),V.str ("depth":Str),V.str ("nth":Str),V.str ("child_place":Str)]
abbrev wC:List V:=[V.str ("elder":Str),V.str ("first":Str),V.str ("last":Str),V.str ("left":Str),V.str ("right":Str),V.str ("many":Str),V.str ("beneath":Str),V.str ("depth":Str),V.str ("nth":Str),V.str ("child_place":Str)]
abbrev wE:List V:=[V.str ("behind":Str),V.str ("stretch":Str),V.str ("lies":Str),V.str ("bears":Str)]
theorem tN {f : Addr}{fd : FuncData}{ts : List Tb}(F : Fun K "law" "law" Th f fd)(T : Txt K mg aB aC ah ad aa ac aj am ao aq ar au av aw ax ay az aA)(Z : Qa K af)(ck : Cal P w K mg base "_law_wood" 3 ["_law_script", "_law_most", "_law_large"] (Uq K))(aW : kO P w K mg base "Counted" af 9 ["self", "elders"] (O7 K ai ae ag af ac))(aM : Cal P w K mg base "_law_twice" 1 ["_law_cell", "_law_k"] Pf)(aD : Cal P w K mg base "_law_cell_at" 1 ["_law_script", "_law_k"] (P9 K))(cm : Cal P w K mg base "_law_no_knots" 1 ["_law_many", "_law_number"] (M1 K))(bc : Cal P w K mg base "_law_no_number" 1 ["_law_number"] (Lk K))(be : Cal P w K mg base "_law_refused" 10 ["_law_wood_here", "_law_word", "_law_k", "_law_i"] (J7 K ai ae ag af ts))(cn : Cal P w K mg base "_law_spoilt" 1 ["_law_elders", "_law_number"] (Na K))(cp : Cal P w K mg base "_law_bar" 1 ["_law_things"] (lX K))(aX : Cal P w K mg base "_law_made" 11 ["_law_things"] (Rf K))(cq : Mth P w K mg base af "elders" 9 ["self"] (Nq K ai ae ag af)) : Ax P w K mg base CX0 12 f fd ["_law_script"] (eK K ts) := by
  refine F.ok Dm (fun vs H Q E h => ?_) (fun cdv A outer s H vs Q E hr h => ?_)
  · obtain ⟨a, ns, rfl, _⟩ := h
    rfl
  · obtain ⟨a, ns, rfl, hS, hlen, hT, q⟩ := h
    refine ⟨_, (Ab (Am (i := 1) Dm.nd rfl (Or.inl rfl) (A4 ck (hr.mono (by decide : 3 <= _)) (Ad (pv 0) (Ad Af (Ad Af Aa rfl) rfl) rfl)))
      (Ab (Am (i := 2) Dm.nd rfl (Or.inl rfl) (Ar Bk (by rfl) T.n_len Em (Ad (pv 1) Aa rfl)))
      (Ab (Am (i := 3) Dm.nd rfl (Or.inl rfl) (rX aW (hr.mono (by decide : 10 <= _)) sT (Ad (Di Iw (by rfl) T.n_list Rq (Ad (pv 1) Aa rfl)) Aa rfl)))
      (Ab (Am (i := 4) Dm.nd rfl (Or.inl rfl) (Bd (Ad As (Ad As (Ad As (Ad As (Ad As Aa rfl) rfl) rfl) rfl) rfl)))
      (Ab (Am (i := 4) Dm.nd rfl (Or.inl rfl) (Aj Fp (pv 4) (Bd (Ad As (Ad As (Ad As (Ad As (Ad As Aa rfl) rfl) rfl) rfl) rfl))))
      (Ab (Am (i := 4) Dm.nd rfl (Or.inl rfl) (Aj Fp (pv 4) (Bd (Ad As (Ad As (Ad As (Ad As Aa rfl) rfl) rfl) rfl))))
      (Ab (D0 PassesOwn.never rfl (Pg rfl T.n_enumerate (Ad (pv 4) Aa rfl)) (Sj rfl (Dw (Bn (i := 5) Dm.nd rfl (Or.inl rfl)) (Dw (Bn (i := 6) Dm.nd rfl (Or.inl rfl)) Me)))
      (Ab (Am (i := 7) Dm.nd rfl (Or.inl rfl) (A4 aM (hr.mono (by decide : 1 <= _)) (Ad (A4 aD (hr.mono (by decide : 1 <= _)) (Ad (pv 0) (Ad Af Aa rfl) rfl)) (Ad (Aj Be Af (pv 5)) Aa rfl) rfl)))
      (Ab (Am (i := 8) Dm.nd rfl (Or.inl rfl) (A4 cm (hr.mono (by decide : 1 <= _)) (Ad (pv 2) (Ad (pv 7) Aa rfl) rfl)))
      (Ab (B4 (An Tw (A4 be (hr.mono (by decide : 10 <= _)) (Ad (pv 3) (Ad (pv 6) (Ad (pv 8) (Ad (A4 bc (hr.mono (by decide : 1 <= _)) (Ad (Aj Cf (pv 7) Af) Aa rfl)) Aa rfl) rfl) rfl) rfl)) As (Au _)) (Ag (Ao Gz))
      A6)
      (Ab (Am (i := 9) Dm.nd rfl (Or.inl rfl) (A4 bc (hr.mono (by decide : 1 <= _)) (Ad (pv 7) Aa rfl)))
      (Ag (B4 (PW.pt (Nu (An K2 (pv 2) Af (Au _)) (Kp (An Tw (A4 be (hr.mono (by decide : 10 <= _)) (Ad (pv 3) (Ad As (Ad (Aj Ca (pv 7) (pv 2)) (Ad (pv 9) Aa rfl) rfl) rfl) rfl)) As (Au _))))) (Ag (Ao Gz))
      A6)))))))
      (Ab (D0 PassesOwn.never rfl (F7 rfl T.n_range (Ad Af Aa rfl)) (Bn (i := 5) Dm.nd rfl (Or.inl rfl))
      (Ab (Am (i := 10) Dm.nd rfl (Or.inl rfl) (A4 cn (hr.mono (by decide : 1 <= _)) (Ad (pv 1) (Ad (A4 aM (hr.mono (by decide : 1 <= _)) (Ad (A4 aD (hr.mono (by decide : 1 <= _)) (Ad (pv 0) (Ad Af Aa rfl) rfl)) (Ad (Aj Be Af (pv 5)) Aa rfl) rfl)) Aa rfl) rfl)))
      (Ab (Am (i := 11) Dm.nd rfl (Or.inl rfl) (A4 cp (hr.mono (by decide : 1 <= _)) (Ad (pv 10) Aa rfl)))
      (Ab (B4 (lK (nZ (pv 11))) (Ag (Am (i := 11) Dm.nd rfl (Or.inl rfl) (Gh (Ad As (Ad (pv 11) Aa rfl) rfl))))
      A6)
      (Ag (B4 (An (rW (pL hr)) (A4 aX (hr.mono (by decide : 11 <= _)) (Ad (pv 10) Aa rfl)) (pv 11) (Au _)) (Ag (Ao Gz))
      A6))))))
      (Ab (B4 (An (Zj (pL hr)) (A4 aX (hr.mono (by decide : 11 <= _)) (Ad (C3 Ci (Bd (Ad Ki (Ad (Di Fc (by rfl) T.n_tuple O5 (Ad (pv 1) Aa rfl)) (Ad As (Ad Af (Ad dE Aa rfl) rfl) rfl) rfl) rfl)) (Aj Ca (A4 aD (hr.mono (by decide : 1 <= _)) (Ad (pv 0) (Ad Af Aa rfl) rfl)) Af) (fun _ _ => rfl)) Aa rfl)) (Gh (Ad As (Ad Af Aa rfl) rfl)) (Au _)) (Ag (Ao Gz))
      A6)
      (Ab (B4 (PW.pt (Nu (An B7 (Aj Ca (Aj Cf (A4 aD (hr.mono (by decide : 1 <= _)) (Ad (pv 0) (Ad Af Aa rfl) rfl)) Af) Af) Af (Au _)) (Kp (An (Zj (pL hr)) (A4 aX (hr.mono (by decide : 11 <= _)) (Ad (Aj Pm (Bd (Ad (Dy Ch Af) Aa rfl)) Af) Aa rfl)) (Gh (Ad As (Ad Af Aa rfl) rfl)) (Au _))))) (Ag (Ao Gz))
      A6)
      (Ag (Ao (Pe (tT (pL hr)) (P4 cq (hr.mono (by decide : 9 <= _)) (pv 3)) (pv 1) (Au _)))))))))))))), ?_⟩
    k_is
    refine ⟨a, ns, 120, rfl, hS, by omega, fun p ds H1 s1 hp0 hp hD hl => ?_⟩
    have hel : (Az ds).length = ds.length := Bv ds
    k_is
    refine ⟨p, _, rfl, .inl (SqL.of hp), ?_⟩
    rw [List.length_map, hel]
    k_is
    refine ⟨p, _, rfl, .inl (SqL.of hp), fun p4 hp4 => ?_⟩
    have t4 := Ah (o := .lst ((Az ds).map V.int)) hp4
    have hp44 : upd H1 p4 (.lst ((Az ds).map V.int)) p4 = some (.lst ((Az ds).map V.int)) := Ac
    have hp2 := t4 _ _ hp
    have s2 := s1.trans t4
    generalize upd H1 p4 (.lst ((Az ds).map V.int)) = H2 at *
    k_is
    intro x dx hx hdx hxd
    refine ⟨x, dx, .ref p4, _, rfl, Ac, (jP hp44 (by omega)).same (L9 hx hdx), fun ds2 hG => (by rw [S6 hD hG]; omega), fun ds2 hG H3 s3 hC => ⟨rfl, ?_⟩, fG (gG hD (by omega))⟩
    obtain rfl := (S6 hD hG).symm
    have s3 := Ht hx hdx s3
    have hp3 := s3 _ _ hp2
    have s03 := s2.trans s3
    k_is
    refine ⟨few (by simp), fun w1 hw1 => ?_⟩
    have u1 := Ah (o := .lst wA) hw1
    have g1 : upd H3 w1 (.lst wA) w1 = some (.lst wA) := Ac
    generalize upd H3 w1 (.lst wA) = H4 at *
    k_is
    refine ⟨few (by simp), fun w2 hw2 => ?_⟩
    have u2 := Ah (o := .lst wB) hw2
    have g2 : upd H4 w2 (.lst wB) w2 = some (.lst wB) := Ac
    have g1 := u2 _ _ g1
    generalize upd H4 w2 (.lst wB) = H5 at *
    refine ⟨w1, w2, _, _, rfl, rfl, g1, g2, few (by simp), fun w3 hw3 => ?_⟩
    simp only [List.cons_append, List.nil_append]
    have u3 := Ah (o := .lst wC) hw3
    have g3 : upd H5 w3 (.lst wC) w3 = some (.lst wC) := Ac
    generalize upd H5 w3 (.lst wC) = H6 at *
    k_is
    refine ⟨few (by simp), fun w4 hw4 => ?_⟩
    have u4 := Ah (o := .lst wE) hw4
    have g4 : upd H6 w4 (.lst wE) w4 = some (.lst wE) := Ac
    have g3 := u4 _ _ g3
    generalize upd H6 w4 (.lst wE) = H7 at *
    refine ⟨w3, w4, _, _, rfl, rfl, g3, g4, few (by simp), fun w5 hw5 => ?_⟩
    simp only [List.cons_append, List.nil_append]
    obtain ⟨zs, hzs, hzl⟩ : ∃ zs : List Str, zs.map V.str = [V.str ("elder" : Str), V.str ("first" : Str), V.str ("last" : Str), V.str ("left" : Str), V.str ("right" : Str), V.str ("many" : Str), V.str ("beneath" : Str), V.str ("depth" : Str), V.str ("nth" : Str), V.str ("child_place" : Str), V.str ("behind" : Str), V.str ("stretch" : Str), V.str ("lies" : Str), V.str ("bears" : Str)]/\zs.length = 14 := ⟨["elder", "first", "last", "left", "right", "many", "beneath", "depth", "nth", "child_place", "behind", "stretch", "lies", "bears"], rfl, rfl⟩
    rw [<- hzs]
    have u5 := Ah (o := .lst (zs.map V.str)) hw5
    have g5 : upd H7 w5 (.lst (zs.map V.str)) w5 = some (.lst (zs.map V.str)) := Ac
    have u38 := (((u1.trans u2).trans u3).trans u4).trans u5
    have s08 := s03.trans u38
    have hC8 := hC.same u38
    have hp8 := u38 _ _ hp3
    have hS8 := s08.seq hS
    have hT8 := hT.same s08
    generalize upd H7 w5 (.lst (zs.map V.str)) = H8 at *
    clear u1 u2 u3 u4 u5 u38 g1 g2 g3 g4 hzs
    k_is
    refine ⟨w5, rfl, ⟨_, SqL.of g5⟩, ?_⟩
    refine R9 (xs := zs.map V.str) (fun j σ H' => (∃ v5 v6 v7 v8 v9 v10 v11 : Option V, σ = [some (.ref a), some (.ref p), some (.int (ds.length : Nat)), some (.ref x), some (.ref w5), v5, v6, v7, v8, v9, v10, v11])/\SmT ts H8 H') ⟨⟨_, _, _, _, _, _, _, rfl⟩, SmT.refl hT8⟩ (fun j σ H' _ h => SqL.of (h.2.k g5)) ?_ ?_
    · rintro j y σ H9 t hy ⟨⟨v5, v6, v7, v8, v9, v10, v11, rfl⟩, sm⟩ ht
      have hj := Dl hy
      rw [List.length_map, hzl] at hj
      obtain ⟨z, _, rfl⟩ := List.mem_map.mp (List.mem_of_getElem? hy)
      have sm := sm.then (Ah (o := .tup [.int j, .str z]) ht)
      generalize upd H9 t (.tup [.int j, .str z]) = H10 at *
      k_is
      refine ⟨a, ns, 2, rfl, sm.sm.seq hS8, fun c => ?_⟩
      k_is
      refine ⟨c, 100 + j, by rw [show ((100 + j : Nat) : Int) = 100 + (j : Int) by omega]; rfl, by omega, fun r hr => ?_⟩
      k_is
      refine ⟨ds.length, r, rfl, fun kn H11 s11 hAk hNk => ?_⟩
      k_is
      refine ⟨_, rfl, fun nn H12 s12 hAn hNn => ?_⟩
      have sm := (sm.then s11).then s12
      k_is
      refine ⟨x, ds, z, kn, nn, rfl, hC8.sm sm, sm.ok, hAk.same s12, hAn, .inl ⟨hNk, fun H13 s13 => ?_⟩⟩
      have sm := sm.trans s13
      k_is
      refine ⟨_, rfl, fun od H14 s14 hAo hNo => ?_⟩
      have sm := sm.then s14
      k_is
      refine B8 (fun hpos => ?_) (fun _ => ?_)
      · k_is
        refine W7 (by omega) ?_
        obtain ⟨k, hk, hk1⟩ : ∃ k : Nat, (r : Int) % (ds.length : Int) = (k : Int)/\k < ds.length := ⟨r % ds.length, by omega, Nat.mod_lt _ (by omega)⟩
        rw [hk]
        k_is
        refine ⟨x, ds, "nth", .int k, od, rfl, hC8.sm sm, sm.ok, Bt _, hAo, .inr ⟨rfl, by rw [Uj, decide_eq_true (show (0 : Int) <= k by omega), decide_eq_true (show (k : Int) <= (ds.length : Int) - 1 by omega)]; rfl, hNo, fun H15 s15 => ?_⟩⟩
        k_is
        exact ⟨⟨_, _, _, _, _, _, _, rfl⟩, sm.trans s15⟩
      · k_is
        exact ⟨⟨_, _, _, _, _, _, _, rfl⟩, sm⟩
    · rintro σ H9 ⟨⟨v5, v6, v7, v8, v9, v10, v11, rfl⟩, sm9⟩
      k_is
      refine ⟨6, rfl, by decide, by decide, ?_⟩
      refine Hd (fun j σ H' => (∃ v5 v6 v7 v8 v9 v10 v11 : Option V, σ = [some (.ref a), some (.ref p), some (.int (ds.length : Nat)), some (.ref x), some (.ref w5), v5, v6, v7, v8, v9, v10, v11])/\SmT ts H8 H') ⟨⟨_, _, _, _, _, _, _, rfl⟩, sm9⟩ ?_ ?_
      · rintro j σ H10 hj ⟨⟨v5, v6, v7, v8, v9, v10, v11, rfl⟩, sm⟩
        have hj : j < 6 := hj
        k_is
        refine ⟨a, ns, 2, rfl, sm.sm.seq hS8, fun c => ?_⟩
        k_is
        refine ⟨c, 120 + j, by rw [show ((120 + j : Nat) : Int) = 120 + (0 + (j : Int)) by omega]; rfl, by omega, fun r hr => ?_⟩
        k_is
        refine ⟨p, ds, r, rfl, sm.k hp8, by omega, fun ps xs H11 s11 hps hA hlx => ?_⟩
        k_is
        refine ⟨ps, xs, rfl, hps, hA, by omega, fun rr H12 hR s12 => ?_⟩
        have sm := (sm.then s11).then s12
        have hps := s12 _ _ hps
        have hTh : ThA K H12 (.ref ps) (some xs) := ⟨ps, rfl, hps, fun y hy => (hA y hy).same s12, by omega⟩
        rcases hR with ⟨rfl, ds2, hG⟩ | ⟨k, rfl, hF⟩
        · k_is
          refine ⟨.ref ps, some xs, rfl, hTh, fun ds3 hG3 => ?_, fun _ H13 s13 => ?_, fun k hk => (Ef hk hG).elim⟩
          · have e := congrArg List.length hG3.2.2
            rw [List.length_map, Bv] at e
            omega
          k_is
          refine .inl ⟨rfl, rfl, ?_⟩
          k_is
          exact ⟨⟨_, _, _, _, _, _, _, rfl⟩, sm.then s13⟩
        · k_is
          refine ⟨few (by simp), fun pt hpt => ?_⟩
          have ut := Ah (o := .tup [V.str ("wood" : Str), V.int (k : Int)]) hpt
          have ht1 : upd H12 pt (.tup [V.str ("wood" : Str), V.int (k : Int)]) pt = some (.tup [V.str ("wood" : Str), V.int (k : Int)]) := Ac
          have hTh := hTh.same ut
          have sm := sm.then ut
          generalize upd H12 pt (.tup [V.str ("wood" : Str), V.int (k : Int)]) = H13 at *
          k_is
          refine ⟨.ref ps, some xs, rfl, hTh, fun ds3 hG3 => (Ef hF hG3).elim, fun ⟨ds3, hG3⟩ => (Ef hF hG3).elim, fun k2 hk2 pm H14 s14 _ hpm => ?_⟩
          obtain rfl := Ob hF hk2
          k_is
          refine .inr (Zs (Cr.tups (SqT.of hpm) (SqT.of (s14 _ _ ht1)) rfl) ?_)
          k_is
          exact ⟨⟨_, _, _, _, _, _, _, rfl⟩, sm.then s14⟩
      · rintro σ H10 ⟨⟨v5, v6, v7, v8, v9, v10, v11, rfl⟩, sm⟩
        k_is
        refine ⟨p, _, rfl, .inl ⟨SqL.of (sm.k hp8), fun pt hpt => ?_⟩⟩
        have ut := Ah (o := .tup ((Az ds).map V.int)) hpt
        have ht1 : upd H10 pt (.tup ((Az ds).map V.int)) pt = some (.tup ((Az ds).map V.int)) := Ac
        have sm := sm.then ut
        generalize upd H10 pt (.tup ((Az ds).map V.int)) = H11 at *
        k_is
        intro pd hd
        have ud := Ah (o := .dK []) hd
        have hd1 : upd H11 pd (.dK []) pd = some (.dK []) := Ac
        have ht1 := ud _ _ ht1
        have sm := sm.then ud
        generalize upd H11 pd (.dK []) = H12 at *
        k_is
        refine ⟨few (by simp), fun pl hl0 => ?_⟩
        generalize hL : [V.non, V.ref pt, V.str ("" : Str), V.int 5, V.ref pd] = Lx at *
        have hLl : Lx.length = 5 := by rw [<- hL]; rfl
        have ul := Ah (o := .lst Lx) hl0
        have hl2 : upd H12 pl (.lst Lx) pl = some (.lst Lx) := Ac
        have ht1 := ul _ _ ht1
        have hd1 := ul _ _ hd1
        have sm := sm.then ul
        generalize upd H12 pl (.lst Lx) = H13 at *
        have hNo : ∀ y ∈ Lx, ThA K H13 y none := fun y hy => by
          rw [<- hL] at hy
          simp only [List.mem_cons, List.not_mem_nil, or_false] at hy
          rcases hy with rfl | rfl | rfl | rfl | rfl
          · exact ⟨_, .non, by rfl⟩
          · exact ⟨_, .tup ht1, by rfl⟩
          · exact ⟨_, .str _, by rfl⟩
          · exact ⟨_, .int _, by rfl⟩
          · exact ⟨_, .dK hd1, by rfl⟩
        k_is
        refine ⟨a, ns, 2, rfl, sm.sm.seq hS8, fun c => ?_⟩
        k_is
        obtain ⟨i, hi, hi1⟩ := Ff c 4
        have hi : c % 5 = (i : Int) := hi
        obtain ⟨y, hy⟩ : ∃ y, Lx[i]? = some y := ⟨_, List.getElem?_eq_getElem (by omega)⟩
        rw [hi]
        refine Eb (SqL.of hl2) (Bx hy) ?_
        k_is
        refine ⟨y, none, rfl, hNo y (List.mem_of_getElem? hy), fun _ h => h.elim, fun ⟨_, h⟩ => h.elim, fun k hk pm H14 s14 _ hpm => ?_⟩
        obtain rfl : k = 0 := hk
        have sm := sm.then s14
        k_is
        refine ⟨few (by simp), fun pq hpq => ?_⟩
        have uq := Ah (o := .tup [V.str ("wood" : Str), V.int 0]) hpq
        have hq1 : upd H14 pq (.tup [V.str ("wood" : Str), V.int 0]) pq = some (.tup [V.str ("wood" : Str), V.int 0]) := Ac
        have hpm := uq _ _ hpm
        have sm := sm.then uq
        generalize upd H14 pq (.tup [V.str ("wood" : Str), V.int 0]) = H15 at *
        refine Zs (Cr.tups (SqT.of hpm) (SqT.of hq1) rfl) ?_
        k_is
        refine ⟨a, ns, 2, rfl, sm.sm.seq hS8, fun c2 => ?_⟩
        have fin : ∀ {H' : Hp}, SmT ts H8 H'->Q (.bl true) H' := fun _ => q _
        have rep : ∀ n : Nat, (List.replicate ((n : Int)).toNat [V.int (-1)]).flatten = (List.replicate n (-1 : Int)).map V.int := fun n => by rw [Int.toNat_natCast]; exact kH n (-1)
        k_is
        refine B8 (fun _ => ?_) (fun _ => ?_)
        · k_is
          refine ⟨few (by simp), fun l0 hl0 => ?_⟩
          have x0 := Ah (o := .lst [V.int (-1)]) hl0
          have y0 : upd H15 l0 (.lst [V.int (-1)]) l0 = some (.lst [V.int (-1)]) := Ac
          have sm := sm.then x0
          generalize upd H15 l0 (.lst [V.int (-1)]) = H16 at *
          k_is
          refine ⟨l0, ((4001 : Nat) : Int), _, rfl, rfl, y0, by omega, by omega, Nat.le_of_lt (Ap (by simp)), fun l1 hl1 => ?_⟩
          rw [rep 4001] at *
          have x1 := Ah (o := .lst ((List.replicate 4001 (-1 : Int)).map V.int)) hl1
          have y1 : upd H16 l1 (.lst ((List.replicate 4001 (-1 : Int)).map V.int)) l1 = some (.lst ((List.replicate 4001 (-1 : Int)).map V.int)) := Ac
          have sm := sm.then x1
          generalize upd H16 l1 (.lst ((List.replicate 4001 (-1 : Int)).map V.int)) = H17 at *
          k_is
          refine ⟨.ref l1, some ((List.replicate 4001 (-1 : Int)).map V.int), rfl, ⟨_, rfl, y1, fun y hy => by obtain ⟨n, _, rfl⟩ := List.mem_map.mp hy; exact Bt n, by rw [List.length_map, List.length_replicate]; omega⟩, fun _ h => (Ef No h).elim, fun ⟨_, h⟩ => (Ef No h).elim, fun k hk pm H18 s18 _ hpm => ?_⟩
          obtain rfl := Ob No hk
          have sm := sm.then s18
          k_is
          refine ⟨few (by simp), fun pr hpr => ?_⟩
          have ur := Ah (o := .tup [V.str ("wood" : Str), V.int 4000]) hpr
          have hr1 : upd H18 pr (.tup [V.str ("wood" : Str), V.int 4000]) pr = some (.tup [V.str ("wood" : Str), V.int 4000]) := Ac
          have hpm := ur _ _ hpm
          have sm := sm.then ur
          generalize upd H18 pr (.tup [V.str ("wood" : Str), V.int 4000]) = H19 at *
          refine Zs (Cr.tups (SqT.of hpm) (SqT.of hr1) rfl) ?_
          k_is
          have hC9 := hC8.sm sm
          obtain ⟨dz, pz, mz, hz, _⟩ := id hC9
          refine ⟨x, dz, _, rfl, hz, rfl, ?_⟩
          k_is
          refine ⟨x, ds, rfl, hC9, fun pe H20 s20 _ hpe => ?_⟩
          k_is
          refine qM (SqL.of hpe) (SqL.of (s20 _ _ (sm.k hp8))) ?_
          rw [decide_eq_true rfl]
          exact q _
        · k_is
          have hC9 := hC8.sm sm
          obtain ⟨dz, pz, mz, hz, _⟩ := id hC9
          refine ⟨x, dz, _, rfl, hz, rfl, ?_⟩
          k_is
          refine ⟨x, ds, rfl, hC9, fun pe H20 s20 _ hpe => ?_⟩
          k_is
          refine qM (SqL.of hpe) (SqL.of (s20 _ _ (sm.k hp8))) ?_
          rw [decide_eq_true rfl]
          exact q _
end
set_option maxHeartbeats 8000000 in
theorem all_mk:AllMk:=by
 intro l w K h mg fa X G hfa ai ae ag af aN f0 od0 an0 sl0 oc0 kV0 dc0 pm0 cd0 ct0 f27 od27 an27 sl27 oc27 kV27 dc27 pm27 ct27 oo27 aB o_ONES_OF_FOUR i_ONES_OF_FOUR n_ONES_OF_FOUR aC o_SIGNS_OF_FOUR i_SIGNS_OF_FOUR n_SIGNS_OF_FOUR t_WORD_BITS t_MOST_BITS t_BLOCK_WORDS t_BLOCK_BITS t_FULL_WORD t_MOST_SIGNS t_STRETCH_BITS t_MOST_KNOTS t_MARK_STEP ah ad aa ac aj am ao aq ar au av aw ax ay az aA nm_NoWood qn_NoWood N_NoWood bs_NoWood sn_NoWood sub_NoWood ab_NoWood col_NoWood dd_NoWood k0_NoWood k1_NoWood k2_NoWood k3_NoWood k5_NoWood cd_Bits fd_Bits cd_Counts fd_Counts cd_Pairs fd_Pairs cd_Counted fd_Counted bc_Heights i0 a0 l0 c0 k0 g1 g2 g3 g4 g5 g6 g7 g8 g9 g10 g11 g12 g13 g14 g15 g16 g17 g18 g19 g20 g21 g22 g23 g24 g25 g26 i27 a27 l27 c27 k27 lc27 hc27 g28 g29 g30 g31 g32 g33 g34 g35 g36 g37 g38 g39 g40 g41 g42 g43 g44 g45 g46 g47 g48 g49 g50 g51 g52 g53 g54 g55 g56 g57 g58 g59 g60 g61 g62 g63 g64 g65 g66 g67 g68 g69 g70 g71 g72 g73 g74 g75 g76 g77 g_ONES_OF_FOUR o1_ONES_OF_FOUR o2_ONES_OF_FOUR o3_ONES_OF_FOUR o4_ONES_OF_FOUR o5_ONES_OF_FOUR g_SIGNS_OF_FOUR o1_SIGNS_OF_FOUR o2_SIGNS_OF_FOUR o3_SIGNS_OF_FOUR o4_SIGNS_OF_FOUR o5_SIGNS_OF_FOUR g_WORD_BITS g_MOST_BITS g_BLOCK_WORDS g_BLOCK_BITS g_FULL_WORD g_MOST_SIGNS g_STRETCH_BITS g_MOST_KNOTS g_MARK_STEP z_range z_len z_int z_bool z_str z_isinstance z_list z_tuple z_dict z_enumerate z_zip z_sum z_abs z_max z_min z_ValueError eg_WoodError eg_NoPlace eg_NoKnot eg_NoWood eg_NoBits eg_NoRow eg_NoOrder eg_NoName eg_NoFit eg_NoGraft eg_TooLarge eg_NoDeed eg_NoNumber eg_NoLine eg_Nobody eg_Nameless ex_WoodError bg_WoodError br_WoodError bi_WoodError ex_NoPlace ga_NoPlace gx_NoPlace ca_NoPlace sp_NoPlace tk_NoPlace mo_NoPlace mb_NoPlace em_NoPlace ex_NoKnot ga_NoKnot gx_NoKnot ca_NoKnot sp_NoKnot tk_NoKnot mo_NoKnot mb_NoKnot em_NoKnot sa_NoWood pl_NoWood ga_NoWood gx_NoWood ca_NoWood sp_NoWood tk_NoWood mo_NoWood mb_NoWood em_NoWood em2_NoWood kit_NoKnot_WoodError kit_NoKnot_ValueError kit_NoKnot_NoKnot kit_NoKnot_NoPlace kit_NoKnot_NoWood kit_NoKnot_NoBits kit_NoKnot_NoRow kit_NoKnot_NoOrder kit_NoKnot_NoName kit_NoKnot_NoFit kit_NoKnot_NoGraft kit_NoKnot_TooLarge kit_NoKnot_NoDeed kit_NoKnot_NoNumber kit_NoKnot_NoLine kit_NoKnot_Nobody kit_NoKnot_Nameless kit_NoPlace_WoodError kit_NoPlace_ValueError kit_NoPlace_NoKnot kit_NoPlace_NoPlace kit_NoPlace_NoWood kit_NoPlace_NoBits kit_NoPlace_NoRow kit_NoPlace_NoOrder kit_NoPlace_NoName kit_NoPlace_NoFit kit_NoPlace_NoGraft kit_NoPlace_TooLarge kit_NoPlace_NoDeed kit_NoPlace_NoNumber kit_NoPlace_NoLine kit_NoPlace_Nobody kit_NoPlace_Nameless kit_NoWood_WoodError kit_NoWood_ValueError kit_NoWood_NoKnot kit_NoWood_NoPlace kit_NoWood_NoWood kit_NoWood_NoBits kit_NoWood_NoRow kit_NoWood_NoOrder kit_NoWood_NoName kit_NoWood_NoFit kit_NoWood_NoGraft kit_NoWood_TooLarge kit_NoWood_NoDeed kit_NoWood_NoNumber kit_NoWood_NoLine kit_NoWood_Nobody kit_NoWood_Nameless ob_NoWood
 obtain ⟨f77,d77,F77,a77⟩:=g77
 obtain ⟨_,_,kV77,dc77,pm77,an77,cd77,ct77,_,rfl,_,_⟩:=F77.ex
 have e:=hfa.symm.trans (PySem.W.mg_of X G a77)
 cases e
 have q_ONES_OF_FOUR:∀ H,SqT K H aB (Tf.map fun n:Nat=>V.int n):=fun H=>.inr ⟨o_ONES_OF_FOUR,i_ONES_OF_FOUR,n_ONES_OF_FOUR,o1_ONES_OF_FOUR,o2_ONES_OF_FOUR,o3_ONES_OF_FOUR,o4_ONES_OF_FOUR,o5_ONES_OF_FOUR⟩
 have q_SIGNS_OF_FOUR:∀ H,SqT K H aC (dP):=fun H=>.inr ⟨o_SIGNS_OF_FOUR,i_SIGNS_OF_FOUR,n_SIGNS_OF_FOUR,o1_SIGNS_OF_FOUR,o2_SIGNS_OF_FOUR,o3_SIGNS_OF_FOUR,o4_SIGNS_OF_FOUR,o5_SIGNS_OF_FOUR⟩
 have O_NoWood:Ll K ah ac f0:=⟨ex_WoodError,⟨_,_,_,_,_,_,_,_,_,_,_,_,_,_,ob_NoWood⟩,a0,beq_iff_eq.mp i0,sa_NoWood,pl_NoWood⟩
 have T:Txt K mg aB aC ah ad aa ac aj am ao aq ar au av aw ax ay az aA:=⟨PySem.W.mg_of X G eg_WoodError,PySem.W.mg_of X G eg_NoPlace,PySem.W.mg_of X G eg_NoKnot,PySem.W.mg_of X G eg_NoWood,PySem.W.mg_of X G eg_NoBits,PySem.W.mg_of X G eg_NoRow,PySem.W.mg_of X G eg_NoOrder,PySem.W.mg_of X G eg_NoName,PySem.W.mg_of X G eg_NoFit,PySem.W.mg_of X G eg_NoGraft,PySem.W.mg_of X G eg_TooLarge,PySem.W.mg_of X G eg_NoDeed,PySem.W.mg_of X G eg_NoNumber,PySem.W.mg_of X G eg_NoLine,PySem.W.mg_of X G eg_Nobody,PySem.W.mg_of X G eg_Nameless,ex_WoodError,bg_WoodError,br_WoodError,bi_WoodError,ex_NoPlace,ga_NoPlace,gx_NoPlace,ca_NoPlace,sp_NoPlace,tk_NoPlace,mo_NoPlace,mb_NoPlace,em_NoPlace,ex_NoKnot,ga_NoKnot,gx_NoKnot,ca_NoKnot,sp_NoKnot,tk_NoKnot,mo_NoKnot,mb_NoKnot,em_NoKnot,sa_NoWood,pl_NoWood,ga_NoWood,gx_NoWood,ca_NoWood,sp_NoWood,tk_NoWood,mo_NoWood,mb_NoWood,em_NoWood,em2_NoWood,kit_NoKnot_WoodError,kit_NoKnot_ValueError,kit_NoKnot_NoKnot,kit_NoKnot_NoPlace,kit_NoKnot_NoWood,kit_NoKnot_NoBits,kit_NoKnot_NoRow,kit_NoKnot_NoOrder,kit_NoKnot_NoName,kit_NoKnot_NoFit,kit_NoKnot_NoGraft,kit_NoKnot_TooLarge,kit_NoKnot_NoDeed,kit_NoKnot_NoNumber,kit_NoKnot_NoLine,kit_NoKnot_Nobody,kit_NoKnot_Nameless,kit_NoPlace_WoodError,kit_NoPlace_ValueError,kit_NoPlace_NoKnot,kit_NoPlace_NoPlace,kit_NoPlace_NoWood,kit_NoPlace_NoBits,kit_NoPlace_NoRow,kit_NoPlace_NoOrder,kit_NoPlace_NoName,kit_NoPlace_NoFit,kit_NoPlace_NoGraft,kit_NoPlace_TooLarge,kit_NoPlace_NoDeed,kit_NoPlace_NoNumber,kit_NoPlace_NoLine,kit_NoPlace_Nobody,kit_NoPlace_Nameless,kit_NoWood_WoodError,kit_NoWood_ValueError,kit_NoWood_NoKnot,kit_NoWood_NoPlace,kit_NoWood_NoWood,kit_NoWood_NoBits,kit_NoWood_NoRow,kit_NoWood_NoOrder,kit_NoWood_NoName,kit_NoWood_NoFit,kit_NoWood_NoGraft,kit_NoWood_TooLarge,kit_NoWood_NoDeed,kit_NoWood_NoNumber,kit_NoWood_NoLine,kit_NoWood_Nobody,kit_NoWood_Nameless,PySem.W.mg_of X G g_ONES_OF_FOUR,q_ONES_OF_FOUR,PySem.W.mg_of X G g_SIGNS_OF_FOUR,q_SIGNS_OF_FOUR,⟨_,PySem.W.mg_of X G g_WORD_BITS⟩,⟨_,PySem.W.mg_of X G g_MOST_BITS⟩,⟨_,PySem.W.mg_of X G g_BLOCK_WORDS⟩,⟨_,PySem.W.mg_of X G g_BLOCK_BITS⟩,⟨_,PySem.W.mg_of X G g_FULL_WORD⟩,⟨_,PySem.W.mg_of X G g_MOST_SIGNS⟩,⟨_,PySem.W.mg_of X G g_STRETCH_BITS⟩,⟨_,PySem.W.mg_of X G g_MOST_KNOTS⟩,⟨_,PySem.W.mg_of X G g_MARK_STEP⟩,mg_none_of X G z_range,mg_none_of X G z_len,mg_none_of X G z_int,mg_none_of X G z_bool,mg_none_of X G z_str,mg_none_of X G z_isinstance,mg_none_of X G z_list,mg_none_of X G z_tuple,mg_none_of X G z_dict,mg_none_of X G z_enumerate,mg_none_of X G z_zip,mg_none_of X G z_sum,mg_none_of X G z_abs,mg_none_of X G z_max,mg_none_of X G z_min,mg_none_of X G z_ValueError,⟨_,O_NoWood⟩⟩
 have Qd:Qd K ai:=⟨fd_Bits.cl,fd_Bits.no 0,fd_Bits.no 1,fd_Bits.no 2⟩
 have Qb:Qb K ae:=⟨fd_Counts.cl,fd_Counts.no 0,fd_Counts.no 1,fd_Counts.no 2⟩
 have Qc:Qc K ag:=⟨fd_Pairs.cl,fd_Pairs.no 0,fd_Pairs.no 1,fd_Pairs.no 2,fd_Pairs.no 3,fd_Pairs.no 4⟩
 have Qa:Qa K af:=⟨fd_Counted.cl,fd_Counted.no 0,fd_Counted.no 1,fd_Counted.no 2⟩
 have F0:=Vc (st:=C4) l0 c0 k0
 have b0:=F0.binds (ps:=["self","place"]) fun _ _ _ _ _ _=>us2 fun _ _=>rfl
 have F27:=oH (st:=Bg) l27 c27 k27 lc27 hc27
 have b27:=F27.binds (ps:=["self","bit","nth"]) fun _ _ _ _ _ _=>us3 fun _ _ _=>rfl
 refine ⟨PySem.W.fnOf "law" "law" (Cw Th) (B5 Th) (Ae Th) .none kV77 dc77 pm77 an77 cd77 ct77,fun s v=>.of_eq rfl,fun base hK _ hB=>?_⟩
 have V0:tH l.prog w K mg base "NoWood" ah ac 1 ["self","place"]:=⟨⟨f0,_,Wa F0 T,b0,O_NoWood⟩,T.g_NoWood,T.k_NoWood⟩
 have V1:=GD.cal (P:=l.prog) (w:=w) (base:=base) (sp:=(Jz K)) X G g1 fun F=>X4 F T
 have V2:=GD.cal (P:=l.prog) (w:=w) (base:=base) (sp:=(Jr K)) X G g2 fun F=>U8 F T V1
 have V3:=GD.cal (P:=l.prog) (w:=w) (base:=base) (sp:=Ud) X G g3 fun F=>Uv F T V2
 have V4:=GD.cal (P:=l.prog) (w:=w) (base:=base) (sp:=J2) X G g4 fun F=>Rn F T V2
 have V5:=GD.cal (P:=l.prog) (w:=w) (base:=base) (sp:=cF) X G g5 fun F=>Nj F T V4
 have V6:=GD.calE (P:=l.prog) (w:=w) (base:=base) (sp:=(M9 K ad)) X G g6 fun F=>J1 F T V1
 have V7:=GD.calE (P:=l.prog) (w:=w) (base:=base) (sp:=(Eg K aa)) X G g7 fun F=>S0 F T V2
 have V8:=GD.cal (P:=l.prog) (w:=w) (base:=base) (sp:=Rv) X G g8 fun F=>cJ F T
 have V9:=GD.cal (P:=l.prog) (w:=w) (base:=base) (sp:=cG) X G g9 fun F=>P3 F T
 have V10:=GD.cal (P:=l.prog) (w:=w) (base:=base) (sp:=iA) X G g10 fun F=>Zz F T V9
 have V11:=GD.cal (P:=l.prog) (w:=w) (base:=base) (sp:=Vf) X G g11 fun F=>fR F T
 have V12:=GD.cal (P:=l.prog) (w:=w) (base:=base) (sp:=Yy) X G g12 fun F=>Zw F T
 have V13:=GD.cal (P:=l.prog) (w:=w) (base:=base) (sp:=(Ua K)) X G g13 fun F=>X9 F T V12
 have V14:=GD.cal (P:=l.prog) (w:=w) (base:=base) (sp:=(M0 K)) X G g14 fun F=>Xf F T
 have V15:=MD.mkr (P:=l.prog) (w:=w) (base:=base) (sp:=(K6 K ai)) X G cd_Bits g15 fun F=>Wf F T Qd V11 V13
 have V16:=MD.mth (P:=l.prog) (w:=w) (base:=base) (sp:=(Lc K ai)) Qd.cl g16 fun F=>Wg F T Qd
 have V17:=MD.mth (P:=l.prog) (w:=w) (base:=base) (sp:=(Jl K ai)) Qd.cl g17 fun F=>Wb F T Qd
 have V18:=MD.mth (P:=l.prog) (w:=w) (base:=base) (sp:=(Mx K ai)) Qd.cl g18 fun F=>Qy F T Qd V5 V14
 have V19:=GD.cal (P:=l.prog) (w:=w) (base:=base) (sp:=(Mf l.prog w K mg base 2)) X G g19 fun F=>Sn F T
 have V20:=GD.cal (P:=l.prog) (w:=w) (base:=base) (sp:=nJ) X G g20 fun F=>Op F T
 have V21:=GD.cal (P:=l.prog) (w:=w) (base:=base) (sp:=(Ug K)) X G g21 fun F=>Ml F T V8 V20
 have V22:=MD.mkr (P:=l.prog) (w:=w) (base:=base) (sp:=(Ik K ai ae)) X G cd_Counts g22 fun F=>Q9 F T Qb V16 V17 V21
 have V23:=MD.mth (P:=l.prog) (w:=w) (base:=base) (sp:=(Ju K ae)) Qb.cl g23 fun F=>Qj F T Qb V8
 have V24:=MD.mth (P:=l.prog) (w:=w) (base:=base) (sp:=(O1 K ae)) Qb.cl g24 fun F=>Q3 F T Qb V3 V4 V23
 have V25:=MD.mth (P:=l.prog) (w:=w) (base:=base) (sp:=(Ej K ae)) Qb.cl g25 fun F=>Qe F T Qb
 have V26:=MD.mth (P:=l.prog) (w:=w) (base:=base) (sp:=(Lf K ae)) Qb.cl g26 fun F=>Qm F T Qb V25
 have V27:Mth l.prog w K mg base ae "block_with" 4 ["self","bit","nth"] (Ka K ae [⟨509,At,"Counts.block_with.<locals>.<lambda>"⟩]):=⟨⟨f27,_,Qi F27 T hK (hB (513,509) (by simp)) List.mem_cons_self Qb V25 V19,b27,⟨a27,i27,k27⟩⟩,Qb.cl⟩
 have V28:=MD.mth (P:=l.prog) (w:=w) (base:=base) (sp:=(Ke K ae)) Qb.cl g28 fun F=>Qk F T Qb V8 V10
 have V29:=MD.mth (P:=l.prog) (w:=w) (base:=base) (sp:=(Nr K ae [⟨509,At,"Counts.block_with.<locals>.<lambda>"⟩])) Qb.cl g29 fun F=>Qp F T Qb V3 V4 V25 V26 V27 V28
 have V30:=GD.cal (P:=l.prog) (w:=w) (base:=base) (sp:=K5) X G g30 fun F=>Ss F T
 have V31:=GD.cal (P:=l.prog) (w:=w) (base:=base) (sp:=Ur) X G g31 fun F=>Vu F T
 have V32:=BD.calC (P:=l.prog) (w:=w) (base:=base) (sp:=(Ut K ag)) X G bc_Heights g32 fun F=>Q4 F T Qc
 have V33:=MD.mth (P:=l.prog) (w:=w) (base:=base) (sp:=(Vy K ae ag)) Qc.cl g33 fun F=>Ql F T Qc V24
 have V34:=MD.mth (P:=l.prog) (w:=w) (base:=base) (sp:=(Re K ae ag)) Qc.cl g34 fun F=>Qh F T Qc V24
 have V35:=MD.mth (P:=l.prog) (w:=w) (base:=base) (sp:=(Pk K ae ag)) Qc.cl g35 fun F=>Qs F T Qc V33
 have V36:=MD.mth (P:=l.prog) (w:=w) (base:=base) (sp:=(Lb K ai ag)) Qc.cl g36 fun F=>Qx F T Qc V18
 have V37:=MD.mth (P:=l.prog) (w:=w) (base:=base) (sp:=(dR K ai ae ag)) Qc.cl g37 fun F=>Q5 F T Qc
 have V38:=MD.mth (P:=l.prog) (w:=w) (base:=base) (sp:=(U3 K ai ae ag)) Qc.cl g38 fun F=>Q6 F T Qc V36
 have V39:=MD.mkr (P:=l.prog) (w:=w) (base:=base) (sp:=(Up K ai ae ag)) X G cd_Pairs g39 fun F=>Wc F T Qc V31 V15 V22 V35 V30 V32
 have V40:=MD.mth (P:=l.prog) (w:=w) (base:=base) (sp:=(M6 K ai ae ag [⟨509,At,"Counts.block_with.<locals>.<lambda>"⟩])) Qc.cl g40 fun F=>Qw F T Qc V29
 have V41:=GD.calE (P:=l.prog) (w:=w) (base:=base) (sp:=(Wm K ac)) X G g41 fun F=>Z4 F T V0 V1
 have V42:=GD.cal (P:=l.prog) (w:=w) (base:=base) (sp:=Sd) X G g42 fun F=>U9 F T
 have V43:=GD.cal (P:=l.prog) (w:=w) (base:=base) (sp:=Lm) X G g43 fun F=>Ks F T
 have V44:=GD.cal (P:=l.prog) (w:=w) (base:=base) (sp:=R0) X G g44 fun F=>Py F T
 have V45:=GD.cal (P:=l.prog) (w:=w) (base:=base) (sp:=Y0) X G g45 fun F=>Wl F T
 have V46:=GD.cal (P:=l.prog) (w:=w) (base:=base) (sp:=P6) X G g46 fun F=>Mw F T V42 V45
 have V47:=MD.mkrE (P:=l.prog) (w:=w) (base:=base) (sp:=(O7 K ai ae ag af ac)) X G cd_Counted g47 fun F=>Qz F T Qa V41 V39 V44 V43 V46
 have V48:=MD.mth (P:=l.prog) (w:=w) (base:=base) (sp:=(Zy K ai ae ag af)) Qa.cl g48 fun F=>Q8 F T Qa V38
 have V49:=MD.mth (P:=l.prog) (w:=w) (base:=base) (sp:=(Nq K ai ae ag af)) Qa.cl g49 fun F=>Qr F T Qa V48
 have V50:=MD.mthE (P:=l.prog) (w:=w) (base:=base) (sp:=(Mi K ai ae ag af aa [⟨509,At,"Counts.block_with.<locals>.<lambda>"⟩])) Qa.cl g50 fun F=>Q1 F T Qa V7 V40
 have V51:=MD.mthE (P:=l.prog) (w:=w) (base:=base) (sp:=(U4 K ai ae ag af aa ad [⟨509,At,"Counts.block_with.<locals>.<lambda>"⟩])) Qa.cl g51 fun F=>Wi F T Qa V50 V6
 have V52:=MD.mthE (P:=l.prog) (w:=w) (base:=base) (sp:=(Np K ai ae ag af aa [⟨509,At,"Counts.block_with.<locals>.<lambda>"⟩])) Qa.cl g52 fun F=>Wd F T Qa V51
 have V53:=MD.mthE (P:=l.prog) (w:=w) (base:=base) (sp:=(Np K ai ae ag af aa [⟨509,At,"Counts.block_with.<locals>.<lambda>"⟩])) Qa.cl g53 fun F=>Wh F T Qa V50
 have V54:=MD.mthE (P:=l.prog) (w:=w) (base:=base) (sp:=(Bf K ai ae ag af aa)) Qa.cl g54 fun F=>Q2 F T Qa V7
 have V55:=MD.mthE (P:=l.prog) (w:=w) (base:=base) (sp:=(Bf K ai ae ag af aa)) Qa.cl g55 fun F=>Qo F T Qa V7
 have V56:=MD.mthE (P:=l.prog) (w:=w) (base:=base) (sp:=(Bf K ai ae ag af aa)) Qa.cl g56 fun F=>Qu F T Qa V34 V54
 have V57:=MD.mthE (P:=l.prog) (w:=w) (base:=base) (sp:=(Bf K ai ae ag af aa)) Qa.cl g57 fun F=>Qv F T Qa V54
 have V58:=MD.mthE (P:=l.prog) (w:=w) (base:=base) (sp:=(Bf K ai ae ag af aa)) Qa.cl g58 fun F=>Q0 F T Qa V54
 have V59:=MD.mthE (P:=l.prog) (w:=w) (base:=base) (sp:=(Bf K ai ae ag af aa)) Qa.cl g59 fun F=>Qg F T Qa V54
 have V60:=MD.mthE (P:=l.prog) (w:=w) (base:=base) (sp:=(Bf K ai ae ag af aa)) Qa.cl g60 fun F=>Qq F T Qa V55
 have V61:=MD.mthE (P:=l.prog) (w:=w) (base:=base) (sp:=(Bf K ai ae ag af aa)) Qa.cl g61 fun F=>Qn F T Qa V60
 have V62:=MD.mthE (P:=l.prog) (w:=w) (base:=base) (sp:=(Bf K ai ae ag af aa)) Qa.cl g62 fun F=>Qt F T Qa V56
 have V63:=MD.mthE (P:=l.prog) (w:=w) (base:=base) (sp:=(Us K ai ae ag af aa)) Qa.cl g63 fun F=>Qf F T Qa V7
 have V64:=GD.cal (P:=l.prog) (w:=w) (base:=base) (sp:=(P9 K)) X G g64 fun F=>Ri F T
 have V65:=GD.cal (P:=l.prog) (w:=w) (base:=base) (sp:=Pf) X G g65 fun F=>Uc F T
 have V66:=GD.cal (P:=l.prog) (w:=w) (base:=base) (sp:=Wn) X G g66 fun F=>Vp F T
 have V67:=GD.cal (P:=l.prog) (w:=w) (base:=base) (sp:=(U5 K)) X G g67 fun F=>Ul F T V64 V65
 have V68:=GD.cal (P:=l.prog) (w:=w) (base:=base) (sp:=nE) X G g68 fun F=>Ou F T
 have V69:=GD.cal (P:=l.prog) (w:=w) (base:=base) (sp:=(Uq K)) X G g69 fun F=>Ys F T V64 V66 V67 V68
 have V70:=GD.calU (P:=l.prog) (w:=w) (base:=base) (sp:=(O3 K aa ad ac)) X G g70 fun F=>Uz F T
 have V71:=GD.cal (P:=l.prog) (w:=w) (base:=base) (sp:=(lX K)) X G g71 fun F=>Z6 F T
 have V72:=GD.cal (P:=l.prog) (w:=w) (base:=base) (sp:=(Na K)) X G g72 fun F=>So F T
 have V73:=GD.cal (P:=l.prog) (w:=w) (base:=base) (sp:=(J7 K ai ae ag af [⟨509,At,"Counts.block_with.<locals>.<lambda>"⟩])) X G g73 fun F=>Rm F T Qa V51 V63 V50 V55 V60 V59 V56 V52 V53 V58 V57 V61 V62 V70
 have V74:=GD.cal (P:=l.prog) (w:=w) (base:=base) (sp:=(Rf K)) X G g74 fun F=>W1 F T V47 V70
 have V75:=GD.cal (P:=l.prog) (w:=w) (base:=base) (sp:=(M1 K)) X G g75 fun F=>Oq F T
 have V76:=GD.cal (P:=l.prog) (w:=w) (base:=base) (sp:=(Lk K)) X G g76 fun F=>Nh F T
 exact tN F77 T Qa V69 V47 V65 V64 V75 V76 V73 V72 V71 V74 V49
end TK
theorem PySem.Challenge.cw_tightwood_k54_refused_by_counts_holds : PySem.Challenge.rw_tightwood_k54_refused_by_counts.Holds :=
 TK.HEAD @TK.all_mk
#print axioms PySem.Challenge.cw_tightwood_k54_refused_by_counts_holds
