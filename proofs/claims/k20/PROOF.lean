import PyProof.Rows.All
import Wide.All
import OpenK.AllK
import Wide.FinOn
import Lean
import PyProof.EqAt
import PyProof.EqKinds
import PyProof.TupleCall
import PySem.SetTable
import PyProof.TupleKey
import Wide.Seal
import PyProof.DictRoadsH
import PyProof.Rows.TupTab
import PyProof.Draws
import PyProof.EnumMake
import OpenK.KRaise
import OpenK.KOwn
import PyProof.Rows.TopTwo
import PyProof.RulesAs
import PyProof.RulesDel
import PyProof.ExcArgsOwn
import PyProof.ExcAttrAll.ValueError
import PyProof.Rows.CountFlat
import PyProof.SumWalk
import PyProof.Rows.SeqCalls
import PyProof.ZipIter
import KE.KRevIter
import PyProof.CollectIter
import PyProof.TupleOfGen
import PyProof.ListRange
import PyProof.WalkInts
import PySem.Challenge.RW_floorfits_k20_whole_known
set_option Elab.async false
set_option linter.all false
set_option maxRecDepth 100000
set_option maxHeartbeats 4000000
abbrev Z1:=Nat->Nat->Option Int
abbrev Z2:=List (List Int)
abbrev Z3:=List (PySem.Addr×PySem.Obj)
abbrev Z4:=List (Option Int)
abbrev Z5:=PySem.Value->PySem.Shared->Prop
abbrev Z6:=PySem.Str->Option PySem.Value
theorem S2.bdI{c k:Nat}(h:c<=k)(hk:k<=1000000):-1000000<=(c:Int)/\(c:Int)<=1000000:=⟨Int.le_trans (by decide) (Int.natCast_nonneg c),Int.ofNat_le.mpr (Nat.le_trans h hk)⟩
theorem S2.bdN{c k:Nat}(h:c<=k)(hk:k<=1000000):0<=(c:Int)/\(c:Int)<=1000000:=⟨Int.natCast_nonneg c,Int.ofNat_le.mpr (Nat.le_trans h hk)⟩
local macro_rules | `(tactic| omega) => `(tactic| first | assumption | exact Nat.le_trans (by assumption) (by decide) | exact Nat.lt_of_lt_of_le (by assumption) (by assumption) | exact Nat.lt_of_lt_of_le (by assumption) (by decide) | exact Nat.le_of_lt (by assumption) | exact S2.bdI (by assumption) (by decide) | exact Nat.le_trans (by assumption) (by assumption) | omega +splitDisjunctions)
namespace L2
open PySem PySem.Spec PyProof.Rows
abbrev Key:=Sum Int Str
def zst:Key->Value->Bool
 | .inl k,v=>Value.isInt k v
 | .inr x,v=>Value.isStrOf x v
def zyu(w:World):Key->Int
 | .inl k=>hashInt k
 | .inr x=>hashStr w x
theorem za2:∀{k:Key} {v:Value},zst k v=true->(∃i t,k=Sum.inl i/\v=Value.int i t)\/(∃x t,k=Sum.inr x/\v=Value.str x t)
 | .inl i,v,h=>by
  obtain ⟨t,e⟩:=Value.isInt_shape (k:=i) (v:=v) h;exact .inl ⟨i,t,rfl,e⟩
 | .inr x,v,h=>by
  obtain ⟨t,e⟩:=Value.isStrOf_shape (x:=x) (v:=v) h;exact .inr ⟨x,t,rfl,e⟩
theorem zss(a b:Int):decide ((Sum.inl a:Key)=Sum.inl b)=(a == b):=by
 by_cases e:a=b
 ·subst e;simp
 ·have h:¬ (Sum.inl a:Key)=Sum.inl b:=fun q=>e (Sum.inl.inj q)
  rw [decide_eq_false h];exact (beq_eq_false_iff_ne.mpr e).symm
theorem zsp(a b:Str):decide ((Sum.inr a:Key)=Sum.inr b)=decide (a=b):=by
 by_cases e:a=b
 ·subst e;simp
 ·have h:¬ (Sum.inr a:Key)=Sum.inr b:=fun q=>e (Sum.inr.inj q)
  rw [decide_eq_false h,decide_eq_false e]
theorem zsr(a:Int)(b:Str):decide ((Sum.inl a:Key)=Sum.inr b)=false:=decide_eq_false (fun q=>nomatch q)
theorem zsq(a:Str)(b:Int):decide ((Sum.inr a:Key)=Sum.inl b)=false:=decide_eq_false (fun q=>nomatch q)
def zld(prog:Program)(w:World):PySem.KeyKind prog w Key where
 is:=zst
 hash:=zyu w
 inj:=fun v a b ha hb=>by
  rcases za2 ha with ⟨i,t,rfl,rfl⟩ | ⟨x,t,rfl,rfl⟩
  ·rcases za2 hb with ⟨j,u,rfl,e⟩ | ⟨y,u,rfl,e⟩
   ·injection e with e1 _;rw [e1]
   ·exact nomatch e
  ·rcases za2 hb with ⟨j,u,rfl,e⟩ | ⟨y,u,rfl,e⟩
   ·exact nomatch e
   ·injection e with e1 _;rw [e1]
 byValue:=fun k v h=>by
  rcases za2 h with ⟨i,t,rfl,rfl⟩ | ⟨x,t,rfl,rfl⟩<;>rfl
 pyHash:=fun hv h=>by
  rcases za2 hv with ⟨i,t,rfl,rfl⟩ | ⟨x,t,rfl,rfl⟩
  ·exact wpAny_pyHash_int h
  ·exact wpAny_pyHash_str h
 eqBool:=fun hu hv h=>by
  rcases za2 hu with ⟨i,t,rfl,rfl⟩ | ⟨x,t,rfl,rfl⟩
  ·rcases za2 hv with ⟨j,u,rfl,rfl⟩ | ⟨y,u,rfl,rfl⟩
   ·rw [zss] at h;exact wpAny_eqBool_int h
   ·rw [zsr] at h;exact SeqAt.EqAt.int_str i t y u _ _ _ _ h
  ·rcases za2 hv with ⟨j,u,rfl,rfl⟩ | ⟨y,u,rfl,rfl⟩
   ·rw [zsq] at h;exact SeqAt.EqAt.str_int x t j u _ _ _ _ h
   ·rw [zsp] at h;exact wpAny_eqBool_str h
 «strs»:=fun k x t v h=>by
  rcases za2 h with ⟨i,u,rfl,e⟩ | ⟨y,u,rfl,e⟩
  ·exact nomatch e
  ·injection e with e1 _
   subst e1
   cases v<;>rfl
end L2
namespace L2
open PySem PySem.Spec PyProof.Rows
inductive V where
 | non | bl (b:Bool) | int (i:Int) | str (x:Str) | byt (b:Array UInt8) | flt (b:UInt64) | ref (a:Addr) | ty (n:String)
 deriving DecidableEq
def zbx:V->Value->Prop
 | .non,u=>u=Value.none
 | .bl b,u=>u=Value.bool b
 | .int i,u=>∃t,u=Value.int i t
 | .str x,u=>∃t,u=Value.str x t
 | .byt b,u=>∃t,u=Value.bytes b t
 | .flt b,u=>∃t,u=Value.float b t
 | .ref a,u=>u=Value.ref a
 | .ty n,u=>u=Value.type n
abbrev Vals:List V->List Value->Prop:=Paired zbx
theorem Vals.length{xs:List V}{us:List Value}(r:Vals xs us):xs.length=us.length:=Paired.length r
theorem Vals.get:∀{xs:List V} {us:List Value} {i:Nat} {x:V},Vals xs us->xs[i]?=some x->∃u,us[i]?=some u/\zbx x u
 | _,_,_,_,.nil,e=>by simp at e
 | _,_,0,_,.cons r _,e=>by simp at e;subst e;exact ⟨_,rfl,r⟩
 | _,_,i+1,x,.cons _ t,e=>by
  obtain ⟨u,h1,h2⟩:=Vals.get (i:=i) (x:=x) t (by simpa using e);exact ⟨u,by simpa using h1,h2⟩
theorem Vals.set{x:V}{u:Value}(r:zbx x u):∀{xs:List V} {us:List Value} (i:Nat),Vals xs us->Vals (xs.set i x) (us.set i u)
 | _,_,_,.nil=>.nil
 | _,_,0,.cons _ t=>.cons r t
 | _,_,i+1,.cons q t=>.cons q (Vals.set r i t)
theorem Vals.append:∀{xs ys:List V} {us ws:List Value},Vals xs us->Vals ys ws->Vals (xs++ys) (us++ws)
 | _,_,_,_,.nil,s=>s
 | _,_,_,_,.cons r t,s=>.cons r (Vals.append t s)
theorem Vals.take:∀{xs:List V} {us:List Value} (n:Nat),Vals xs us->Vals (xs.take n) (us.take n)
 | _,_,0,_=>.nil
 | _,_,_+1,.nil=>.nil
 | _,_,n+1,.cons r t=>.cons r (Vals.take n t)
theorem Vals.drop:∀{xs:List V} {us:List Value} (n:Nat),Vals xs us->Vals (xs.drop n) (us.drop n)
 | _,_,0,r=>r
 | _,_,_+1,.nil=>.nil
 | _,_,n+1,.cons _ t=>Vals.drop n t
def zmg:Option V->Option Value->Prop
 | some v,some u=>zbx v u
 | none,none=>True
 | _,_=>False
def KV{κ:Type}:List (κ×V)->List (κ×Value)->Prop:=Paired fun (p:κ×V) (q:κ×Value)=>p.1=q.1/\zbx p.2 q.2
def kV:Key->V
 | .inl i=>.int i
 | .inr x=>.str x
inductive HO where
 | lst (xs:List V)
 | tup (xs:List V)
 | dK (kvs:List (Key×V)) | dT (kvs:List (List Key×V))
 | set (S:Int->Bool) (n:Nat)
 | ins (C dx:Addr) (fs:List (Str×V))
 | own (x:Addr)
 | xd (fs:List (Str×V))
 | met (f x:Addr)
 | rng (lo hi:Int)
 | frz (o:Obj) (u:HO)
 | tbl (ps:Array Value)
 | ext (φ:Heap->Prop)
abbrev Hp:=Addr->Option HO
def upd(H:Hp)(a:Addr)(o:HO):Hp:=fun b=>if b=a then some o else H b
theorem zaH{H:Hp}{a:Addr}{o:HO}:upd H a o a=some o:=by unfold upd;rw [if_pos rfl]
theorem zam{H:Hp}{a b:Addr}{o:HO}(h:b≠a):upd H a o b=H b:=by unfold upd;rw [if_neg h]
theorem zau{H:Hp}{a b:Addr}{o:HO}(h:H a=some o)(h':H b=none):a≠b:=by
 intro e;subst e;rw [h] at h';cases h'
section
variable(P:Program)(w:World)
def zbQ(H:Hp)(h:Heap)(a:Addr):HO->Prop
 | .lst xs=>xs.length<=sizeLine/\∃(its:List Value) (n:Nat),Vals xs its/\h.get? a=some { cls:=.type "list",data:=.seq its.toArray n }
 | .tup xs=>xs.length<=sizeLine/\∃its:List Value,Vals xs its/\IsTup h a its.toArray
 | .dK kvs=>kvs.length<=sizeLine/\(a == sysModules)=false/\∃vs,KV kvs vs/\h.DictOf (zld P w) a vs
 | .dT kvs=>kvs.length<=sizeLine/\(a == sysModules)=false/\∃xs:List (List Key×Addr×Value),
   Paired (fun (p:List Key×V) (q:List Key×Addr×Value)=>p.1=q.1/\H q.2.1=some (.tup (p.1.map kV))/\zbx p.2 q.2.2) kvs xs ∧
   ∃o es ep,h.get? a=some o/\o.ExactDict/\o.data=.dict es ep/\es.toList=xs.map (entryOfKey (tupleKind (zld P w)))/\(xs.map (·.1)).Nodup
 | .set S n=>h.SetOf (intKind P w) a S n
 | .ins C dx fs=>H dx=some (.own a)/\fs.length<=1000/\dx≠a/\h.get? a=some (PySem.W.instObj C dx) ∧
   ∃mA,h.Ns1 dx mA/\(∀f,zmg (fs.lookup f) (mA f))/\PySem.Within mA (fs.map (·.1))
 | .own _=>∃o,h.get? a=some o
 | .xd fs=>∃mA,h.Ns1 a mA/\∀f,zmg (fs.lookup f) (mA f)
 | .rng lo hi=>∃t u v,h.get? a=some { cls:=.type "range",data:=.fields #[.int lo t,.int hi u,.int 1 v] }
 | .frz o u=>h.get? a=some o/\zbQ H h a u
 | .tbl ps=>h.get? a=some { cls:=.none,data:=.fields ps }
 | .met f x=>h.get? a=some (PySem.W.methodObj (.ref f) (.ref x))
 | .ext φ=>φ h/\(∃o,h.get? a=some o)/\∀h1 h2:Heap,φ h1->(∀o,h1.get? a=some o->h2.get? a=some o)->φ h2
def HOk(H:Hp)(h:Heap):Prop:=∀a o,H a=some o->zbQ P w H h a o
end
section
variable{P:Program}{w:World}{H H':Hp}{h h':Heap}{a:Addr}{o:HO}
theorem zbQ.lt(x:zbQ P w H h a o):a<h.objs.size:=by
 cases o with
 | lst xs=>obtain ⟨_,_,_,_,e⟩:=x;exact Heap.lt_size e
 | tup xs=>obtain ⟨_,_,_,p⟩:=x;exact p.lt
 | dK kvs=>obtain ⟨_,_,_,_,o,_,_,e,_⟩:=x;exact Heap.lt_size e
 | dT kvs=>obtain ⟨_,_,_,_,o,_,_,e,_⟩:=x;exact Heap.lt_size e
 | set S n=>obtain ⟨o,_,_,_,e,_⟩:=x;exact Heap.lt_size e
 | ins C dx fs=>obtain ⟨_,_,_,e,_⟩:=x;exact Heap.lt_size e
 | own y=>obtain ⟨_,e⟩:=x;exact Heap.lt_size e
 | xd fs=>obtain ⟨_,⟨_,_,_,e,_⟩,_⟩:=x;exact Heap.lt_size e
 | rng lo hi=>obtain ⟨_,_,_,e⟩:=x;exact Heap.lt_size e
 | frz ob u=>obtain ⟨e,_⟩:=x;exact Heap.lt_size e
 | tbl ps=>exact Heap.lt_size (show h.get? a=some _ from x)
 | met f y=>exact Heap.lt_size (show h.get? a=some _ from x)
 | ext φ=>obtain ⟨_,⟨_,e⟩,_⟩:=x;exact Heap.lt_size e
theorem Paired.mapP{α β:Type}{F G:α->β->Prop}:∀{l₁:List α} {l₂:List β},Paired F l₁ l₂->(∀a b,F a b->G a b)->Paired G l₁ l₂
 | _,_,.nil,_=>.nil
 | _,_,.cons r t,f=>.cons (f _ _ r) (Paired.mapP t f)
theorem zbQ.stay(x:zbQ P w H h a o)(k:∀b u,(b=a\/H b=some (.own a))->h.get? b=some u->h'.get? b=some u)
  (ho:∀b,H b=some (.own a)->H' b=some (.own a)) (ht:∀b xs,H b=some (.tup xs)->H' b=some (.tup xs)):zbQ P w H' h' a o:=by
 induction o with
 | lst xs=>obtain ⟨z,its,n,r,e⟩:=x;exact ⟨z,its,n,r,k _ _ (.inl rfl) e⟩
 | tup xs=>obtain ⟨z,its,r,ob,e,c⟩:=x;exact ⟨z,its,r,ob,k _ _ (.inl rfl) e,c⟩
 | dK kvs=>obtain ⟨z,y,vs,r,ob,es,ep,e,c⟩:=x;exact ⟨z,y,vs,r,ob,es,ep,k _ _ (.inl rfl) e,c⟩
 | dT kvs =>
  obtain ⟨z,y,xs,r,ob,es,ep,e,c⟩:=x;exact ⟨z,y,xs,Paired.mapP r fun p q z=>⟨z.1,ht _ _ z.2.1,z.2.2⟩,ob,es,ep,k _ _ (.inl rfl) e,c⟩
 | set S n=>obtain ⟨ob,es,ep,t,e,c⟩:=x;exact ⟨ob,es,ep,t,k _ _ (.inl rfl) e,c⟩
 | ins C dx fs =>
  obtain ⟨d,z,ne,e,mA,⟨od,es,ep,e2,c⟩,r⟩:=x;exact ⟨ho _ d,z,ne,k _ _ (.inl rfl) e,mA,⟨od,es,ep,k _ _ (.inr d) e2,c⟩,r⟩
 | own y=>obtain ⟨ob,e⟩:=x;exact ⟨ob,k _ _ (.inl rfl) e⟩
 | xd fs=>obtain ⟨mA,⟨od,es,ep,e,c⟩,r⟩:=x;exact ⟨mA,⟨od,es,ep,k _ _ (.inl rfl) e,c⟩,r⟩
 | rng lo hi=>obtain ⟨t,u,v,e⟩:=x;exact ⟨t,u,v,k _ _ (.inl rfl) e⟩
 | frz ob u ih=>obtain ⟨e,q⟩:=x;exact ⟨k _ _ (.inl rfl) e,ih q⟩
 | tbl ps =>
  have e:h.get? a=some { cls:=.none,data:=.fields ps }:=x;show h'.get? a=some { cls:=.none,data:=.fields ps };exact k a _ (.inl rfl) e
 | met f y =>
  have e:h.get? a=some (PySem.W.methodObj (.ref f) (.ref y)):=x;show h'.get? a=some (PySem.W.methodObj (.ref f) (.ref y));exact k a _ (.inl rfl) e
 | ext φ=>obtain ⟨p,⟨o,e⟩,st⟩:=x;exact ⟨st _ _ p fun o q=>k _ _ (.inl rfl) q,⟨o,k _ _ (.inl rfl) e⟩,st⟩
theorem HOk.lt(x:HOk P w H h)(e:H a=some o):a<h.objs.size:=(x a o e).lt
theorem HOk.fresh(x:HOk P w H h)(e:h.objs.size<=a):H a=none:=by
 cases q:H a with
 | none=>rfl
 | some u=>exact absurd (Nat.lt_of_lt_of_le (x.lt q) e) (Nat.lt_irrefl _)
theorem HOk.kept(x:HOk P w H h)(k:∀b u,h.get? b=some u->h'.get? b=some u):HOk P w H h':=fun a o e =>
 (x a o e).stay (fun b u _ q=>k b u q) (fun _ q=>q) fun _ _ q=>q
theorem HOk.laid(x:HOk P w H h)(k:∀b u,h.get? b=some u->h'.get? b=some u)(hp:h.objs.size<=a)(new:zbQ P w (upd H a o) h' a o):HOk P w (upd H a o) h':=fun b u e=>by
 have hn:=x.fresh hp
 by_cases hb:b=a
 ·subst hb;rw [zaH] at e;cases e;exact new
 ·rw [zam hb] at e
  exact (x b u e).stay (fun c v _ q=>k c v q) (fun c q=>by rw [zam (zau q hn)];exact q) fun c xs q=>by rw [zam (zau q hn)];exact q
end
def Rd(H:Hp)(a:Addr)(u:HO):Prop:=H a=some u\/∃o,H a=some (.frz o u)
theorem Rd.ok{P:Program}{w:World}{H:Hp}{h:Heap}{a:Addr}{u:HO}(r:Rd H a u)(x:HOk P w H h):zbQ P w H h a u:=by
 rcases r with r | ⟨o,r⟩
 ·exact x a u r
 ·obtain ⟨_,q⟩:=x a _ r;exact q
def Mut:Option HO->Prop
 | some (.lst _)=>True
 | some (.dK _)=>True
 | some (.dT _)=>True
 | some (.set _ _)=>True
 | some (.ins _ _ _)=>True
 | some (.ext _)=>True
 | _=>False
section
variable{P:Program}{w:World}{H:Hp}{h h':Heap}{x e:Addr}{o':HO}
theorem HOk.write(ok:HOk P w H h)(mu:Mut (H x))(he:e=x\/H e=some (.own x))(k:∀b u,b≠e->h.get? b=some u->h'.get? b=some u)(heo:∃u,h'.get? e=some u)
  (new:zbQ P w (upd H x o') h' x o'):HOk P w (upd H x o') h':=fun b u q=>by
 have nown:∀c y,H c=some (.own y)->c≠x:=fun c y r z=>by subst z;rw [r] at mu;exact mu
 have ntup:∀c xs,H c=some (.tup xs)->c≠x:=fun c xs r z=>by subst z;rw [r] at mu;exact mu
 by_cases hb:b=x
 ·subst hb;rw [zaH] at q;cases q;exact new
 ·rw [zam hb] at q
  by_cases hbe:b=e
  ·have q':H b=some (.own x):=by
    rcases he with z | z
    ·exact absurd (hbe.trans z) hb
    ·rw [hbe];exact z
   rw [q] at q';cases q';obtain ⟨v,hv⟩:=heo;exact ⟨v,by rw [hbe];exact hv⟩
  ·refine (ok b u q).stay (fun c v hc r=>k c v ?_ r) (fun c r=>by rw [zam (nown c b r)];exact r) fun c xs r=>by rw [zam (ntup c xs r)];exact r
   rcases hc with rfl | hc
   ·exact hbe
   ·rintro rfl
    rcases he with z | z
    ·exact nown c b hc z
    ·rw [hc] at z;cases z;exact hb rfl
end
structure Un(fs ex:List Addr)(H H':Hp)(h h':Heap):Prop where
 keep:∀b o,h.get? b=some o->H b=none->b ∉ fs->b ∉ ex->h'.get? b=some o
 slot:∀b o,h.get? b=some o->H b=none->b∈fs->b ∉ ex->∃sl,h'.get? b=some { o with slots:=sl }
 free:∀b o,h.get? b=some o->H b=none->b ∉ ex->H' b=none
 there:∀b o,h.get? b=some o->b ∉ ex->∃o',h'.get? b=some o'
 tups:∀b xs,H b=some (.tup xs)->H' b=some (.tup xs)
 frzs:∀b o u,H b=some (.frz o u)->H' b=some (.frz o u)
 tbls:∀b ps,H b=some (.tbl ps)->∃more,H' b=some (.tbl (ps++more))
section
variable{fs fs' ex ex':List Addr}{H H1 H2:Hp}{h h1 h2 h':Heap}{a x e:Addr}{o:HO}
theorem Un.any(u:Un fs ex H H1 h h1){b:Addr}{ob:Obj}(q:h.get? b=some ob)(n:H b=none)(hx:b ∉ ex):∃sl,h1.get? b=some { ob with slots:=sl }:=by
 by_cases hb:b∈fs
 ·exact u.slot b ob q n hb hx
 ·exact ⟨ob.slots,u.keep b ob q n hb hx⟩
theorem Un.kept(k:∀b u,h.get? b=some u->h'.get? b=some u):Un fs ex H H h h' :=
 ⟨fun b ob q _ _ _=>k b ob q,fun b ob q _ _ _=>⟨ob.slots,k b ob q⟩,fun _ _ _ n _=>n,fun b ob q _=>⟨ob,k b ob q⟩,fun _ _ q=>q,fun _ _ _ q=>q,fun _ ps q=>⟨#[],by rw [q];simp⟩⟩
theorem Un.refl:Un fs ex H H h h:=Un.kept fun _ _ q=>q
theorem Un.laid(k:∀b u,h.get? b=some u->h'.get? b=some u)(hp:h.objs.size<=a)(hn:H a=none):Un fs ex H (upd H a o) h h' where
 keep:=fun b u q _ _ _=>k b u q
 slot:=fun b u q _ _ _=>⟨u.slots,k b u q⟩
 free:=fun b u q n _=>by rw [zam (Nat.ne_of_lt (Nat.lt_of_lt_of_le (Heap.lt_size q) hp))];exact n
 there:=fun b u q _=>⟨u,k b u q⟩
 tups:=fun b xs q=>by rw [zam (zau q hn)];exact q
 frzs:=fun b u xs q=>by rw [zam (zau q hn)];exact q
 tbls:=fun b ps q=>⟨#[],by rw [zam (zau q hn),q];simp⟩
theorem Un.write(mu:Mut (H x))(he:e=x\/H e=some (.own x))(k:∀b u,b≠e->h.get? b=some u->h'.get? b=some u)(heo:∃u,h'.get? e=some u):Un fs ex H (upd H x o) h h':=by
 have hx:∀b,H b=none->b≠x:=fun b n z=>by subst z;rw [n] at mu;exact mu
 have hb:∀b,H b=none->b≠e:=fun b n z=>by
  subst z
  rcases he with r | r
  ·exact hx b n r
  ·rw [n] at r;cases r
 have hm:∀b u,H b=some u->¬ Mut (some u)->b≠x:=fun b u q nm z=>by subst z;rw [q] at mu;exact nm mu
 refine ⟨fun b u q n _ _=>k b u (hb b n) q,fun b u q n _ _=>⟨u.slots,k b u (hb b n) q⟩,fun b u q n _=>by rw [zam (hx b n)];exact n,fun b u q _=>?_,
  fun b xs q=>by rw [zam (hm b _ q fun z=>z)];exact q,fun b u xs q=>by rw [zam (hm b _ q fun z=>z)];exact q,fun b ps q=>⟨#[],by rw [zam (hm b _ q fun z=>z),q];simp⟩⟩
 by_cases hbe:b=e
 ·subst hbe;exact heo
 ·exact ⟨u,k b u hbe q⟩
end
def trk(h:Heap)(H:Hp):List Addr:=(List.range h.objs.size).filter fun a=>(H a).isSome
def znm(h:Heap)(H:Hp):Heap:=PySem.W.hideAll h (trk h H)
theorem zlA(h:Heap)(H:Hp):(znm h H).objs.size=h.objs.size:=PySem.W.hideAll_size _ _
theorem znl{h:Heap}{H:Hp}{b:Addr}{o:Obj}(e:h.get? b=some o)(n:H b=none):(znm h H).get? b=some o :=
 PySem.W.hideAll_get _ e fun hm=>by
  have q:(H b).isSome=true:=(List.mem_filter.mp hm).2;rw [n] at q;simp at q
theorem zpz{h:Heap}{H:Hp}{b:Addr}{o:Obj}(e:(znm h H).get? b=some o):h.get? b=some o/\H b=none:=by
 have e':h.get? b=some o:=PySem.W.of_hideAll (trk h H) e;refine ⟨e',?_⟩
 cases q:H b with
 | none=>rfl
 | some x =>
  have hm:b∈trk h H:=List.mem_filter.mpr ⟨List.mem_range.mpr (Heap.lt_size e'),by simp [q]⟩;have z:(znm h H).get? b=none:=PySem.W.hideAll_none (trk h H) hm;rw [z] at e;cases e
def zqx(g h:Heap)(L:Addr):List (Addr×Obj):=(List.range h.objs.size).filterMap fun a=>if a=L\/(g.get? a).isSome=true then none else (h.get? a).map fun o=>(a,o)
def zbS(g h:Heap)(L d:Addr):List (Addr×Obj):=(zqx g h L).filter fun p=>decide (p.1≠d)
end L2
namespace L2
open PySem PySem.Spec PyProof.Rows
structure Mod(K:PySem.W.Frag)(mg:Z6)(base:Heap):Prop where
 kin:K.In base
 glob:base.Ns mainGlobals mg
 blt:∃mb,base.Ns builtinsNs mb/\∀x:Str,x ≠ "__name__" -> mb x=bootBuiltins x
 nolimit:base.NoLimit
structure Cx where
 prog:Program
 w:World
 K:PySem.W.Frag
 mg:Str->Option Value
 base:Heap
 A:Around
 N:List Str
 s₀:Shared
 H₀:Hp
 env:Env
 outer:List Env
 stack:List Env
 ex:List Addr
 fn:Str->Bool
 calm:Bool
 pn:List (Addr×Obj)
 xe:Value->Shared->Prop
def frs(l:List Env):List Addr:=l.filterMap (·.frame)
abbrev Cx.fs(X:Cx):List Addr:=frs X.outer
def Vis(sc:Scope)(x:Str):Prop:=sc.names.lookup x=some .local\/sc.names.lookup x=some .cell\/sc.names.lookup x=some .free
def Loc(sc:Scope)(x:Str):Prop:=sc.names.lookup x=some .local\/sc.names.lookup x=some .cell
def zzg(env:Env)(h:Heap)(m:Z6)(x:Str)(u:Value):Prop :=
 (env.kindOf x=some .local/\m x=some u)\/((env.kindOf x=some .cell\/env.kindOf x=some .free)/\∃c,env.cells.lookup x=some c/\h.IsCell c (some u))
structure Cx.Ok(X:Cx):Prop where
 mod:Mod X.K X.mg X.base
 kind:X.env.scope.kind=.function
 glob:X.env.globals=mainGlobals
 blt:X.env.builtins=builtinsNs
 above:X.s₀.heap.objs.size<=X.env.locals
 inj:∀x y c,X.env.cells.lookup x=some c->X.env.cells.lookup y=some c->x=y
 has:∀x,(X.env.kindOf x=some .cell\/X.env.kindOf x=some .free)->∃c,X.env.cells.lookup x=some c
 cab:∀x c,X.fn x=true->X.env.cells.lookup x=some c->X.s₀.heap.objs.size<=c
 hd:X.calm=true->X.A.handled=none
 frames:X.A.frames=some X.stack
 stk:X.stack=X.outer\/(X.stack=X.env::X.outer/\X.env.frame=some X.env.locals)
 exf:∀b∈X.ex,b≠X.env.locals/\∀x c,X.env.cells.lookup x=some c->c≠b
 bs:∀b o,X.base.get? b=some o->X.s₀.heap.get? b=some o/\X.H₀ b=none
 bsz:X.base.objs.size<=X.s₀.heap.objs.size
 noex:∀b o,X.base.get? b=some o->b ∉ X.ex
 exfs:∀b∈X.ex,b ∉ X.fs
 funs:X.s₀.heap.FunFrames X.base X.outer
 frf:∀b∈X.fs,X.H₀ b=none
structure Inv(X:Cx)(pins:Z3)(σ:List (Option V))(H:Hp)(s:Shared):Prop where
 ok:X.Ok
 os:s.os=X.s₀.os
 bare:AllBare s.gens
 base:Un X.fs X.ex X.H₀ H X.s₀.heap s.heap
 loc:∃m,s.heap.Ns X.env.locals m/\∀(i:Nat) (x:Str) (v:V),X.N[i]?=some x->σ[i]?=some (some v)->Vis X.env.scope x->∃u,zbx v u/\zzg X.env s.heap m x u
 cell:∀x c,X.env.cells.lookup x=some c->∃v,s.heap.IsCell c v
 free:H X.env.locals=none
 freeC:∀x c,X.env.cells.lookup x=some c->H c=none
 pin:∀p∈X.pn++pins,s.heap.get? p.1=some p.2/\H p.1=none/\p.1≠X.env.locals/\p.1 ∉ X.fs/\∀v,p.2.data≠.cell v
 hok:HOk X.prog X.w H s.heap
 len:σ.length=X.N.length
section
variable{X:Cx}{pins:Z3}{σ:List (Option V)}{H H':Hp}{s:Shared}{h':Heap}
theorem Cx.Ok.nofr(ok:X.Ok){b:Addr}{o:Obj}(e:X.base.get? b=some o):b ∉ X.fs:=fun hb=>by
 have:=(ok.funs.mem hb).1;rw [e] at this;cases this
theorem Inv.bs(I:Inv X pins σ H s):∀b o,X.base.get? b=some o->s.heap.get? b=some o/\H b=none:=fun b o e =>
 ⟨I.base.keep b o (I.ok.bs b o e).1 (I.ok.bs b o e).2 (I.ok.nofr e) (I.ok.noex b o e),I.base.free b o (I.ok.bs b o e).1 (I.ok.bs b o e).2 (I.ok.noex b o e)⟩
theorem Inv.bk(I:Inv X pins σ H s):∀b o,X.base.get? b=some o->s.heap.get? b=some o:=fun b o e=>(I.bs b o e).1
theorem Inv.mod(I:Inv X pins σ H s):Mod X.K X.mg X.base:=I.ok.mod
theorem Inv.kIn(I:Inv X pins σ H s):X.K.In s.heap:=I.ok.mod.kin.keeps I.bk
theorem Inv.lt(I:Inv X pins σ H s):X.env.locals<s.heap.objs.size:=let ⟨_,hn,_⟩:=I.loc;hn.lt
theorem Inv.sz(I:Inv X pins σ H s):X.s₀.heap.objs.size<=s.heap.objs.size:=Nat.le_trans I.ok.above (Nat.le_of_lt I.lt)
theorem Inv.nofs(I:Inv X pins σ H s){a:Addr}(h:s.heap.objs.size<=a):a ∉ X.fs:=fun hb=>by
 obtain ⟨_,o,ho,_⟩:=I.ok.funs.mem hb;exact absurd (Nat.lt_of_lt_of_le (Heap.lt_size ho) (Nat.le_trans I.sz h)) (Nat.lt_irrefl _)
theorem Inv.cne(I:Inv X pins σ H s):∀x c,X.env.cells.lookup x=some c->c≠X.env.locals:=fun x c e z=>by
 obtain ⟨v,o,ho,hd⟩:=I.cell x c e;obtain ⟨m,⟨o',es,ep,ho',hd',_⟩,_⟩:=I.loc;rw [z,ho'] at ho;cases ho;rw [hd'] at hd;cases hd
theorem Inv.funs(I:Inv X pins σ H s):s.heap.FunFrames X.base X.outer:=by
 have all:∀(l:List Env),(∀b∈frs l,b∈X.fs)->X.s₀.heap.FunFrames X.base l->s.heap.FunFrames X.base l:=by
  intro l
  induction l with
  | nil=>intro _ _;trivial
  | cons env r ih =>
   intro hs hl;obtain ⟨hk,⟨L,o,hf,hn,ho,hd⟩,hr⟩:=hl;have hL:L∈X.fs:=hs L (by unfold frs;rw [List.filterMap_cons,hf];exact List.mem_cons_self);obtain ⟨sl,e⟩:=I.base.slot L o ho (I.ok.frf L hL) hL fun z=>I.ok.exfs L z hL
   exact ⟨hk,⟨L,_,hf,hn,e,hd⟩,ih (fun b hb=>hs b (by unfold frs;rw [List.filterMap_cons,hf];exact List.mem_cons_of_mem _ hb)) hr⟩
 exact all X.outer (fun _ hb=>hb) I.ok.funs
theorem Inv.stack(I:Inv X pins σ H s):s.heap.FunFrames X.base X.stack:=by
 rcases I.ok.stk with e | ⟨e,hf⟩
 ·rw [e];exact I.funs
 ·rw [e];obtain ⟨m,hn,_⟩:=I.loc;refine .cons (by rw [I.ok.kind];decide) hf hn ?_ I.funs;exact Heap.get?_none_of_le (Nat.le_trans I.ok.bsz I.ok.above)
theorem Inv.stkSub(I:Inv X pins σ H s):∀b∈frs X.stack,b∈X.env.locals::X.fs:=fun b hb=>by
 rcases I.ok.stk with e | ⟨e,hf⟩
 ·rw [e] at hb;exact List.mem_cons_of_mem _ hb
 ·rw [e] at hb;unfold frs at hb;rw [List.filterMap_cons,hf] at hb;exact hb
theorem Inv.stkFree(I:Inv X pins σ H s):∀b∈frs X.stack,H b=none:=fun b hb=>by
 rcases List.mem_cons.mp (I.stkSub b hb) with e | hb
 ·rw [e];exact I.free
 ·obtain ⟨_,o,ho,_⟩:=I.ok.funs.mem hb;exact I.base.free b o ho (I.ok.frf b hb) fun z=>I.ok.exfs b z hb
theorem Inv.step{g':Array GenState}{t':Nat}{d':Drawn}{ch:List Addr}(I:Inv X pins σ H s)
  (hch:∀b∈ch,(b∈X.ex\/X.s₀.heap.objs.size<=b)/\b≠X.env.locals/\(∀x c,X.env.cells.lookup x=some c->c≠b)/\∀p∈X.pn++pins,p.1≠b)
  (keep:∀b o,b≠X.env.locals->b ∉ X.fs->b ∉ ch->s.heap.get? b=some o->H b=none->h'.get? b=some o)
  (slot:∀b o,b≠X.env.locals->b∈X.fs->b ∉ ch->s.heap.get? b=some o->H b=none->∃sl,h'.get? b=some { o with slots:=sl }) (free:∀b o,b ∉ ch->s.heap.get? b=some o->H b=none->H' b=none)
  (there:∀b o,b ∉ ch->s.heap.get? b=some o->∃o',h'.get? b=some o')
  (tups:∀b xs,H b=some (.tup xs)->H' b=some (.tup xs)) (frzs:∀b o u,H b=some (.frz o u)->H' b=some (.frz o u)) (tbls:∀b ps,H b=some (.tbl ps)->∃more,H' b=some (.tbl (ps++more)))
  (ns:∀m,s.heap.Ns X.env.locals m->h'.Ns X.env.locals m) (hok:HOk X.prog X.w H' h') (hg:AllBare g') :
  Inv X pins σ H' { s with heap:=h',gens:=g',drawn:=d',toks:=t' }:=by
 have neL:∀b o,X.s₀.heap.get? b=some o->b≠X.env.locals:=fun b o e=>Nat.ne_of_lt (Nat.lt_of_lt_of_le (Heap.lt_size e) I.ok.above)
 have neC:∀b o,X.s₀.heap.get? b=some o->b ∉ X.ex->b ∉ ch:=fun b o e hx hb=>by
  rcases (hch b hb).1 with z | z
  ·exact hx z
  ·exact absurd (Nat.lt_of_lt_of_le (Heap.lt_size e) z) (Nat.lt_irrefl _)
 have cellK:∀x c,X.env.cells.lookup x=some c->∀v,s.heap.IsCell c v->h'.IsCell c v:=fun x c e v ⟨o,ho,hd⟩=>by
  have nch:c ∉ ch:=fun z=>(hch c z).2.2.1 x c e rfl
  by_cases hc:c∈X.fs
  ·obtain ⟨sl,q⟩:=slot c o (I.cne x c e) hc nch ho (I.freeC x c e);exact ⟨_,q,hd⟩
  ·exact ⟨o,keep c o (I.cne x c e) hc nch ho (I.freeC x c e),hd⟩
 refine ⟨I.ok,I.os,hg,⟨fun b o e n hb hx=>?_,fun b o e n hb hx=>?_,fun b o e n hx=>?_,fun b o e hx=>?_,fun b xs e=>tups b xs (I.base.tups b xs e),fun b o xs e=>frzs b o xs (I.base.frzs b o xs e),fun b ps e=>?_⟩,?_,fun x c e=>?_,?_,fun x c e=>?_,fun p hp=>?_,hok,I.len⟩
 ·exact keep b o (neL b o e) hb (neC b o e hx) (I.base.keep b o e n hb hx) (I.base.free b o e n hx)
 ·obtain ⟨sl,e1⟩:=I.base.slot b o e n hb hx;obtain ⟨sl',e2⟩:=slot b _ (neL b o e) hb (neC b o e hx) e1 (I.base.free b o e n hx);exact ⟨sl',e2⟩
 ·obtain ⟨o',e1⟩:=I.base.there b o e hx;exact free b o' (neC b o e hx) e1 (I.base.free b o e n hx)
 ·obtain ⟨o',e1⟩:=I.base.there b o e hx;exact there b o' (neC b o e hx) e1
 ·obtain ⟨m1,e1⟩:=I.base.tbls b ps e;obtain ⟨m2,e2⟩:=tbls b _ e1;exact ⟨m1++m2,by rw [e2,Array.append_assoc]⟩
 ·obtain ⟨m,hn,hl⟩:=I.loc;refine ⟨m,ns m hn,fun i x v e1 e2 e3=>?_⟩;obtain ⟨u,r,l⟩:=hl i x v e1 e2 e3;refine ⟨u,r,?_⟩
  rcases l with l | ⟨k,c,e,z⟩
  ·exact .inl l
  ·exact .inr ⟨k,c,e,cellK x c e _ z⟩
 ·obtain ⟨v,z⟩:=I.cell x c e;exact ⟨v,cellK x c e v z⟩
 ·obtain ⟨m,⟨o,_,_,ho,_⟩,_⟩:=I.loc;exact free _ o (fun z=>(hch _ z).2.1 rfl) ho I.free
 ·obtain ⟨v,o,ho,hd⟩:=I.cell x c e;exact free c o (fun z=>(hch c z).2.2.1 x c e rfl) ho (I.freeC x c e)
 ·obtain ⟨e,n,ne,nf,d⟩:=I.pin p hp;have nch:p.1 ∉ ch:=fun z=>(hch p.1 z).2.2.2 p hp rfl
  exact ⟨keep p.1 p.2 ne nf nch e n,free p.1 p.2 nch e n,ne,nf,d⟩
theorem Inv.un{t':Nat}(I:Inv X pins σ H s)(u:Un X.fs [] H H' s.heap h')(hok:HOk X.prog X.w H' h'):Inv X pins σ H' { s with heap:=h',toks:=t' }:=by
 obtain ⟨m,⟨o,es,ep,ho,r⟩,_⟩:=id I.loc;obtain ⟨sl,hL⟩:=u.any ho I.free (by simp)
 exact I.step (g':=s.gens) (d':=s.drawn) (ch:=[]) (fun _ z=>nomatch z) (fun b o _ hb _ e n=>u.keep b o e n hb (by simp)) (fun b o _ hb _ e n=>u.slot b o e n hb (by simp)) (fun b o _ e n=>u.free b o e n (by simp)) (fun b o _ e=>u.there b o e (by simp)) u.tups u.frzs u.tbls (fun m' hm=>by
  obtain ⟨o',es',ep',ho',r'⟩:=hm;rw [ho] at ho';cases ho'
  exact ⟨_,es',ep',hL,r'⟩) hok I.bare
theorem Inv.call{g':Array GenState}{t':Nat}{d':Drawn}{ch:List Addr}(I:Inv X pins σ H s)(u:Un (frs X.stack) ch H H' s.heap h')(hok:HOk X.prog X.w H' h')(hg:AllBare g')
  (hch:∀b∈ch,(b∈X.ex\/X.s₀.heap.objs.size<=b)/\b≠X.env.locals/\(∀x c,X.env.cells.lookup x=some c->c≠b)/\∀p∈X.pn++pins,p.1≠b) :
  Inv X pins σ H' { s with heap:=h',gens:=g',drawn:=d',toks:=t' }:=by
 obtain ⟨m,⟨o,es,ep,ho,r⟩,_⟩:=id I.loc;obtain ⟨sl,hL⟩:=u.any ho I.free fun z=>(hch _ z).2.1 rfl
 exact I.step (ch:=ch) hch (fun b o hL hb hc e n=>u.keep b o e n (fun z=>(List.mem_cons.mp (I.stkSub b z)).elim hL hb) hc) (fun b o _ _ hc e n=>u.any e n hc) (fun b o hc e n=>u.free b o e n hc) (fun b o hc e=>u.there b o e hc) u.tups u.frzs u.tbls (fun m' hm=>by
  obtain ⟨o',es',ep',ho',r'⟩:=hm;rw [ho] at ho';cases ho'
  exact ⟨_,es',ep',hL,r'⟩) hok hg
theorem Inv.turned{t':Nat}{it:Addr}(I:Inv X pins σ H s)(k:∀b o,b≠it->s.heap.get? b=some o->h'.get? b=some o)(hn:H it=none)(hL:it≠X.env.locals)
  (h1:it∈X.ex\/X.s₀.heap.objs.size<=it) (h2:∀x c,X.env.cells.lookup x=some c->c≠it) (h3:∀p∈X.pn++pins,p.1≠it):Inv X pins σ H { s with heap:=h',toks:=t' }:=by
 have nit:∀b u,H b=some u->b≠it:=fun b u e z=>by rw [z,hn] at e;cases e
 refine I.step (g':=s.gens) (d':=s.drawn) (ch:=[it]) (fun b hb=>?_) (fun b o _ _ hc e _=>k b o (fun z=>hc (by simp [z])) e) (fun b o _ _ hc e _=>⟨o.slots,k b o (fun z=>hc (by simp [z])) e⟩) (fun _ _ _ _ n=>n)
  (fun b o hc e=>⟨o,k b o (fun z=>hc (by simp [z])) e⟩) (fun _ _ e=>e) (fun _ _ _ e=>e) (fun b ps e=>⟨#[],by rw [e];simp⟩) (fun m hm=>?_) (fun b u e=>?_) I.bare
 ·have e:b=it:=by simpa using hb
  subst e;exact ⟨h1,hL,h2,h3⟩
 ·obtain ⟨o,es,ep,ho,r⟩:=hm;exact ⟨o,es,ep,k _ o (Ne.symm hL) ho,r⟩
 ·refine (I.hok b u e).stay (fun c v hc q=>k c v ?_ q) (fun _ q=>q) fun _ _ q=>q
  rcases hc with z | z
  ·rw [z];exact nit b u e
  ·exact nit c _ z
theorem Inv.tok(I:Inv X pins σ H s)(t:Nat):Inv X pins σ H { s with toks:=t }:=I.un (h':=s.heap) (t':=t) Un.refl I.hok
theorem Inv.kept{t':Nat}(I:Inv X pins σ H s)(k:∀b u,s.heap.get? b=some u->h'.get? b=some u):Inv X pins σ H { s with heap:=h',toks:=t' }:=I.un (Un.kept k) (I.hok.kept k)
theorem Inv.laid{a:Addr}{o:HO}{t':Nat}(I:Inv X pins σ H s)(k:∀b u,s.heap.get? b=some u->h'.get? b=some u)(hp:s.heap.objs.size<=a)(new:zbQ X.prog X.w (upd H a o) h' a o) :
  Inv X pins σ (upd H a o) { s with heap:=h',toks:=t' }:=I.un (Un.laid k hp (I.hok.fresh hp)) (I.hok.laid k hp new)
theorem Inv.write{x e:Addr}{o:HO}{t':Nat}(I:Inv X pins σ H s)(mu:Mut (H x))(he:e=x\/H e=some (.own x))(k:∀b u,b≠e->s.heap.get? b=some u->h'.get? b=some u)(heo:∃u,h'.get? e=some u)
  (new:zbQ X.prog X.w (upd H x o) h' x o):Inv X pins σ (upd H x o) { s with heap:=h',toks:=t' }:=I.un (Un.write mu he k heo) (I.hok.write mu he k heo new)
theorem Inv.pins_of{pins':Z3}(I:Inv X pins σ H s)(h:∀p∈pins',s.heap.get? p.1=some p.2/\H p.1=none/\p.1≠X.env.locals/\p.1 ∉ X.fs/\∀v,p.2.data≠.cell v):Inv X pins' σ H s :=
 ⟨I.ok,I.os,I.bare,I.base,I.loc,I.cell,I.free,I.freeC,fun p hp=>(List.mem_append.mp hp).elim (fun z=>I.pin p (List.mem_append_left _ z)) (h p),I.hok,I.len⟩
theorem zgz{N:List Str}(hN:N.Nodup){i j:Nat}{x:Str}(a:N[i]?=some x)(b:N[j]?=some x):i=j:=by
 obtain ⟨h1,e1⟩:=List.getElem?_eq_some_iff.mp a;obtain ⟨h2,e2⟩:=List.getElem?_eq_some_iff.mp b;exact (List.getElem_inj hN).mp (e1.trans e2.symm)
theorem zg0{M:Model}{A:Around}{E:Z5}{i:Nat}{x:Str}{v:V}{u:Value}{Q:Unit->Shared->Prop}(I:Inv X pins σ H s)(hN:X.N.Nodup)(hi:X.N[i]?=some x)(hx:Loc X.env.scope x)(r:zbx v u)
  (h:∀s',Inv X pins (σ.set i (some v)) H s'->(∃a,Heap.SameBut a s.heap s'.heap/\(a=X.env.locals\/X.env.cells.lookup x=some a))->Q () s') (hf:X.fn x=true\/X.env.scope.names.lookup x=some .local:=by first | exact .inl rfl | exact .inr rfl | assumption):wpAny M A (storeName X.env x u) Q E s:=by
 obtain ⟨m,hn,hl⟩:=id I.loc
 have hcls:(X.env.scope.kind == .class||(X.env.scope.kind == .module&&X.env.locals != X.env.globals))=false:=by rw [I.ok.kind];rfl
 have hiσ:i<σ.length:=by rw [I.len];exact (List.getElem?_eq_some_iff.mp hi).1
 have cne:=I.cne
 have tracked:∀{a:Addr} {h':Heap},(∃o,s.heap.get? a=some o/\H a=none)->Heap.SameBut a s.heap h'->HOk X.prog X.w H h':=fun {a h'} ha hs b ob e=>by
  obtain ⟨_,_,hfree⟩:=ha;refine (I.hok b ob e).stay (fun c w' hc q=>(hs.2 c ?_).trans q) (fun _ q=>q) fun _ _ q=>q
  rintro rfl
  rcases hc with rfl | hc
  ·rw [hfree] at e;cases e
  ·rw [hfree] at hc;cases hc
 rcases hx with hk | hk
 ·refine wpAny_storeName_local hk hn (fun h' hn' hs=>?_) hcls;obtain ⟨oL,_,_,hoL,_⟩:=id hn;refine h _ ⟨I.ok,I.os,I.bare,⟨fun b o e n hb hx=>?_,fun b o e n hb hx=>?_,I.base.free,fun b o e hx=>?_,I.base.tups,I.base.frzs,I.base.tbls⟩,⟨_,hn',fun j y v' e1 e2 e3=>?_⟩,fun y c e=>?_,I.free,I.freeC,fun p hp=>?_,tracked ⟨oL,hoL,I.free⟩ hs,by simpa using I.len⟩ ⟨_,hs,.inl rfl⟩
  ·exact (hs.2 b (Nat.ne_of_lt (Nat.lt_of_lt_of_le (Heap.lt_size e) I.ok.above))).trans (I.base.keep b o e n hb hx)
  ·obtain ⟨sl,e1⟩:=I.base.slot b o e n hb hx;exact ⟨sl,(hs.2 b (Nat.ne_of_lt (Nat.lt_of_lt_of_le (Heap.lt_size e) I.ok.above))).trans e1⟩
  ·obtain ⟨o',e1⟩:=I.base.there b o e hx;exact ⟨o',(hs.2 b (Nat.ne_of_lt (Nat.lt_of_lt_of_le (Heap.lt_size e) I.ok.above))).trans e1⟩
  ·by_cases hj:j=i
   ·subst hj;rw [hi] at e1;cases e1;rw [List.getElem?_set_self hiσ] at e2;cases e2;exact ⟨u,r,.inl ⟨hk,by simp⟩⟩
   ·rw [List.getElem?_set_ne (Ne.symm hj)] at e2;obtain ⟨u',r',q⟩:=hl j y v' e1 e2 e3;refine ⟨u',r',?_⟩
    rcases q with ⟨k,e⟩ | ⟨k,c,e,z⟩
    ·refine .inl ⟨k,?_⟩;have:y≠x:=fun e=>hj (zgz hN e1 (e ▸ hi))
     simp [this,e]
    ·exact .inr ⟨k,c,e,z.sameBut hs (cne y c e)⟩
  ·obtain ⟨w',z⟩:=I.cell y c e;exact ⟨w',z.sameBut hs (cne y c e)⟩
  ·obtain ⟨e,n,ne,nf,d⟩:=I.pin p hp;exact ⟨(hs.2 p.1 ne).trans e,n,ne,nf,d⟩
 ·have hfn:X.fn x=true:=by
   rcases hf with z | z
   ·exact z
   ·rw [z] at hk;cases hk
  obtain ⟨c,hc⟩:=I.ok.has x (.inl hk);obtain ⟨w',z⟩:=I.cell x c hc;refine wpAny_storeName_cell I.ok.kind hk hc z (fun h' hc' hs=>?_);obtain ⟨oc,hoc,hocd⟩:=id z;refine h { s with heap:=h' } ⟨I.ok,I.os,I.bare,⟨fun b o e n hb hx=>?_,fun b o e n hb hx=>?_,I.base.free,fun b o e hx=>?_,I.base.tups,I.base.frzs,I.base.tbls⟩,⟨m,hn.sameBut hs (Ne.symm (cne x c hc)),fun j y v' e1 e2 e3=>?_⟩,fun y c' e=>?_,I.free,I.freeC,fun p hp=>?_,tracked ⟨oc,hoc,I.freeC x c hc⟩ hs,by simpa using I.len⟩ ⟨c,hs,.inr hc⟩
  ·exact (hs.2 b (Nat.ne_of_lt (Nat.lt_of_lt_of_le (Heap.lt_size e) (I.ok.cab x c hfn hc)))).trans (I.base.keep b o e n hb hx)
  ·obtain ⟨sl,e1⟩:=I.base.slot b o e n hb hx;exact ⟨sl,(hs.2 b (Nat.ne_of_lt (Nat.lt_of_lt_of_le (Heap.lt_size e) (I.ok.cab x c hfn hc)))).trans e1⟩
  ·obtain ⟨o',e1⟩:=I.base.there b o e hx;exact ⟨o',(hs.2 b (Nat.ne_of_lt (Nat.lt_of_lt_of_le (Heap.lt_size e) (I.ok.cab x c hfn hc)))).trans e1⟩
  ·by_cases hj:j=i
   ·subst hj;rw [hi] at e1;cases e1;rw [List.getElem?_set_self hiσ] at e2;cases e2;exact ⟨u,r,.inr ⟨.inl hk,c,hc,hc'⟩⟩
   ·rw [List.getElem?_set_ne (Ne.symm hj)] at e2;obtain ⟨u',r',q⟩:=hl j y v' e1 e2 e3;refine ⟨u',r',?_⟩
    rcases q with q | ⟨k,c',e,z'⟩
    ·exact .inl q
    ·refine .inr ⟨k,c',e,z'.sameBut hs ?_⟩;rintro rfl;exact hj (zgz hN e1 (I.ok.inj _ _ _ e hc ▸ hi))
  ·by_cases hcc:c'=c
   ·subst hcc;exact ⟨_,hc'⟩
   ·obtain ⟨w2,z2⟩:=I.cell y c' e;exact ⟨w2,z2.sameBut hs hcc⟩
  ·obtain ⟨e,n,ne,nf,d⟩:=I.pin p hp;refine ⟨(hs.2 p.1 ?_).trans e,n,ne,nf,d⟩;intro q;rw [q,hoc] at e;have q':oc=p.2:=Option.some.inj e;exact d w' (by rw [<-q'];exact hocd)
theorem zdS{M:Model}{A:Around}{E:Z5}{i:Nat}{x:Str}{v:V}{u:Value}{Q:Unit->Shared->Prop}(I:Inv X pins σ H s)(hN:X.N.Nodup)(hi:X.N[i]?=some x)(hx:Loc X.env.scope x)(r:zbx v u)
  (h:∀s',Inv X pins (σ.set i (some v)) H s'->Q () s') (hf:X.fn x=true\/X.env.scope.names.lookup x=some .local:=by first | exact .inl rfl | exact .inr rfl | assumption):wpAny M A (storeName X.env x u) Q E s :=
 zg0 I hN hi hx r (fun s' I' _=>h s' I') hf
theorem Inv.call'{s':Shared}{ch:List Addr}(I:Inv X pins σ H s)(ho:s'.os=s.os)(u:Un (frs X.stack) ch H H' s.heap s'.heap)(hok:HOk X.prog X.w H' s'.heap)(hg:AllBare s'.gens)
  (hch:∀b∈ch,(b∈X.ex\/X.s₀.heap.objs.size<=b)/\b≠X.env.locals/\(∀x c,X.env.cells.lookup x=some c->c≠b)/\∀p∈X.pn++pins,p.1≠b):Inv X pins σ H' s':=by
 obtain ⟨h',g',d',t',o'⟩:=s';have e:o'=s.os:=ho;subst e;exact I.call (g':=g') (t':=t') (d':=d') u hok hg hch
end
abbrev XK:=Value->Option Addr->Hp->Prop
abbrev St:=List (Option V)
abbrev VK:=V->Hp->Prop
abbrev TE:=St->Hp->VK->Prop
abbrev TT:=St->Hp->(Bool->Hp->Prop)->Prop
abbrev TA:=St->Hp->(List V->Hp->Prop)->Prop
structure Ends where
 nx:St->Hp->Prop
 rt:VK
 bk:St->Hp->Prop:=fun _ _=>False
 ct:St->Hp->Prop:=fun _ _=>False
abbrev TS:=Ends->St->Hp->Prop
def EP(X:Cx)(pins:Z3)(σ:St)(Q:VK)(u:Value)(s':Shared):Prop:=∃v H',Inv X pins σ H' s'/\zbx v u/\Q v H'
def TP(X:Cx)(pins:Z3)(σ:St)(Q:Bool->Hp->Prop)(b:Bool)(s':Shared):Prop:=∃H',Inv X pins σ H' s'/\Q b H'
def AP(X:Cx)(pins:Z3)(σ:St)(Q:List V->Hp->Prop)(us:List Value)(s':Shared):Prop:=∃vs H',Inv X pins σ H' s'/\Vals vs us/\Q vs H'
def SP(X:Cx)(pins:Z3)(D:Ends)(f:Flow)(s':Shared):Prop :=
 match f with
 | .next=>∃σ' H',Inv X pins σ' H' s'/\D.nx σ' H'
 | .brk=>∃σ' H',Inv X pins σ' H' s'/\D.bk σ' H'
 | .cont=>∃σ' H',Inv X pins σ' H' s'/\D.ct σ' H'
 | .ret u=>∃v σ' H',Inv X pins σ' H' s'/\zbx v u/\D.rt v H'
def PE(X:Cx)(e:Expr)(t:TE):Prop :=
 ∀(pins:Z3) (s:Shared) (σ:St) (H:Hp) (Q:VK),Inv X pins σ H s->t σ H Q->wpAny (model X.prog X.w) X.A (eval e X.env) (EP X pins σ Q) X.xe s
def PT(X:Cx)(e:Expr)(t:TT):Prop :=
 ∀(pins:Z3) (s:Shared) (σ:St) (H:Hp) (Q:Bool->Hp->Prop),Inv X pins σ H s->t σ H Q->wpAny (model X.prog X.w) X.A (isTrue e X.env (eval e X.env)) (TP X pins σ Q) X.xe s
def PW(X:Cx)(e:Expr)(t:TT):Prop :=
 ∀(whole:Sem Value) (pins:Z3) (s:Shared) (σ:St) (H:Hp) (Q:Bool->Hp->Prop),Inv X pins σ H s->t σ H Q->wpAny (model X.prog X.w) X.A (isTrue e X.env whole) (TP X pins σ Q) X.xe s
theorem PW.pt{X:Cx}{e:Expr}{t:TT}(h:PW X e t):PT X e t:=h _
def PA(X:Cx)(es:List Expr)(t:TA):Prop :=
 ∀(pos:Pos) (pins:Z3) (s:Shared) (σ:St) (H:Hp) (Q:List V->Hp->Prop),Inv X pins σ H s->t σ H Q->wpAny (model X.prog X.w) X.A (spliced (backTo pos (starEach es X.env))) (AP X pins σ Q) X.xe s
def PS(X:Cx)(st:Stmt)(t:TS):Prop :=
 ∀(pins:Z3) (s:Shared) (σ:St) (H:Hp) (D:Ends),Inv X pins σ H s->t D σ H->wpAny (model X.prog X.w) X.A (exec st X.env) (SP X pins D) X.xe s
def PSs(X:Cx)(st:List Stmt)(t:TS):Prop :=
 ∀(pins:Z3) (s:Shared) (σ:St) (H:Hp) (D:Ends),Inv X pins σ H s->t D σ H->wpAny (model X.prog X.w) X.A (execs st X.env) (SP X pins D) X.xe s
theorem thn{α:Type}{t:Sem α}{Q Q':α->Shared->Prop}{M:Model}{A:Around}{E:Z5}{s:Shared}(h:wpAny M A t Q E s)(hQ:∀a s,Q a s->Q' a s):wpAny M A t Q' E s:=wpAny_mono h hQ fun _ _ x=>x
end L2
namespace L2
open PySem PySem.Spec PyProof.Rows
section
variable{X:Cx}
def zwl(i:Nat):TE:=fun σ H Q=>∃v,σ[i]?=some (some v)/\Q v H
def tC(v:V):TE:=fun _ H Q=>Q v H
theorem zcz{i:Nat}{x:Str}{pos:Pos}(hN:X.N[i]?=some x)(hv:Vis X.env.scope x)(hd:(x == ("__debug__":Str))=false:=by decide)(hcd:(x == ("__classdict__":Str))=false:=by decide):PE X (.Name x pos) (zwl i):=by
 intro pins s σ H Q I h;obtain ⟨v,e,h⟩:=h;obtain ⟨m,hn,hl⟩:=I.loc;obtain ⟨u,r,l⟩:=hl i x v hN e hv;have fin:EP X pins σ Q u s:=⟨v,H,I,r,h⟩
 rcases l with ⟨hk,hm⟩ | ⟨hk,c,hc,hcell⟩
 ·exact wpAny_Name (wpAny_loadName_local I.ok.kind hk hn hm fin) hd
 ·rcases hk with hk | hk
  ·exact wpAny_Name (wpAny_loadName_cell I.ok.kind hk hc hcell fin) hd
  ·exact wpAny_Name (wpAny_loadName_free I.ok.kind hk hc hcell fin hcd) hd
theorem zkY{i j pos}:PE X (.Constant (.int i) j pos) (tC (.int i)):=fun _ _ _ H _ I h=>wpAny_Constant_int ⟨.int i,H,I.tok _,⟨_,rfl⟩,h⟩
theorem zuA{b j pos}:PE X (.Constant (.bool b) j pos) (tC (.bl b)):=fun _ _ _ H _ I h=>Constant_bool ⟨.bl b,H,I,rfl,h⟩
theorem zrS{j pos}:PE X (.Constant .none j pos) (tC .non):=fun _ _ _ H _ I h=>Constant_none ⟨.non,H,I,rfl,h⟩
theorem zrN{x j pos}:PE X (.Constant (.str x) j pos) (tC (.str x)):=fun _ _ _ H _ I h=>Calls.Constant_str ⟨.str x,H,I.tok _,⟨_,rfl⟩,h⟩
def Gl(X:Cx)(x:Str):Prop:=X.env.kindOf x=some .globalImplicit
theorem zen{E:Z5}{pins:Z3}{s:Shared}{σ:St}{H:Hp}{x:Str}{u:Value}{pos:Pos}{Q:Z5}(I:Inv X pins σ H s)(hg:Gl X x)(hm:X.mg x=some u)(h:Q u s)
  (hd:(x == ("__debug__":Str))=false:=by decide):wpAny (model X.prog X.w) X.A (eval (.Name x pos) X.env) Q E s :=
 Calls.Name_function_global I.ok.kind hg (Calls.loadGlobal_global (by rw [I.ok.glob];exact I.mod.glob.keeps I.bk) hm h) hd
theorem zd3{E:Z5}{pins:Z3}{s:Shared}{σ:St}{H:Hp}{x:Str}{u:Value}{pos:Pos}{Q:Z5}(I:Inv X pins σ H s)(hg:Gl X x)(hm:X.mg x=none)(hv:bootBuiltins x=some u)(h:Q u s)
  (hn:x ≠ "__name__":=by decide) (hd:(x == ("__debug__":Str))=false:=by decide):wpAny (model X.prog X.w) X.A (eval (.Name x pos) X.env) Q E s:=by
 obtain ⟨mb,h1,h2⟩:=I.mod.blt;exact Calls.Name_function_global I.ok.kind hg (Calls.loadGlobal_builtin (by rw [I.ok.glob];exact I.mod.glob.keeps I.bk) hm (by rw [I.ok.blt];exact h1.keeps I.bk) ((h2 x hn).trans hv) h) hd
theorem zkZ{x:Str}{v:V}{u:Value}{pos:Pos}(hg:Gl X x)(hm:X.mg x=some u)(r:zbx v u)(hd:(x == ("__debug__":Str))=false:=by decide):PE X (.Name x pos) (tC v) :=
 fun _ _ _ H _ I h=>zen I hg hm ⟨v,H,I,r,h⟩ hd
theorem zk2{x:Str}{v:V}{u:Value}{pos:Pos}(hg:Gl X x)(hm:X.mg x=none)(hv:bootBuiltins x=some u)(r:zbx v u)(hn:x ≠ "__name__":=by decide)(hd:(x == ("__debug__":Str))=false:=by decide):PE X (.Name x pos) (tC v) :=
 fun _ _ _ H _ I h=>zd3 I hg hm hv ⟨v,H,I,r,h⟩ hn hd
variable{a b:Expr}{ta tb:TE}{pos:Pos}
def tB(t:TE):TT:=fun σ H Q=>t σ H fun x H1=>∃c,x=.bl c/\Q c H1
theorem zrF{e:Expr}{t:TE}(h:PE X e t)(he:∀whole,isTrue e X.env whole=(do let v ← whole;standAt e.pos;holding [v] (truthy v)):=by intro _;rfl):PT X e (tB t):=by
 intro pins s σ H Q I hw;refine isTrue_plain (thn (h pins s σ H _ I hw) fun v s1 ⟨x,H1,I1,r1,q1⟩=>?_) (he _);obtain ⟨d,rfl,q⟩:=q1;cases r1;exact wpAny_truthy_bool ⟨H1,I1,q⟩
variable{tA tB':TT}{zbS:List Expr}
def zwo(t u:TT):TT:=fun σ H Q=>t σ H fun c H1=>if c=true then u σ H1 Q else Q false H1
def tOr(t u:TT):TT:=fun σ H Q=>t σ H fun c H1=>if c=true then Q true H1 else u σ H1 Q
def zwm(t:TT):TT:=fun σ H Q=>t σ H fun c H1=>Q (!c) H1
theorem zpe(ha:PT X a tA):PW X (.BoolOp .And [a] pos) tA:=by
 intro wh pins s σ H Q I h;refine isTrue_and (thn (ha pins s σ H Q I h) fun c s1 e=>?_)
 cases c with
 | true=>exact isTrue_and_nil e
 | false=>exact e
theorem zrD(ha:PT X a tA):PW X (.BoolOp .Or [a] pos) tA:=by
 intro wh pins s σ H Q I h;refine isTrue_or (thn (ha pins s σ H Q I h) fun c s1 e=>?_)
 cases c with
 | false=>exact isTrue_or_nil e
 | true=>exact e
theorem zrE(ha:PT X a tA)(hb:PW X (.BoolOp .And (b::zbS) pos) tB'):PW X (.BoolOp .And (a::b::zbS) pos) (zwo tA tB'):=by
 intro wh pins s σ H Q I h;refine isTrue_and (thn (ha pins s σ H _ I h) fun c s1 ⟨H1,I1,q1⟩=>?_)
 cases c with
 | true=>exact hb wh pins s1 σ H1 Q I1 q1
 | false=>exact ⟨H1,I1,q1⟩
theorem zuv(ha:PT X a tA)(hb:PW X (.BoolOp .Or (b::zbS) pos) tB'):PW X (.BoolOp .Or (a::b::zbS) pos) (tOr tA tB'):=by
 intro wh pins s σ H Q I h;refine isTrue_or (thn (ha pins s σ H _ I h) fun c s1 ⟨H1,I1,q1⟩=>?_)
 cases c with
 | true=>exact ⟨H1,I1,q1⟩
 | false=>exact hb wh pins s1 σ H1 Q I1 q1
theorem zrG(ha:PT X a tA):PT X (.UnaryOp .Not a pos) (zwm tA):=by
 intro pins s σ H Q I h;exact isTrue_not (ha pins s σ H (fun c H1=>Q (!c) H1) I h)
def zuc(ta tb:TE):TE:=fun σ H Q=>ta σ H fun x H1=>∃c,x=.bl c/\if c=true then tb σ H1 Q else Q (.bl false) H1
def zyb(ta tb:TE):TE:=fun σ H Q=>ta σ H fun x H1=>∃c,x=.bl c/\if c=true then Q (.bl true) H1 else tb σ H1 Q
def zt3(ta:TE):TE:=fun σ H Q=>ta σ H fun x H1=>∃c,x=.bl c/\Q (.bl (!c)) H1
theorem zrQ{op}{t:TE}(h:PE X a t):PE X (.BoolOp op [a] pos) t:=fun pins s σ H Q I hw=>BoolOp_one (h pins s σ H Q I hw)
theorem zrU(ha:PE X a ta)(hb:PE X (.BoolOp .And (b::zbS) pos) tb):PE X (.BoolOp .And (a::b::zbS) pos) (zuc ta tb):=by
 intro pins s σ H Q I h;refine BoolOp_and (thn (ha pins s σ H _ I h) fun v s1 ⟨x,H1,I1,r1,q1⟩=>?_);obtain ⟨c,rfl,q1⟩:=q1;cases r1;refine wpAny_truthy_bool ?_
 cases c with
 | true=>exact hb pins s1 σ H1 Q I1 q1
 | false=>exact ⟨.bl false,H1,I1,rfl,q1⟩
theorem zuz(ha:PE X a ta)(hb:PE X (.BoolOp .Or (b::zbS) pos) tb):PE X (.BoolOp .Or (a::b::zbS) pos) (zyb ta tb):=by
 intro pins s σ H Q I h;refine BoolOp_or (thn (ha pins s σ H _ I h) fun v s1 ⟨x,H1,I1,r1,q1⟩=>?_);obtain ⟨c,rfl,q1⟩:=q1;cases r1;refine wpAny_truthy_bool ?_
 cases c with
 | false=>exact hb pins s1 σ H1 Q I1 q1
 | true=>exact ⟨.bl true,H1,I1,rfl,q1⟩
theorem zrR(ha:PE X a ta):PE X (.UnaryOp .Not a pos) (zt3 ta):=by
 intro pins s σ H Q I h;refine UnaryOp_ (thn (ha pins s σ H _ I h) fun v s1 ⟨x,H1,I1,r1,q1⟩=>?_);obtain ⟨c,rfl,q1⟩:=q1;cases r1;exact not_of (wpAny_truthy_bool ⟨.bl (!c),H1,I1,rfl,q1⟩)
def tIf(t:TT)(ta tb:TE):TE:=fun σ H Q=>t σ H fun c H1=>if c=true then ta σ H1 Q else tb σ H1 Q
theorem zmR{c:Expr}(hc:PT X c tA)(ha:PE X a ta)(hb:PE X b tb):PE X (.IfExp c a b pos) (tIf tA ta tb):=by
 intro pins s σ H Q I h;refine wpAny_IfExp (thn (hc pins s σ H _ I h) fun d s1 ⟨H1,I1,q1⟩=>?_)
 cases d with
 | true=>exact ha pins s1 σ H1 Q I1 q1
 | false=>exact hb pins s1 σ H1 Q I1 q1
end
end L2
namespace L2
open PySem PySem.Spec PyProof.Rows
def SqL(K:PySem.W.Frag)(H:Hp)(a:Addr)(xs:List V):Prop :=
 Rd H a (.lst xs) ∨
  ∃(o:Obj) (its:Array Value) (n:Nat),K.lookup a=some o/\o.cls=.type "list" /\ o.dict=none/\o.data=.seq its n/\its.size<=sizeLine/\Vals xs its.toList
def SqT(K:PySem.W.Frag)(H:Hp)(a:Addr)(xs:List V):Prop :=
 Rd H a (.tup xs) ∨
  ∃(o:Obj) (its:Array Value) (n:Nat),K.lookup a=some o/\o.cls=.type "tuple" /\ o.data=.seq its n/\its.size<=sizeLine/\Vals xs its.toList
def zzf:Value->Option V
 | .none=>some .non
 | .bool b=>some (.bl b)
 | .int i _=>some (.int i)
 | .str x _=>some (.str x)
 | .bytes b _=>some (.byt b)
 | .float b _=>some (.flt b)
 | .ref a=>some (.ref a)
 | .type n=>some (.ty n)
 | _=>none
theorem zbx.abs{x:V}{u:Value}(r:zbx x u):zzf u=some x:=by
 cases x with
 | non=>cases r;rfl
 | bl _=>cases r;rfl
 | int _=>obtain ⟨t,rfl⟩:=r;rfl
 | str _=>obtain ⟨t,rfl⟩:=r;rfl
 | byt _=>obtain ⟨t,rfl⟩:=r;rfl
 | flt _=>obtain ⟨t,rfl⟩:=r;rfl
 | ref _=>cases r;rfl
 | ty _=>cases r;rfl
theorem zbx.inj{x y:V}{u:Value}(r:zbx x u)(q:zbx y u):x=y:=Option.some.inj (r.abs.symm.trans q.abs)
theorem Vals.inj:∀{xs ys:List V} {us:List Value},Vals xs us->Vals ys us->xs=ys
 | _,_,_,.nil,.nil=>rfl
 | _,_,_,.cons r t,.cons r' t'=>by rw [r.inj r',Vals.inj t t']
section
variable{X:Cx}{pins:Z3}{σ:St}{H:Hp}{s:Shared}{a:Addr}{xs ys:List V}
theorem SqL.of{K:PySem.W.Frag}(h:H a=some (.lst xs)):SqL K H a xs:=.inl (.inl h)
theorem SqT.of{K:PySem.W.Frag}(h:H a=some (.tup xs)):SqT K H a xs:=.inl (.inl h)
theorem Inv.list(I:Inv X pins σ H s)(h:SqL X.K H a xs):∃its:List Value,Vals xs its/\PlainL s.heap a its.toArray/\xs.length<=sizeLine:=by
 rcases h with h | ⟨o,its,n,hk,hc,hd,hs,hz,r⟩
 ·obtain ⟨z,its,n,r,e⟩:=h.ok I.hok;exact ⟨its,r,⟨_,n,e,rfl,rfl,rfl⟩,z⟩
 ·refine ⟨its.toList,r,⟨o,n,I.kIn a o hk,hc,hd,by simpa using hs⟩,?_⟩;have e:=r.length;simp only [Array.length_toList] at e;omega
theorem Inv.tuple(I:Inv X pins σ H s)(h:SqT X.K H a xs):∃its:List Value,Vals xs its/\IsTup s.heap a its.toArray/\xs.length<=sizeLine:=by
 rcases h with h | ⟨o,its,n,hk,hc,hs,hz,r⟩
 ·obtain ⟨z,its,r,p⟩:=h.ok I.hok;exact ⟨its,r,p,z⟩
 ·refine ⟨its.toList,r,⟨o,I.kIn a o hk,hc,n,by simpa using hs⟩,?_⟩;have e:=r.length;simp only [Array.length_toList] at e;omega
theorem Inv.list_inj(I:Inv X pins σ H s)(h:SqL X.K H a xs)(h':SqL X.K H a ys):xs=ys:=by
 obtain ⟨its,r,⟨o,n,e,_,_,d⟩,_⟩:=I.list h;obtain ⟨its',r',⟨o',n',e',_,_,d'⟩,_⟩:=I.list h';rw [e] at e';cases e';rw [d] at d'
 injection d' with d1 _
 have:its=its':=by simpa using congrArg Array.toList d1
 subst this;exact r.inj r'
theorem Inv.tuple_inj(I:Inv X pins σ H s)(h:SqT X.K H a xs)(h':SqT X.K H a ys):xs=ys:=by
 obtain ⟨its,r,⟨o,e,_,n,d⟩,_⟩:=I.tuple h;obtain ⟨its',r',⟨o',e',_,n',d'⟩,_⟩:=I.tuple h';rw [e] at e';cases e';rw [d] at d'
 injection d' with d1 _
 have:its=its':=by simpa using congrArg Array.toList d1
 subst this;exact r.inj r'
end
section
variable{X:Cx}{pins:Z3}{σ:St}{H:Hp}{s:Shared}{E:Z5}
end
section
variable{X:Cx}{st:Stmt}{zbS:List Stmt}{t u:TS}{e:Expr}{te:TE}{pos:Pos}
def zqV:TS:=fun D σ H=>D.nx σ H
def zx8(t u:TS):TS:=fun D σ H=>t { D with nx:=u D } σ H
theorem zpg:PSs X [] zqV:=fun _ _ σ H _ I h=>wpAny_execs_nil ⟨σ,H,I,h⟩
theorem zmI(h1:PS X st t)(h2:PSs X zbS u):PSs X (st::zbS) (zx8 t u):=by
 intro pins s σ H D I h;refine wpAny_execs_cons (thn (h1 pins s σ H { D with nx:=u D } I h) fun f s1 q=>?_)
 cases f with
 | next =>
  obtain ⟨σ',H',I',q⟩:=q;exact h2 pins s1 σ' H' D I' q
 | ret v=>exact q
 | brk=>exact q
 | cont=>exact q
theorem zpf(h1:PS X st t):PSs X [st] t:=by
 intro pins s σ H D I h;refine wpAny_execs_cons (thn (h1 pins s σ H D I h) fun f s1 q=>?_)
 cases f with
 | next=>exact wpAny_execs_nil q
 | ret v=>exact q
 | brk=>exact q
 | cont=>exact q
def zqX:TS:=fun D σ H=>D.bk σ H
theorem zpj:PS X (.Pass pos) zqV:=fun _ _ σ H _ I h=>wpAny_Pass ⟨σ,H,I,h⟩
theorem zmJ:PS X (.Break pos) zqX:=fun _ _ σ H _ I h=>wpAny_Break ⟨σ,H,I,h⟩
theorem Inv.quiet{pins:Z3}{σ:St}{H:Hp}{s:Shared}(I:Inv X pins σ H s):interactive X.env=false:=by simp [interactive,I.ok.kind]
def zt8(te:TE):TS:=fun D σ H=>te σ H fun _ H1=>D.nx σ H1
theorem zh1(he:PE X e te)(hs:swapsWith e none pos.line X.env=pure false:=by rfl):PS X (.Expr e pos) (zt8 te):=by
 intro pins s σ H D I h;exact wpAny_Expr_any (thn (he pins s σ H _ I h) fun v s1 ⟨x,H1,I1,r1,q1⟩=>⟨σ,H1,I1,q1⟩) I.quiet hs
def zya(te:TE):TS:=fun D σ H=>te σ H D.rt
theorem zkN(he:PE X e te):PS X (.Return (some e) pos) (zya te):=by
 intro pins s σ H D I h;exact wpAny_Return_some (thn (he pins s σ H _ I h) fun v s1 ⟨x,H1,I1,r1,q1⟩=>⟨x,σ,H1,I1,r1,q1⟩)
def zt2:TS:=fun D _ H=>D.rt .non H
theorem zpi:PS X (.Return none pos) zt2:=fun _ _ σ H _ I h=>wpAny_Return_none ⟨.non,σ,H,I,rfl,h⟩
def zyd(c:TT)(t u:TS):TS:=fun D σ H=>c σ H fun b H1=>if b=true then t D σ H1 else u D σ H1
theorem zux{c:Expr}{a b:List Stmt}{tc:TT}(hc:PT X c tc)(ha:PSs X a t)(hb:PSs X b u):PS X (.If c a b pos) (zyd tc t u):=by
 intro pins s σ H D I h;refine wpAny_If (thn (hc pins s σ H _ I h) fun d s1 ⟨H1,I1,q1⟩=>?_)
 cases d with
 | true=>exact ha pins s1 σ H1 D I1 q1
 | false=>exact hb pins s1 σ H1 D I1 q1
end
abbrev TG:=V->St->Hp->(St->Hp->Prop)->Prop
abbrev TGs:=List V->St->Hp->(St->Hp->Prop)->Prop
def PG(X:Cx)(target:Expr)(t:TG):Prop :=
 ∀(pins:Z3) (s:Shared) (σ:St) (H:Hp) (v:V) (u:Value) (Q:St->Hp->Prop),Inv X pins σ H s->zbx v u->t v σ H Q →
  wpAny (model X.prog X.w) X.A (assign target X.env u) (fun _ s'=>∃σ' H',Inv X pins σ' H' s'/\Q σ' H') X.xe s
def PGs(X:Cx)(ts:List Expr)(t:TGs):Prop :=
 ∀(pins:Z3) (s:Shared) (σ:St) (H:Hp) (vs:List V) (us:List Value) (Q:St->Hp->Prop),Inv X pins σ H s->Vals vs us->t vs σ H Q →
  wpAny (model X.prog X.w) X.A (assignInOrder ((assignEach ts X.env).map (·.2)) us) (fun _ s'=>∃σ' H',Inv X pins σ' H' s'/\Q σ' H') X.xe s
abbrev TSet:=V->V->V->Hp->(Hp->Prop)->Prop
def zvw(X:Cx)(t:TSet):Prop :=
 ∀(pins:Z3) (s:Shared) (σ:St) (H:Hp) (o i v:V) (ov iv u:Value) (Q:Hp->Prop),Inv X pins σ H s->zbx o ov->zbx i iv->zbx v u->t o i v H Q →
  wpAny (model X.prog X.w) X.A (setItem ov iv u) (fun _ s'=>∃H',Inv X pins σ H' s'/\Q H') X.xe s
abbrev TIp:=V->V->Hp->VK->Prop
def PIp(X:Cx)(op:Operator)(t:TIp):Prop :=
 ∀(pins:Z3) (s:Shared) (σ:St) (H:Hp) (x y:V) (v u:Value) (Q:VK),Inv X pins σ H s->zbx x v->zbx y u->t x y H Q →
  wpAny (model X.prog X.w) X.A (inplaceOp op v u) (EP X pins σ Q) X.xe s
section
variable{X:Cx}{pos:Pos}
def zie(i:Nat):TG:=fun v σ H Q=>Q (σ.set i (some v)) H
theorem zkV{i:Nat}{x:Str}(hN:X.N.Nodup)(hi:X.N[i]?=some x)(hx:Loc X.env.scope x)(hf:X.fn x=true\/X.env.scope.names.lookup x=some .local:=by first | exact .inl rfl | exact .inr rfl | assumption):PG X (.Name x pos) (zie i):=by
 intro pins s σ H v u Q I r h;exact wpAny_assign_Name (zdS I hN hi hx r (fun s' I'=>⟨_,H,I',h⟩) hf)
def zy9:TGs:=fun vs σ H Q=>vs=[]/\Q σ H
def zvb(t:TG)(u:TGs):TGs:=fun vs σ H Q=>∃v r,vs=v::r/\t v σ H fun σ' H'=>u r σ' H' Q
theorem zpq:PGs X [] zy9:=by
 intro pins s σ H vs us Q I r h;obtain ⟨e,h⟩:=h;subst e;cases r;exact assignInOrder_nil ⟨σ,H,I,h⟩
theorem zmO{e:Expr}{es:List Expr}{t:TG}{u:TGs}(h1:PG X e t)(h2:PGs X es u)
  (hs:(assignEach (e::es) X.env).map (·.2)=assign e X.env::(assignEach es X.env).map (·.2):=by rfl):PGs X (e::es) (zvb t u):=by
 intro pins s σ H vs us Q I r h;obtain ⟨v,vr,e1,h⟩:=h;subst e1
 cases r with
 | cons r rr =>
  rw [hs];refine assignInOrder_cons (thn (h1 pins s σ H _ _ _ I r h) fun _ s1 ⟨σ1,H1,I1,q1⟩=>?_);exact h2 pins s1 σ1 H1 _ _ Q I1 rr q1
def zy7(K:PySem.W.Frag)(n:Nat)(t:TGs):TG:=fun v σ H Q=>∃a xs,v=.ref a/\SqT K H a xs/\xs.length=n/\t xs σ H Q
theorem zrL{es:List Expr}{k:Nat}{t:TGs}{n:Nat}(hc:X.calm=true)(h:PGs X es t)
  (hn:(assignEach es X.env).length=n:=by rfl) (hst:(assignEach es X.env).findIdx? (·.1)=none:=by rfl):PG X (.Tuple es k pos) (zy7 X.K n t):=by
 intro pins s σ H v u Q I r hw;obtain ⟨a,xs,e1,hq,hl,hw⟩:=hw;subst e1;cases r;obtain ⟨its,rv,ht,hz⟩:=I.tuple hq;refine assign_Tuple_tuple (I.ok.hd hc) ht (by simp [hn,<-hl,rv.length]) hst fun h' hx=>?_
 have I1:Inv X pins σ H { s with heap:=h' }:=I.kept (t':=s.toks) fun b o e=>hx b o (Nat.ne_of_lt (Heap.lt_size e)) e
 exact h pins _ σ H xs _ Q I1 (by simpa using rv) hw
def zy8(to ti:TE)(t:TSet):TG:=fun v σ H Q=>to σ H fun o H1=>ti σ H1 fun i H2=>t o i v H2 fun H3=>Q σ H3
theorem zn9{o i:Expr}{to ti:TE}{t:TSet}(ho:PE X o to)(hi:PE X i ti)(hs:zvw X t)
  (ha:∀v,assign (.Subscript o i pos) X.env v=(do
   let ov ← holding [v] (eval o X.env)
   let iv ← holding [v,ov] (eval i X.env)
   standAt pos
   holding [v,ov,iv] (setItem ov iv v)
   release [v,ov,iv] []):=by intro _;rfl):PG X (.Subscript o i pos) (zy8 to ti t):=by
 intro pins s σ H v u Q I r h;rw [ha];refine wpAny_bind (wpAny_holding (thn (ho pins s σ H _ I h) fun ov s1 ⟨x,H1,I1,r1,q1⟩=>?_));refine wpAny_bind (wpAny_holding (thn (hi pins s1 σ H1 _ I1 q1) fun iv s2 ⟨y,H2,I2,r2,q2⟩=>?_));refine wpAny_bind (wpAny_standAt (wpAny_bind (wpAny_holding (thn (hs pins s2 σ H2 x y v ov iv u _ I2 r1 r2 r q2) fun _ s3 ⟨H3,I3,q3⟩=>?_))));exact wpAny_release ⟨σ,H3,I3,q3⟩
def znU(te:TE)(g:TG):TS:=fun D σ H=>te σ H fun x H1=>g x σ H1 D.nx
theorem zkP{tg e:Expr}{te:TE}{g:TG}(he:PE X e te)(hg:PG X tg g)(hs:swapsWithSole [tg] e pos.line X.env=pure false:=by rfl)(hw:swappedStores [tg] e X.env=pure none:=by rfl)
  (h1:(assignEach [tg] X.env).map (·.2)=[assign tg X.env]:=by rfl):PS X (.Assign [tg] e pos) (znU te g):=by
 intro pins s σ H D I h;refine wpAny_Assign_stores (thn (he pins s σ H _ I h) fun v s1 ⟨x,H1,I1,r1,q1⟩=>?_) hs hw;rw [h1];exact thn (hg pins s1 σ H1 x v _ I1 r1 q1) fun _ s2 q=>q
theorem ziN{i:Nat}{x:Str}{e:Expr}{te:TE}{pos':Pos}(hN:X.N.Nodup)(hi:X.N[i]?=some x)(hx:Loc X.env.scope x)(he:PE X e te)(hs:swapsWith e (some (.Name x pos')) pos.line X.env=pure false:=by rfl)(hf:X.fn x=true\/X.env.scope.names.lookup x=some .local:=by first | exact .inl rfl | exact .inr rfl | assumption) :
  PS X (.Assign [.Name x pos'] e pos) (znU te (zie i)):=by
 intro pins s σ H D I h;refine wpAny_Assign_Name (thn (he pins s σ H _ I h) fun v s1 ⟨y,H1,I1,r1,q1⟩=>?_) hs;exact zdS I1 hN hi hx r1 (fun s2 I2=>⟨_,H1,I2,q1⟩) hf
def zzn(i j:Nat)(ta:TA):TS:=fun D σ H=>ta σ H fun vs H1=>∃v w,vs=[v,w]/\D.nx ((σ.set i (some v)).set j (some w)) H1
def zyf(i:Nat)(te:TE)(ti:TIp):TS:=fun D σ H=>∃x,σ[i]?=some (some x)/\te σ H fun y H1=>ti x y H1 fun z H2=>D.nx (σ.set i (some z)) H2
theorem zrI{i:Nat}{x:Str}{e:Expr}{te:TE}{op:Operator}{ti:TIp}{pos':Pos}(hN:X.N.Nodup)(hi:X.N[i]?=some x)(hx:Loc X.env.scope x)(he:PE X e te)(ho:PIp X op ti)(hf:X.fn x=true\/X.env.scope.names.lookup x=some .local:=by first | exact .inl rfl | exact .inr rfl | assumption) :
  PS X (.AugAssign (.Name x pos') op e pos) (zyf i te ti):=by
 intro pins s σ H D I h;obtain ⟨v,e1,h⟩:=h;obtain ⟨m,hn,hl⟩:=I.loc
 have vis:Vis X.env.scope x:=by rcases hx with k | k;exact .inl k;exact .inr (.inl k)
 obtain ⟨u,r,l⟩:=hl i x v hi e1 vis;refine wpAny_AugAssign_Name ?_
 have go:wpAny (model X.prog X.w) X.A (eval e X.env) (fun w s₂=>wpAny (model X.prog X.w) X.A (inplaceOp op u w) (fun r s₃=>wpAny (model X.prog X.w) X.A (storeName X.env x r) (fun _=>SP X pins D .next) X.xe s₃) X.xe s₂) X.xe s:=by
  refine thn (he pins s σ H _ I h) fun w s1 ⟨y,H1,I1,r1,q1⟩=>?_
  refine thn (ho pins s1 σ H1 v y u w _ I1 r r1 q1) fun z s2 ⟨zv,H2,I2,r2,q2⟩=>?_
  exact zdS I2 hN hi hx r2 (fun s3 I3=>⟨_,H2,I3,q2⟩) hf
 rcases l with ⟨hk,hm⟩ | ⟨hk,c,hc,hcell⟩
 ·exact wpAny_loadName_local I.ok.kind hk hn hm go
 ·rcases hk with hk | hk
  ·exact wpAny_loadName_cell I.ok.kind hk hc hcell go
  ·rcases hx with k | k
   ·have:X.env.scope.names.lookup x=some .free:=hk;rw [k] at this;cases this
   ·have:X.env.scope.names.lookup x=some .free:=hk;rw [k] at this;cases this
end
section
variable{X:Cx}{pos:Pos}
end
structure It where
 go:Nat->Hp->Prop
 yld:Nat->Hp->V->Hp->Prop
 stop:Nat->Hp->Prop
def zmi(X:Cx)(pins:Z3)(H:Hp)(b:Addr):Prop :=
 H b=none/\b≠X.env.locals/\b ∉ X.fs/\(b∈X.ex\/X.s₀.heap.objs.size<=b)/\(∀x c,X.env.cells.lookup x=some c->c≠b)/\∀p∈X.pn++pins,p.1≠b
theorem Inv.fpOk{X:Cx}{pins:Z3}{σ:St}{H H':Hp}{s:Shared}{b:Addr}(I:Inv X pins σ H s)(hb:s.heap.objs.size<=b)(hn:H' b=none):zmi X pins H' b:=by
 refine ⟨hn,Nat.ne_of_gt (Nat.lt_of_lt_of_le I.lt hb),I.nofs hb,.inr (Nat.le_trans I.sz hb),fun x c e z=>?_,fun p hp z=>?_⟩
 ·obtain ⟨v,q⟩:=I.cell x c e;exact absurd (Nat.lt_of_lt_of_le q.lt (by rw [z];exact hb)) (Nat.lt_irrefl _)
 ·exact absurd (Nat.lt_of_lt_of_le (Heap.lt_size (I.pin p hp).1) (by rw [z];exact hb)) (Nat.lt_irrefl _)
structure Turn(P:Program)(w:World)(K:PySem.W.Frag)(tg:Expr)(J:It)(fp:List Addr)(it:Addr)(tn:Nat->Heap->Prop):Prop where
 mem:it∈fp
 obj:∀i h,tn i h->∀b∈fp,∃o,h.get? b=some o/\∀v,o.data≠.cell v
 keep:∀i h h',tn i h->(∀b∈fp,∀o,h.get? b=some o->h'.get? b=some o)->tn i h'
 item:∀(X:Cx),X.prog=P->X.w=w->X.K=K->X.calm=true->∀(i:Nat) (pins:Z3) (s:Shared) (σ:St) (H:Hp) (E:Z5),Inv X pins σ H s->(∀b∈fp,zmi X pins H b)->tn i s.heap->J.go i H →
  wpAny (model P w) X.A (pyNext (.ref it)) (fun r s1=>∃u,r=some u ∧
   wpAny (model P w) X.A (letOwnedTupleGo tg (.ref it) u) (fun _ s2=>∃x H',Inv X pins σ H' s2/\zbx x u/\J.yld i H x H'/\tn (i+1) s2.heap/\∀b∈fp,H' b=none) E s1) E s
 done:∀(X:Cx),X.prog=P->X.w=w->X.K=K->X.calm=true->∀(i:Nat) (pins:Z3) (s:Shared) (σ:St) (H:Hp) (E:Z5),Inv X pins σ H s->(∀b∈fp,zmi X pins H b)->tn i s.heap->J.stop i H →
  wpAny (model P w) X.A (pyNext (.ref it)) (fun r s1=>r=none/\Inv X pins σ H s1) E s
 self:∀(A:Around) (i:Nat) (s:Shared) (Q:Z5) (E:Z5),tn i s.heap->Q (.ref it) s->wpAny (model P w) A (pyIter (.ref it)) Q E s
abbrev TI:=St->Hp->(It->Hp->Prop)->Prop
def PIE(X:Cx)(pins:Z3)(σ:St)(tg:Expr)(R:It->Hp->Prop)(itv:Value)(s2:Shared):Prop :=
 ∃(it:Addr) (fp:List Addr) (tn:Nat->Heap->Prop) (J:It) (H':Hp),itv=.ref it/\Inv X pins σ H' s2/\Turn X.prog X.w X.K tg J fp it tn/\tn 0 s2.heap/\(∀b∈fp,zmi X pins H' b)/\R J H'
def PI(X:Cx)(tg iter:Expr)(wi:TI):Prop :=
 ∀(pins:Z3) (s:Shared) (σ:St) (H:Hp) (R:It->Hp->Prop),Inv X pins σ H s->wi σ H R →
  wpAny (model X.prog X.w) X.A (eval iter X.env) (fun v s1=>wpAny (model X.prog X.w) X.A (pyIter v) (PIE X pins σ tg R) X.xe s1) X.xe s
theorem zno {M : Model} {A : Around} {E : Z5} {s : Shared} {tg : Expr} {it : Addr} {u : Value} {o : Obj} {n : String} {vs : Array Value} {Q : Unit -> Shared -> Prop} (ho : s.heap.get? it = some o) (hc : o.cls = .type n) (hd : o.data = .fields vs)
    (hn : ["enumerate", "zip", "dict_itemiterator", "dict_reverseitemiterator", "odict_iterator", "itertools.zip_longest", "itertools.pairwise"].contains n = false) (hQ : Q () s) : wpAny M A (letOwnedTupleGo tg (.ref it) u) Q E s := by
  unfold letOwnedTupleGo
  cases tg <;> first
    | exact wpAny_pure hQ
    | (cases u <;> first
        | exact wpAny_pure hQ
        | (refine wpAny_bind (wpAny_load ho ?_)
           rw [hc, hd];show wpAny M A (if (["enumerate", "zip", "dict_itemiterator", "dict_reverseitemiterator", "odict_iterator", "itertools.zip_longest", "itertools.pairwise"].contains n && vs[0]? == some (rawInt _)) = true then _ else _) Q E s;rw [if_neg (by intro h; rw [hn, Bool.false_and] at h; cases h)]
           exact wpAny_pure hQ))
def Itl(K:PySem.W.Frag)(a:Addr):It :=
 ⟨fun i H=>∃xs x,SqL K H a xs/\xs[i]?=some x,fun i H x H'=>H'=H/\∀xs,SqL K H a xs->xs[i]?=some x,fun i H=>∃xs,SqL K H a xs/\xs.length<=i⟩
def Itt(K:PySem.W.Frag)(a:Addr):It :=
 ⟨fun i H=>∃xs x,SqT K H a xs/\xs[i]?=some x,fun i H x H'=>H'=H/\∀xs,SqT K H a xs->xs[i]?=some x,fun i H=>∃xs,SqT K H a xs/\xs.length<=i⟩
def Itr(lo:Int)(n:Nat):It:=⟨fun i _=>i<n,fun i H x H'=>H'=H/\x=.int (lo+i),fun i _=>n<=i⟩
theorem zkh{P:Program}{w:World}{K:PySem.W.Frag}{tg:Expr}(a it:Addr):Turn P w K tg (Itl K a) [it] it (fun i h=>h.IsListIter it a i) where
 mem:=by simp
 obj:=fun i h st b hb=>by
  have e:b=it:=by simpa using hb
  subst e;obtain ⟨o,e,c,d⟩:=st;exact ⟨o,e,fun v z=>by rw [d] at z;cases z⟩
 keep:=fun i h h' st k=>st.at fun o e=>k it (by simp) o e
 item:=by
  intro X hP hw hK hc i pins s σ H E I hf st hg;subst hP hw hK;obtain ⟨xs,x,hq,hx⟩:=hg;obtain ⟨its,rv,p,hz⟩:=I.list hq;obtain ⟨u,hu,ru⟩:=rv.get hx;obtain ⟨f0,f1,f2,f3,f4,f5⟩:=hf it (by simp);refine wpAny_pyNext_list_item st p.isList (x:=u) (by simpa using hu) fun h' st' sb=>?_
  have I1:Inv X pins σ H { s with heap:=h' }:=I.turned (t':=s.toks) (fun b o hb e=>(sb.2 b hb).trans e) f0 f1 f3 f4 f5;obtain ⟨o,e,c,d⟩:=id st';exact ⟨u,rfl,zno (s:={ s with heap:=h' }) e c d (by decide) ⟨x,H,I1,ru,⟨rfl,fun ys hy=>by rw [I.list_inj hy hq];exact hx⟩,st',fun b hb=>(hf b hb).1⟩⟩
 done:=by
  intro X hP hw hK hc i pins s σ H E I hf st hg;subst hP hw hK;obtain ⟨xs,hq,hx⟩:=hg;obtain ⟨its,rv,p,hz⟩:=I.list hq;obtain ⟨f0,f1,f2,f3,f4,f5⟩:=hf it (by simp);have hl:=rv.length;exact wpAny_pyNext_list_end (I.ok.hd hc) st p.isList (by simp;omega) fun h' eb=>⟨rfl,I.turned (t':=s.toks) (fun b o hb e=>eb b o hb e) f0 f1 f3 f4 f5⟩
 self:=fun _ _ _ _ _ st h=>wpAny_pyIter_listiter st h
theorem zjw{P:Program}{w:World}{K:PySem.W.Frag}{tg:Expr}(a it:Addr):Turn P w K tg (Itt K a) [it] it (fun i h=>h.IsTupleIter it a i) where
 mem:=by simp
 obj:=fun i h st b hb=>by
  have e:b=it:=by simpa using hb
  subst e;obtain ⟨o,e,c,d⟩:=st;exact ⟨o,e,fun v z=>by rw [d] at z;cases z⟩
 keep:=fun i h h' st k=>st.at fun o e=>k it (by simp) o e
 item:=by
  intro X hP hw hK hc i pins s σ H E I hf st hg;subst hP hw hK;obtain ⟨xs,x,hq,hx⟩:=hg;obtain ⟨its,rv,p,hz⟩:=I.tuple hq;obtain ⟨u,hu,ru⟩:=rv.get hx;obtain ⟨f0,f1,f2,f3,f4,f5⟩:=hf it (by simp);refine wpAny_pyNext_tuple_item st (show s.heap.IsTuple a its.toArray from p) (x:=u) (by simpa using hu) fun h' st' sb=>?_
  have I1:Inv X pins σ H { s with heap:=h' }:=I.turned (t':=s.toks) (fun b o hb e=>(sb.2 b hb).trans e) f0 f1 f3 f4 f5;obtain ⟨o,e,c,d⟩:=id st';exact ⟨u,rfl,zno (s:={ s with heap:=h' }) e c d (by decide) ⟨x,H,I1,ru,⟨rfl,fun ys hy=>by rw [I.tuple_inj hy hq];exact hx⟩,st',fun b hb=>(hf b hb).1⟩⟩
 done:=by
  intro X hP hw hK hc i pins s σ H E I hf st hg;subst hP hw hK;obtain ⟨xs,hq,hx⟩:=hg;obtain ⟨its,rv,p,hz⟩:=I.tuple hq;obtain ⟨f0,f1,f2,f3,f4,f5⟩:=hf it (by simp);have hl:=rv.length;exact wpAny_pyNext_tuple_end (I.ok.hd hc) st (show s.heap.IsTuple a its.toArray from p) (by simp;omega) fun h' eb=>⟨rfl,I.turned (t':=s.toks) (fun b o hb e=>eb b o hb e) f0 f1 f3 f4 f5⟩
 self:=fun _ _ _ _ _ st h=>wpAny_pyIter_tupleiter st h
theorem zjx{P:Program}{w:World}{K:PySem.W.Frag}{tg:Expr}(it:Addr)(lo:Int)(n:Nat):Turn P w K tg (Itr lo n) [it] it (fun i h=>IsRangeIter h it (lo+(i:Nat)*1) ((n:Int)-(i:Nat)) 1) where
 mem:=by simp
 obj:=fun i h st b hb=>by
  have e:b=it:=by simpa using hb
  subst e
  exact ⟨_,st,fun v z=>by
   have z':Data.fields _=Data.cell v:=z
   cases z'⟩
 keep:=fun i h h' st k=>k it (by simp) _ st
 item:=by
  intro X hP hw hK hc i pins s σ H E I hf st hg;subst hP hw hK;obtain ⟨f0,f1,f2,f3,f4,f5⟩:=hf it (by simp);have W:=Walks.range (prog:=X.prog) (w:=X.w) (I.ok.hd hc) it lo 1 n;refine W.item i s _ _ hg st fun v h' tk hv st' kk=>?_
  obtain ⟨t,rfl⟩:=hv;have I1:Inv X pins σ H { s with heap:=h',toks:=tk }:=I.turned (fun b o hb e=>kk b o (by simpa using hb) e) f0 f1 f3 f4 f5;refine ⟨_,rfl,zno (s:={ s with heap:=h',toks:=tk }) (n:="range_iterator") st' rfl rfl (by decide) ⟨.int (lo+i),H,I1,⟨t,?_⟩,⟨rfl,rfl⟩,st',fun b hb=>(hf b hb).1⟩⟩;rw [Int.mul_one]
 done:=by
  intro X hP hw hK hc i pins s σ H E I hf st hg;subst hP hw hK;obtain ⟨f0,f1,f2,f3,f4,f5⟩:=hf it (by simp);exact wpAny_pyNext_range_end (I.ok.hd hc) st (by have:n<=i:=hg;omega) fun h' eb=>⟨rfl,I.turned (t':=s.toks) (fun b o hb e=>eb b o hb e) f0 f1 f3 f4 f5⟩
 self:=fun _ _ _ _ _ st h=>wpAny_pyIter_rangeiter st h
end L2
namespace L2
open PySem PySem.Spec PyProof.Rows
section
variable{X:Cx}{tg:Expr}
def zu9(K:PySem.W.Frag)(tl:TE):TI:=fun σ H R=>tl σ H fun x H1=>∃a,x=.ref a/\(∃xs,SqL K H1 a xs)/\R (Itl K a) H1
def zy5(K:PySem.W.Frag)(tl:TE):TI:=fun σ H R=>tl σ H fun x H1=>∃a,x=.ref a/\(∃xs,SqT K H1 a xs)/\R (Itt K a) H1
theorem zpp{l:Expr}{tl:TE}(hl:PE X l tl):PI X tg l (zu9 X.K tl):=by
 intro pins s σ H R I h;refine thn (hl pins s σ H _ I h) fun v s1 ⟨x,H1,I1,r1,q1⟩=>?_
 obtain ⟨a,e,⟨xs,hq⟩,q⟩:=q1;subst e;cases r1;obtain ⟨its,rv,p,hz⟩:=I1.list hq;refine wpAny_pyIter_list p.isList ?_;refine ⟨s1.heap.objs.size,[s1.heap.objs.size],_,_,H1,rfl,I1.kept (t':=s1.toks) fun b o e=>Heap.get?_push_of_some _ e,zkh a _,⟨_,Heap.get?_push_size _ rfl,rfl,rfl⟩,fun b hb=>?_,q⟩
 have e:b=s1.heap.objs.size:=by simpa using hb
 subst e;exact I1.fpOk (Nat.le_refl _) (I1.hok.fresh (Nat.le_refl _))
theorem zrK{l:Expr}{tl:TE}(hl:PE X l tl):PI X tg l (zy5 X.K tl):=by
 intro pins s σ H R I h;refine thn (hl pins s σ H _ I h) fun v s1 ⟨x,H1,I1,r1,q1⟩=>?_
 obtain ⟨a,e,⟨xs,hq⟩,q⟩:=q1;subst e;cases r1;obtain ⟨its,rv,p,hz⟩:=I1.tuple hq;refine wpAny_pyIter_tuple (show s1.heap.IsTuple a its.toArray from p) ?_;refine ⟨s1.heap.objs.size,[s1.heap.objs.size],_,_,H1,rfl,I1.kept (t':=s1.toks) fun b o e=>Heap.get?_push_of_some _ e,zjw a _,⟨_,Heap.get?_push_size _ rfl,rfl,rfl⟩,fun b hb=>?_,q⟩
 have e:b=s1.heap.objs.size:=by simpa using hb
 subst e;exact I1.fpOk (Nat.le_refl _) (I1.hok.fresh (Nat.le_refl _))
theorem ziM{pins:Z3}{σ:St}{H:Hp}{s:Shared}{R:It->Hp->Prop}{E:Z5}{lo hi:Int}{t u v:Tok}{tk:Nat}(I:Inv X pins σ H s)(h1:-(2 ^ 62)<=lo)(h2:lo<2 ^ 62)(h3:-(2 ^ 62)<=hi)(h4:hi<2 ^ 62)
  (q:R (Itr lo (hi-lo).toNat) H):wpAny (model X.prog X.w) X.A (pyIter (.ref s.heap.objs.size)) (PIE X pins σ tg R) E { s with heap:=s.heap.push { cls:=.type "range",data:=.fields #[.int lo t,.int hi u,.int 1 v] },toks:=tk }:=by
 refine wpAny_pyIter_range (IsRange.new ..) (small_one h1 h2 h3 h4) ?_;have I1:Inv X pins σ H { s with heap:=s.heap.push { cls:=.type "range",data:=.fields #[.int lo t,.int hi u,.int 1 v] },toks:=tk }:=I.kept fun b o e=>Heap.get?_push_of_some _ e
 refine ⟨(s.heap.push { cls:=.type "range",data:=.fields #[.int lo t,.int hi u,.int 1 v] }).objs.size,[(s.heap.push { cls:=.type "range",data:=.fields #[.int lo t,.int hi u,.int 1 v] }).objs.size],_,_,H,rfl,
  I1.kept (t':=tk) fun b o e=>Heap.get?_push_of_some _ e,zjx _ lo (hi-lo).toNat,?_,fun b hb=>?_,q⟩
 ·have e1:lo+((0:Nat):Int)*1=lo:=by simp
  have e2:(((hi-lo).toNat:Nat):Int)-((0:Nat):Int)=Builtin.Range.rangeSize lo hi 1:=by rw [rangeSize_one];split<;>omega
  show IsRangeIter _ _ (lo+((0:Nat):Int)*1) ((((hi-lo).toNat:Nat):Int)-((0:Nat):Int)) 1;rw [e1,e2];exact Heap.get?_push_size _ rfl
 ·have e:b=(s.heap.push { cls:=.type "range",data:=.fields #[.int lo t,.int hi u,.int 1 v] }).objs.size:=by simpa using hb
  subst e;exact I1.fpOk (Nat.le_refl _) (I1.hok.fresh (Nat.le_refl _))
def zu8(ta:TA):TI:=fun σ H R=>ta σ H fun vs H1=>∃j:Int,vs=[.int j]/\-(2 ^ 62)<=j/\j<2 ^ 62/\R (Itr 0 j.toNat) H1
def zu7(ta:TA):TI:=fun σ H R=>ta σ H fun vs H1=>∃i j:Int,vs=[.int i,.int j]/\(-(2 ^ 62)<=i/\i<2 ^ 62/\-(2 ^ 62)<=j/\j<2 ^ 62)/\R (Itr i (j-i).toNat) H1
theorem zkU{a:Expr}{ta:TA}{p pos:Pos}(hg:Gl X "range")(hm:X.mg "range" = none)(ha:PA X [a] ta)(hs:starEach [a] X.env=[(false,eval a X.env)]:=by rfl):PI X tg (.Call (.Name "range" p) [a] [] pos) (zu8 ta):=by
 intro pins s σ H R I h;refine Call_ (zd3 I hg hm boot_range (PyProof.Rows.callWith_type1 (thn (ha pos pins s σ H _ I h) fun us s1 ⟨vs,H1,I1,r1,q1⟩=>?_) hs rfl));obtain ⟨j,e,q1,q2,q⟩:=q1;subst e
 cases r1 with
 | cons r rr =>
  cases rr;obtain ⟨t,rfl⟩:=r;exact call_range_1 (ziM I1 (by omega) (by omega) q1 q2 (by simpa using q))
theorem zkT{a b:Expr}{ta:TA}{p pos:Pos}(hg:Gl X "range")(hm:X.mg "range" = none)(ha:PA X [a,b] ta)(hs:starEach [a,b] X.env=[(false,eval a X.env),(false,eval b X.env)]:=by rfl)(hs2:starEach [b] X.env=[(false,eval b X.env)]:=by rfl) :
  PI X tg (.Call (.Name "range" p) [a,b] [] pos) (zu7 ta):=by
 intro pins s σ H R I h;refine Call_ (zd3 I hg hm boot_range (PyProof.Rows.callWith_type1 (thn (ha pos pins s σ H _ I h) fun us s1 ⟨vs,H1,I1,r1,q1⟩=>?_) (by rw [hs,hs2]) (by rw [hs2];rfl)));obtain ⟨i,j,e,⟨q1,q2,q3,q4⟩,q⟩:=q1;subst e
 cases r1 with
 | cons r rr =>
  cases rr with
  | cons r' rr =>
   cases rr;obtain ⟨t,rfl⟩:=r;obtain ⟨t',rfl⟩:=r';exact call_range_2 (ziM I1 q1 q2 q3 q4 q)
def zye(wi:TI)(g:TG)(tb:TS):TS:=fun D σ H=>wi σ H fun J H1=>∃W:Nat->Nat->St->Hp->Prop,(∃m,W 0 m σ H1)/\∀i m σ H,W i m σ H →
 (J.stop i H/\D.nx σ H)\/(J.go i H/\∃N:St->Hp->Prop,(∀σ' H',N σ' H'->∃m',m'<m/\W (i+1) m' σ' H')/\∀x H',J.yld i H x H'->g x σ H' fun σ2 H2=>tb { D with nx:=N,ct:=N,bk:=D.nx } σ2 H2)
def zhf(fp:List Addr)(h:Heap):List (Addr×Obj):=fp.filterMap fun b=>(h.get? b).map fun o=>(b,o)
theorem zdr{fp:List Addr}{h:Heap}{b:Addr}{o:Obj}(hb:b∈fp)(e:h.get? b=some o):(b,o)∈zhf fp h:=List.mem_filterMap.mpr ⟨b,hb,by rw [e];rfl⟩
theorem zk9{fp:List Addr}{h:Heap}{p:Addr×Obj}(hp:p∈zhf fp h):p.1∈fp/\h.get? p.1=some p.2:=by
 obtain ⟨b,hb,e⟩:=List.mem_filterMap.mp hp
 cases q:h.get? b with
 | none=>rw [q] at e;cases e
 | some o =>
  rw [q] at e;have e':(b,o)=p:=Option.some.inj e;subst e';exact ⟨hb,q⟩
theorem Inv.pinned{pins:Z3}{σ:St}{H:Hp}{s:Shared}{fp:List Addr}(I:Inv X pins σ H s)(hf:∀b∈fp,zmi X pins H b)(ho:∀b∈fp,∃o,s.heap.get? b=some o/\∀v,o.data≠.cell v):Inv X (pins++zhf fp s.heap) σ H s :=
 I.pins_of fun p hp=>(List.mem_append.mp hp).elim (fun z=>I.pin p (List.mem_append_right _ z)) fun z=>by
  obtain ⟨hb,e⟩:=zk9 z;obtain ⟨f0,f1,f2,_⟩:=hf p.1 hb;obtain ⟨o,e',d⟩:=ho p.1 hb;rw [e] at e';cases e';exact ⟨e,f0,f1,f2,d⟩
theorem Inv.unpinned{pins pl:Z3}{σ:St}{H:Hp}{s:Shared}(I:Inv X (pins++pl) σ H s):Inv X pins σ H s:=I.pins_of fun p hp=>I.pin p (List.mem_append_right _ (List.mem_append_left _ hp))
theorem zrH{iter:Expr}{body:List Stmt}{wi:TI}{g:TG}{tb:TS}{pos:Pos}(hp:PassesOwn (model X.prog X.w) X.A X.env X.xe)(hc:X.calm=true)(hi:PI X tg iter wi)(hg:PG X tg g)(hb:PSs X body tb)
  (hs:∀x,foldedSetIterable iter X.env x=pure x:=by intro _;rfl):PS X (.For tg iter body [] pos) (zye wi g tb):=by
 intro pins s σ H D I h;refine wpAny_For (thn (hi pins s σ H _ I h) fun v s1 h1=>thn h1 fun itv s2 h2=>?_) hs;obtain ⟨it,fp,tn,J,H2,e,I2,T,st2,f2,W,⟨m0,w0⟩,turn⟩:=h2;subst e;have stat:∀{H':Hp},(∀b∈fp,H' b=none)->∀b∈fp,zmi X pins H' b:=fun hn b hb=>⟨hn b hb,(f2 b hb).2⟩
 refine codeAny_forLoop_any (fun n s'=>∃i σ' H',Inv X pins σ' H' s'/\tn i s'.heap/\(∀b∈fp,H' b=none)/\W i n σ' H') ?_ m0 ⟨0,σ,H2,I2,st2,fun b hb=>(f2 b hb).1,w0⟩;rintro n s3 ⟨i,σ3,H3,I3,st3,fr3,w3⟩
 rcases turn i n σ3 H3 w3 with ⟨stop,qn⟩ | ⟨go,N,hN,step⟩
 ·refine wpAny_passesOwn hp (thn (T.done X rfl rfl rfl hc i pins s3 σ3 H3 X.xe I3 (stat fr3) st3 stop) fun r s4 ⟨hr,I4⟩=>?_);subst hr;exact wpAny_execs_nil ⟨σ3,H3,I4,qn⟩
 ·refine wpAny_passesOwn hp (thn (T.item X rfl rfl rfl hc i pins s3 σ3 H3 X.xe I3 (stat fr3) st3 go) fun r s4 ⟨u,hr,h4⟩=>?_);subst hr;refine wpAny_passesOwn hp (thn h4 fun _ s5 ⟨x,H5,I5,r5,y5,st5,fr5⟩=>?_);have I5':=I5.pinned (stat fr5) (T.obj _ _ st5);refine wpAny_passesOwn hp (thn (hg _ s5 σ3 H5 x u _ I5' r5 (step x H5 y5)) fun _ s6 ⟨σ6,H6,I6,q6⟩=>?_);refine wpAny_passesOwn hp (thn (hb _ s6 σ6 H6 _ I6 q6) fun f s7 q7=>?_)
  have again:∀{σ7:St} {H7:Hp},Inv X (pins++zhf fp s5.heap) σ7 H7 s7->N σ7 H7->∃m,m<n/\∃i σ' H',Inv X pins σ' H' s7/\tn i s7.heap/\(∀b∈fp,H' b=none)/\W i m σ' H':=fun {σ7 H7} I7 n7=>by
   obtain ⟨m',hm,w7⟩:=hN σ7 H7 n7;refine ⟨m',hm,i+1,σ7,H7,I7.unpinned,T.keep _ _ _ st5 fun b hb o e=>(I7.pin (b,o) (List.mem_append_right _ (List.mem_append_right _ (zdr hb e)))).1,fun b hb=>?_,w7⟩;obtain ⟨o,e,d⟩:=T.obj _ _ st5 b hb;exact (I7.pin (b,o) (List.mem_append_right _ (List.mem_append_right _ (zdr hb e)))).2.1
  cases f with
  | next=>obtain ⟨σ7,H7,I7,n7⟩:=q7;exact again I7 n7
  | cont=>obtain ⟨σ7,H7,I7,n7⟩:=q7;exact again I7 n7
  | brk=>obtain ⟨σ7,H7,I7,q7⟩:=q7;exact ⟨σ7,H7,I7.unpinned,q7⟩
  | ret v=>obtain ⟨x7,σ7,H7,I7,r7,q7⟩:=q7;exact ⟨x7,σ7,H7,I7.unpinned,r7,q7⟩
end
end L2
namespace L2
open PySem PySem.Spec PyProof.Rows
abbrev R2:=V->V->Hp->VK->Prop
def OpR(X:Cx)(f:Value->Value->Sem Value)(r:R2):Prop :=
 ∀(pins:Z3) (s:Shared) (σ:St) (H:Hp) (x y:V) (v u:Value) (Q:VK),Inv X pins σ H s->zbx x v->zbx y u->r x y H Q →
  wpAny (model X.prog X.w) X.A (f v u) (EP X pins σ Q) X.xe s
def UnR(X:Cx)(f:Value->Sem Value)(r:V->Hp->VK->Prop):Prop :=
 ∀(pins:Z3) (s:Shared) (σ:St) (H:Hp) (x:V) (v:Value) (Q:VK),Inv X pins σ H s->zbx x v->r x H Q →
  wpAny (model X.prog X.w) X.A (f v) (EP X pins σ Q) X.xe s
def zez(X:Cx)(f:Value)(r:List V->Hp->VK->Prop):Prop :=
 ∀(pins:Z3) (s:Shared) (σ:St) (H:Hp) (xs:List V) (us:List Value) (Q:VK),Inv X pins σ H s->Vals xs us->r xs H Q →
  wpAny (model X.prog X.w) X.A (call f us) (EP X pins σ Q) X.xe s
def tOp(r:R2)(ta tb:TE):TE:=fun σ H Q=>ta σ H fun x H1=>tb σ H1 fun y H2=>r x y H2 Q
def tUn(r:V->Hp->VK->Prop)(ta:TE):TE:=fun σ H Q=>ta σ H fun x H1=>r x H1 Q
def rI(C:Int->Int->Prop)(g:Int->Int->V):R2:=fun x y H Q=>∃i j,x=.int i/\y=.int j/\C i j/\Q (g i j) H
def rI0(g:Int->Int->V):R2:=fun x y H Q=>∃i j,x=.int i/\y=.int j/\Q (g i j) H
def rU(g:Int->V):V->Hp->VK->Prop:=fun x H Q=>∃i,x=.int i/\Q (g i) H
section
variable{X:Cx}{a b c:Expr}{ta tb tc:TE}{pos:Pos}
theorem zvj(ha:PE X a ta)(hb:PE X b tb){pins:Z3}{s:Shared}{σ:St}{H:Hp}{R:V->V->Hp->Prop}(I:Inv X pins σ H s)
  (h:ta σ H fun x H1=>tb σ H1 fun y H2=>R x y H2) {Q:Z5} {f:Value->Value->Sem Value}
  (hf:∀v u s2 x y H2,Inv X pins σ H2 s2->zbx x v->zbx y u->R x y H2->wpAny (model X.prog X.w) X.A (f v u) Q X.xe s2) :
  wpAny (model X.prog X.w) X.A (eval a X.env) (fun v s₁=>wpAny (model X.prog X.w) X.A (eval b X.env) (fun u s₂=>wpAny (model X.prog X.w) X.A (f v u) Q X.xe s₂) X.xe s₁) X.xe s:=by
 refine thn (ha pins s σ H _ I h) fun v s1 ⟨x,H1,I1,r1,q1⟩=>?_
 refine thn (hb pins s1 σ H1 _ I1 q1) fun u s2 ⟨y,H2,I2,r2,q2⟩=>?_
 exact hf v u s2 x y H2 I2 r1 r2 q2
theorem zrP{op:Operator}{r:R2}(ho:OpR X (binaryOp op) r)(ha:PE X a ta)(hb:PE X b tb):PE X (.BinOp a op b pos) (tOp r ta tb):=by
 intro pins s σ H Q I h;exact wpAny_BinOp (zvj ha hb I h fun v u s2 x y H2 I2 rx ry q=>ho pins s2 σ H2 x y v u Q I2 rx ry q)
theorem zuy{op:UnaryOp}{r:V->Hp->VK->Prop}(ho:UnR X (unaryOp op) r)(ha:PE X a ta):PE X (.UnaryOp op a pos) (tUn r ta):=by
 intro pins s σ H Q I h;exact UnaryOp_ (thn (ha pins s σ H _ I h) fun v s1 ⟨x,H1,I1,r1,q1⟩=>ho pins s1 σ H1 x v Q I1 r1 q1)
theorem opI{f:Value->Value->Sem Value}{C:Int->Int->Prop}{g:Int->Int->Int}
  (rule:∀(i j:Int) (t u:Tok) (s:Shared) (Q:Z5) (E:Z5),C i j->Q (.int (g i j) s.toks) { s with toks:=s.toks+1 }->wpAny (model X.prog X.w) X.A (f (.int i t) (.int j u)) Q E s) :
  OpR X f (rI C fun i j=>.int (g i j)):=by
 intro pins s σ H x y v u Q I rx ry h;obtain ⟨i,j,rfl,rfl,hc,q⟩:=h;obtain ⟨t,rfl⟩:=rx;obtain ⟨t',rfl⟩:=ry;exact rule i j t t' s _ _ hc ⟨.int (g i j),H,I.tok _,⟨_,rfl⟩,q⟩
theorem zws{f:Value->Value->Sem Value}{g:Int->Int->Int}
  (rule:∀(i j:Int) (t u:Tok) (s:Shared) (Q:Z5) (E:Z5),Q (.int (g i j) s.toks) { s with toks:=s.toks+1 }->wpAny (model X.prog X.w) X.A (f (.int i t) (.int j u)) Q E s) :
  OpR X f (rI0 fun i j=>.int (g i j)):=by
 intro pins s σ H x y v u Q I rx ry h;obtain ⟨i,j,rfl,rfl,q⟩:=h;obtain ⟨t,rfl⟩:=rx;obtain ⟨t',rfl⟩:=ry;exact rule i j t t' s _ _ ⟨.int (g i j),H,I.tok _,⟨_,rfl⟩,q⟩
theorem ztl{f:Value->Value->Sem Value}{g:Int->Int->Bool}
  (rule:∀(i j:Int) (t u:Tok) (s:Shared) (Q:Z5) (E:Z5),Q (.bool (g i j)) s->wpAny (model X.prog X.w) X.A (f (.int i t) (.int j u)) Q E s) :
  OpR X f (rI0 fun i j=>.bl (g i j)):=by
 intro pins s σ H x y v u Q I rx ry h;obtain ⟨i,j,rfl,rfl,q⟩:=h;obtain ⟨t,rfl⟩:=rx;obtain ⟨t',rfl⟩:=ry;exact rule i j t t' s _ _ ⟨.bl (g i j),H,I,rfl,q⟩
def zzi(i j:Int):Prop:=0<j/\j<1073741824
def zvx(i j:Int):Prop:=(-(2 ^ 64)<i/\i<2 ^ 64)\/(-(2 ^ 64)<j/\j<2 ^ 64)
theorem zvx.ok{i j:Int}(h:zvx i j):IntMulOk i j:=by
 rcases h with ⟨h1,h2⟩ | ⟨h1,h2⟩
 ·exact .of_left (intBits_le_64 h1 h2)
 ·exact .of_right (intBits_le_64 h1 h2)
theorem zr1:OpR X (binaryOp .Add) (rI0 fun i j=>.int (i+j)):=zws fun _ _ _ _ _ _ _ q=>add_int q
theorem zrW:OpR X (binaryOp .Sub) (rI0 fun i j=>.int (i-j)):=zws fun _ _ _ _ _ _ _ q=>sub_int q
theorem zrX:OpR X (binaryOp .Mult) (rI zvx fun i j=>.int (i*j)):=opI fun _ _ _ _ _ _ _ hc q=>mul_int q hc.ok
theorem zpv:OpR X (binaryOp .FloorDiv) (rI zzi fun i j=>.int (i / j)):=opI fun i j _ _ _ _ _ hc q=>by
 have h1:(0:Int)<j:=hc.1;have h2:j<1073741824:=hc.2;exact floordiv_int (by omega) (by rw [Int.fdiv_eq_ediv_of_nonneg i (by omega)];exact q) (.inl (PyProof.noPylong_small (by omega)))
theorem zrY:OpR X (binaryOp .Mod) (rI (fun _ j=>0<j) fun i j=>.int (i % j)):=opI fun i j _ _ _ _ _ hc q=>by
 have h1:(0:Int)<j:=hc;exact mod_int' (by omega) (by rw [Int.fmod_eq_emod_of_nonneg i (by omega)];exact q)
theorem unI{f:Value->Sem Value}{g:Int->Int}
  (rule:∀(i:Int) (t:Tok) (s:Shared) (Q:Z5) (E:Z5),Q (.int (g i) s.toks) { s with toks:=s.toks+1 }->wpAny (model X.prog X.w) X.A (f (.int i t)) Q E s) :
  UnR X f (rU fun i=>.int (g i)):=by
 intro pins s σ H x v Q I rx h;obtain ⟨i,rfl,q⟩:=h;obtain ⟨t,rfl⟩:=rx;exact rule i t s _ _ ⟨.int (g i),H,I.tok _,⟨_,rfl⟩,q⟩
theorem zqK:UnR X (unaryOp .USub) (rU fun i=>.int (-i)):=unI fun _ _ _ _ _ q=>neg_int q
end
section
variable{X:Cx}{a b c:Expr}{ta tb tc:TE}{pos:Pos}
theorem zoo{pins:Z3}{σ:St}{H:Hp}{s:Shared}{Q:VK}{k k':Bool}(I:Inv X pins σ H s)(q:Q (.bl k) H)(e:k=k'):EP X pins σ Q (.bool k') s:=by
 subst e;exact ⟨.bl k,H,I,rfl,q⟩
theorem zuB:OpR X (compareOp .Lt) (rI0 fun i j=>.bl (decide (i<j))):=ztl fun _ _ _ _ _ _ _ q=>lt_int q
theorem zuC:OpR X (compareOp .LtE) (rI0 fun i j=>.bl (decide (i<=j))):=ztl fun _ _ _ _ _ _ _ q=>le_int q
theorem zuD:OpR X (compareOp .Gt) (rI0 fun i j=>.bl (decide (j<i))):=ztl fun _ _ _ _ _ _ _ q=>gt_int q
theorem zuE:OpR X (compareOp .GtE) (rI0 fun i j=>.bl (decide (j<=i))):=ztl fun _ _ _ _ _ _ _ q=>ge_int q
theorem zrZ:OpR X (compareOp .Is) (fun x y H Q=>y=.non/\Q (.bl (decide (x=.non))) H):=by
 intro pins s σ H x y v u Q I rx ry h;obtain ⟨rfl,q⟩:=h;cases ry;refine is_none_gen (zoo I q ?_)
 cases x<;>first
  | (cases rx;rfl)
  | (obtain ⟨t,rfl⟩:=rx;rfl)
theorem zpu:OpR X (compareOp .IsNot) (fun x y H Q=>y=.non/\Q (.bl (!decide (x=.non))) H):=by
 intro pins s σ H x y v u Q I rx ry h;obtain ⟨rfl,q⟩:=h;cases ry;refine isnot_none_gen (zoo I q ?_)
 cases x<;>first
  | (cases rx;rfl)
  | (obtain ⟨t,rfl⟩:=rx;rfl)
theorem zk0{op:CmpOp}{r:R2}(ho:OpR X (compareOp op) r)(ha:PE X a ta)(hb:PE X b tb)(hm:behindInMarks op b=false):PE X (.Compare a [op] [b] pos) (tOp r ta tb):=by
 intro pins s σ H Q I h;exact wpAny_Compare1 (zvj ha hb I h fun v u s2 x y H2 I2 rx ry q=>ho pins s2 σ H2 x y v u Q I2 rx ry q) hm
def zoH(t:TE):TT:=fun σ H Q=>t σ H fun x H'=>∃k,x=.bl k/\Q k H'
theorem zkM{op:CmpOp}{r:R2}(ho:OpR X (compareOp op) r)(ha:PE X a ta)(hb:PE X b tb)(hm:behindInMarks op b=false):PT X (.Compare a [op] [b] pos) (zoH (tOp r ta tb)):=by
 intro pins s σ H Q I h
 refine wpAny_isTrue_Compare1 (thn (ha pins s σ H _ I h) fun v s1 ⟨x,H1,I1,r1,q1⟩=>thn (hb pins s1 σ H1 _ I1 q1) fun u s2 ⟨y,H2,I2,r2,q2⟩ =>
  thn (ho pins s2 σ H2 x y v u _ I2 r1 r2 q2) fun c s3 ⟨z,H3,I3,r3,k,e,q3⟩=>?_) hm
 subst e;cases r3;exact wpAny_truthy_bool ⟨H3,I3,q3⟩
def zkv(r r':R2)(ta tb tc:TE):TE:=fun σ H Q=>ta σ H fun x H1=>tb σ H1 fun y H2=>r x y H2 fun z H3=>∃k,z=.bl k ∧
 (if k=true then tc σ H3 fun w' H4=>r' y w' H4 Q else Q (.bl false) H3)
theorem zmS{op op':CmpOp}{r r':R2}(ho:OpR X (compareOp op) r)(ho':OpR X (compareOp op') r')(ha:PE X a ta)(hb:PE X b tb)(hc:PE X c tc)
  (hm:lastMarks [op,op'] [b,c]=false:=by with_unfolding_all rfl):PE X (.Compare a [op,op'] [b,c] pos) (zkv r r' ta tb tc):=by
 intro pins s σ H Q I h
 refine Compare_chain (thn (ha pins s σ H _ I h) fun v s1 ⟨x,H1,I1,r1,q1⟩=>chain_link (thn (hb pins s1 σ H1 _ I1 q1) fun u s2 ⟨y,H2,I2,r2,q2⟩ =>
  thn (ho pins s2 σ H2 x y v u _ I2 r1 r2 q2) fun d s3 ⟨z,H3,I3,r3,k,e,q3⟩=>?_)) hm
 subst e;cases r3;refine wpAny_truthy_bool ?_
 cases k with
 | false=>exact ite_ff ⟨.bl false,H3,I3,rfl,q3⟩
 | true=>exact ite_tt (chain_last (thn (hc pins s3 σ H3 _ I3 q3) fun w' s4 ⟨z',H4,I4,r4,q4⟩=>ho' pins s4 σ H4 y z' u w' Q I4 r2 r4 q4))
theorem zmH{op op':CmpOp}{r r':R2}(ho:OpR X (compareOp op) r)(ho':OpR X (compareOp op') r')(ha:PE X a ta)(hb:PE X b tb)(hc:PE X c tc)
  (hm:lastMarks [op,op'] [b,c]=false:=by with_unfolding_all rfl):PT X (.Compare a [op,op'] [b,c] pos) (zoH (zkv r r' ta tb tc)):=by
 intro pins s σ H Q I h
 refine isTrue_chain (thn (ha pins s σ H _ I h) fun v s1 ⟨x,H1,I1,r1,q1⟩=>test_link (thn (hb pins s1 σ H1 _ I1 q1) fun u s2 ⟨y,H2,I2,r2,q2⟩ =>
  thn (ho pins s2 σ H2 x y v u _ I2 r1 r2 q2) fun d s3 ⟨z,H3,I3,r3,k,e,q3⟩=>?_)) hm
 subst e;cases r3;refine wpAny_truthy_bool ?_
 cases k with
 | false =>
  obtain ⟨k',e',q'⟩:=q3;cases e';exact ite_ff ⟨H3,I3,q'⟩
 | true =>
  refine ite_tt (test_last (thn (hc pins s3 σ H3 _ I3 q3) fun w' s4 ⟨z',H4,I4,r4,q4⟩=>thn (ho' pins s4 σ H4 y z' u w' _ I4 r2 r4 q4) fun d' s5 ⟨z2,H5,I5,r5,k2,e2,q5⟩=>?_));subst e2;cases r5;exact wpAny_truthy_bool ⟨H5,I5,q5⟩
theorem zho:(sizeLine:Nat)<2 ^ 63:=by rw [sizeLine_eq];decide
theorem zjK:OpR X (binaryOp .Add) (fun x y H Q=>∃i j,x=.str i/\y=.str j/\i.length+j.length<=sizeLine/\Q (.str (i++j)) H):=by
 intro pins s σ H x y v u Q I rx ry h;obtain ⟨i,j,rfl,rfl,hz,q⟩:=h;obtain ⟨t,rfl⟩:=rx;obtain ⟨t',rfl⟩:=ry;exact add_str (fun t' tk=>⟨.str (i++j),H,I.tok _,⟨_,rfl⟩,q⟩) hz
theorem zhN{x:V}{us:List Value}(r:Vals [x] us):∃u,us=[u]/\zbx x u:=by
 cases r with
 | cons r1 r2=>cases r2;exact ⟨_,rfl,r1⟩
end
end L2
namespace L2
open PySem PySem.Spec PyProof.Rows
structure ObjM(h:Heap)(x dx C:Addr)(mA:Z6):Prop where
 obj:h.get? x=some (PySem.W.instObj C dx)
 ns:h.Ns1 dx mA
 ne:dx≠x
theorem zlh{h:Heap}{dx:Addr}{mA:Z6}(n:h.Ns1 dx mA):∃od,h.get? dx=some od/\∀name,PySem.W.lookIn name od=some (mA name):=by
 obtain ⟨o,es,ep,ho,hd,hk,_,hm⟩:=n;refine ⟨o,ho,fun name=>?_⟩;have e:=hm name;unfold nsFind findBy at e;rw [<-Array.find?_toList] at e;unfold PySem.W.lookIn;rw [hd];dsimp only;split
 ·rename_i y q;rw [q] at e;exact congrArg some e
 ·rename_i q;rw [q] at e
  have a:es.toList.any (·.refKey)=false:=by
   rw [List.any_eq_false];intro y hy;obtain ⟨z,t,hkey⟩:=hk y (Array.mem_toList_iff.mp hy);simp [DictEntry.refKey,hkey]
  have a':¬ es.toList.any (·.refKey)=true:=by rw [a];exact Bool.false_ne_true
  rw [if_neg a'];exact congrArg some e
theorem ObjM.look{h:Heap}{x dx C:Addr}{mA:Z6}(I:ObjM h x dx C mA):∃od,PySem.W.InstAt h x (PySem.W.instObj C dx) C (some od)/\∀name,PySem.W.lookIn name od=some (mA name) :=
 let ⟨od,ho,hl⟩:=zlh I.ns
 ⟨od,⟨I.obj,rfl,rfl,ho⟩,hl⟩
section
variable{prog:Program}{w:World}{A:Around}{E:Z5}{s:Shared}{K:PySem.W.Frag}{x dx C f:Addr}{mA:Z6}{name:Str}{v:Value}
theorem zp4{expr:Bool}{Q:Z5}(X:K.In s.heap)(I:ObjM s.heap x dx C mA)(hg:PySem.W.plainGet K C name=true)(hh:PySem.W.hasDictIn K C=true)
  (ha:PySem.W.findIn K (.ref C) name=some none) (hv:mA name=some v) (hv':PySem.W.handedIn v=true) (h:Q v { s with toks:=s.toks+1 }) :
  wpAny (model prog w) A (getAttr (.ref x) name expr) Q E s:=by
 obtain ⟨od,J,hl⟩:=I.look;exact PySem.W.get_value X J (PySem.W.plainGet_of hg).1 (PySem.W.findObj_own hh ha rfl (by rw [hl,hv])) hv' h
theorem znp{pl:Sem Bool}{Q:Value×List Value->Shared->Prop}(X:K.In s.heap)(I:ObjM s.heap x dx C mA)(hg:PySem.W.plainGet K C name=true)
  (hf:PySem.W.findIn K (.ref C) name=some (some (.ref f))) (ht:PySem.W.isFn K (.ref f)=true) (hv:mA name=none) (h:Q (.ref f,[.ref x]) s) :
  wpAny (model prog w) A (getMethod (.ref x) name pl) Q E s:=by
 obtain ⟨od,J,hl⟩:=I.look;exact PySem.W.method_fn X J (PySem.W.plainGet_of hg).1 (PySem.W.plainGet_of hg).2 hf (beq_iff_eq.mp ht) (by show (PySem.W.lookIn name od).map (·.isSome)=some false;rw [hl,hv];rfl) h
theorem zo3{ns:List Str}{Q:Unit->Shared->Prop}(X:K.In s.heap)(I:ObjM s.heap x dx C mA)
  (hs:PySem.W.findIn K (.ref C) "__setattr__" = some (some (.builtin "object.__setattr__"))) (hp:PySem.W.plainOver K C=true) (ht:PySem.W.takerIn K C name=some none) (hh:PySem.W.hasDictIn K C=true)
  (hw:PySem.Within mA ns) (hsz:ns.length<=sizeLine)
  (h:∀h',ObjM h' x dx C (fun y=>if y=name then some v else mA y)->Heap.SameBut dx s.heap h'->Q () { s with heap:=h',toks:=s.toks+2 }) :
  wpAny (model prog w) A (setAttr (.ref x) name v) Q E s:=by
 obtain ⟨od,J,hl⟩:=I.look;refine PySem.W.set_plain X J hs (PySem.W.osa_open (s:={ s with toks:=s.toks+1 }) (r:=none) X J hp ht fun b=>?_);obtain ⟨cd,hc,hd'⟩:=PySem.W.any_some hh;have hx:s.heap.get? x=some ⟨.ref C,some dx,.plain,#[]⟩:=I.obj;refine wpAny_bind (wpAny_pure (wpAny_bind (wpAny_bind (wpAny_loadPart hx (wpAny_bind (PySem.W.Looks.here (s:={ s with toks:=s.toks+1 }) (PySem.W.looks_clsIn X hc) ?_))))));rw [hd'];refine wpAny_pure (a:=some dx) (wpAny_bind (wpAny_pure (wpAny_bind ?_)));refine wpAny_nsSet1 (s:={ s with toks:=s.toks+1 }) I.ns fun h' hn2 hs2=>?_
 obtain ⟨oD,esD,epD,hoD,hdD,hcD⟩:=hn2.count (PySem.Within.cons name v hw);refine wpAny_bind (wpAny_lookBehind hoD (by rw [hdD];exact pastItsLine_dict (Nat.le_trans hcD (by rw [List.length_cons];omega))) ?_);exact wpAny_pure (h _ ⟨(hs2.2 _ (Ne.symm I.ne)).trans I.obj,hn2,I.ne⟩ hs2)
theorem zm6{R:Result->Shared->Prop}{vs:List Value}{kw:List (Str×Value)}(X:K.In s.heap)(hm:PySem.W.makesIn K C=true)
  (hi:PySem.W.findIn K (.ref C) "__init__" = some (some (.ref f))) (hf:PySem.W.typeIn K (.ref f)=some (.type "function"))
  (h:codeAny (model prog w) (A.under (.builtin "type.__call__" ⟨.ref C::vs,kw⟩)) (.call (.ref f) ⟨.ref (s.heap.objs.size+1)::vs,kw⟩) (PySem.W.InitBack (s.heap.objs.size+1) R)
   { s with heap:=(s.heap.push PySem.W.emptyDict).push (PySem.W.instObj C s.heap.objs.size) }) :
  codeAny (model prog w) A (.call (.ref C) ⟨vs,kw⟩) R s:=by
 obtain ⟨hh,g,d,t,os⟩:=s;exact PySem.W.make_core (PySem.W.makes_of X hm) (PySem.W.looks_findIn X hi) (fun self=>PySem.W.bind_fn X self hf) (.inl rfl) h
end
def zdI(f:Str)(v:V):List (Str×V)->List (Str×V)
 | []=>[(f,v)]
 | (g,x)::r=>if g=f then (g,v)::r else (g,x)::zdI f v r
theorem zfh(f g:Str)(v:V):∀fs:List (Str×V),(zdI f v fs).lookup g=if g=f then some v else fs.lookup g
 | []=>by
  show List.lookup g [(f,v)]=_
  by_cases h:g=f
  ·have hb:(g == f)=true:=beq_iff_eq.mpr h;simp only [List.lookup,hb,if_pos h]
  ·have hb:(g == f)=false:=beq_eq_false_iff_ne.mpr h;simp only [List.lookup,hb,if_neg h]
 | (k,x)::r=>by
  have ih:=zfh f g v r;rw [show zdI f v ((k,x)::r)=(if k=f then (k,v)::r else (k,x)::zdI f v r) from rfl]
  by_cases hk:k=f
  ·rw [if_pos hk]
   by_cases h:g=k
   ·have hb:(g == k)=true:=beq_iff_eq.mpr h;simp only [List.lookup,hb,if_pos (h.trans hk)]
   ·have hb:(g == k)=false:=beq_eq_false_iff_ne.mpr h;simp only [List.lookup,hb,if_neg (fun e:g=f=>h (e.trans hk.symm))]
  ·rw [if_neg hk]
   by_cases h:g=k
   ·have hb:(g == k)=true:=beq_iff_eq.mpr h;simp only [List.lookup,hb,if_neg (fun e:g=f=>hk (h.symm.trans e))]
   ·have hb:(g == k)=false:=beq_eq_false_iff_ne.mpr h;simp only [List.lookup,hb];exact ih
theorem zfj(f:Str)(v:V):∀fs:List (Str×V),f∈(zdI f v fs).map (·.1)/\∀g,g∈fs.map (·.1)->g∈(zdI f v fs).map (·.1)
 | []=>⟨by simp [zdI],fun g h=>by simp at h⟩
 | (k,x)::r=>by
  obtain ⟨i1,i2⟩:=zfj f v r;rw [show zdI f v ((k,x)::r)=(if k=f then (k,v)::r else (k,x)::zdI f v r) from rfl]
  by_cases hk:k=f
  ·rw [if_pos hk];subst hk;exact ⟨by simp,fun g h=>by simpa using h⟩
  ·rw [if_neg hk];refine ⟨?_,fun g h=>?_⟩
   ·rw [List.map_cons];exact List.mem_cons_of_mem _ i1
   ·rw [List.map_cons] at h ⊢
    rcases List.mem_cons.mp h with e | e
    ·exact List.mem_cons.mpr (.inl e)
    ·exact List.mem_cons_of_mem _ (i2 g e)
theorem zfi(f:Str)(v:V):∀fs:List (Str×V),(zdI f v fs).length<=fs.length+1
 | []=>by simp [zdI]
 | (k,x)::r=>by
  have ih:=zfi f v r;rw [show zdI f v ((k,x)::r)=(if k=f then (k,v)::r else (k,x)::zdI f v r) from rfl]
  by_cases hk:k=f
  ·rw [if_pos hk,List.length_cons,List.length_cons];omega
  ·rw [if_neg hk,List.length_cons,List.length_cons];omega
theorem zmg.some_of{v:V}{o:Option Value}(r:zmg (some v) o):∃u,o=some u/\zbx v u:=by
 cases o with
 | none=>exact (show False from r).elim
 | some u=>exact ⟨u,rfl,r⟩
theorem zmg.none_of{o:Option Value}(r:zmg none o):o=none:=by
 cases o with
 | none=>rfl
 | some u=>exact (show False from r).elim
theorem zlC{v:V}{u:Value}(r:zbx v u):PySem.W.handedIn u=true:=by
 cases v with
 | non=>cases (show u=Value.none from r);rfl
 | bl b=>cases (show u=Value.bool b from r);rfl
 | int i=>obtain ⟨t,e⟩:=(show ∃t,u=Value.int i t from r);cases e;rfl
 | str x=>obtain ⟨t,e⟩:=(show ∃t,u=Value.str x t from r);cases e;rfl
 | byt b=>obtain ⟨t,e⟩:=(show ∃t,u=Value.bytes b t from r);cases e;rfl
 | flt b=>obtain ⟨t,e⟩:=(show ∃t,u=Value.float b t from r);cases e;rfl
 | ref a=>cases (show u=Value.ref a from r);rfl
 | ty n=>cases (show u=Value.type n from r);rfl
section
variable{P:Program}{w:World}{H H':Hp}{h h':Heap}{a C dx:Addr}{fs fs':List (Str×V)}
theorem zgD(hok:HOk P w H h)(e:H a=some (.ins C dx fs)):∃mA,ObjM h a dx C mA/\(∀f,zmg (fs.lookup f) (mA f))/\PySem.Within mA (fs.map (·.1))/\fs.length<=1000/\H dx=some (.own a):=by
 obtain ⟨d,z,ne,ob,mA,n,r,q⟩:=(show zbQ P w H h a (.ins C dx fs) from hok a _ e);exact ⟨mA,⟨ob,n,ne⟩,r,q,z,d⟩
end
structure Cls(K:PySem.W.Frag)(C:Addr):Prop where
 pg:PySem.W.plainGet K C Str.empty=true
 hd:PySem.W.hasDictIn K C=true
 po:PySem.W.plainOver K C=true
 sa:PySem.W.findIn K (.ref C) "__setattr__" = some (some (.builtin "object.__setattr__"))
theorem Cls.get{K:PySem.W.Frag}{C:Addr}(c:Cls K C)(f:Str):PySem.W.plainGet K C f=true:=c.pg
def zdF(K:PySem.W.Frag)(C:Addr)(f:Str):Prop:=PySem.W.findIn K (.ref C) f=some none
theorem zdF.taker{K:PySem.W.Frag}{C:Addr}{f:Str}(n:zdF K C f):PySem.W.takerIn K C f=some none:=by
 unfold PySem.W.takerIn;rw [show PySem.W.findIn K (.ref C) f=some none from n];rfl
structure Meth(K:PySem.W.Frag)(C:Addr)(m:Str)(f:Addr):Prop where
 at_:PySem.W.findIn K (.ref C) m=some (some (.ref f))
 fn:PySem.W.isFn K (.ref f)=true
 kp:PySem.W.keepIn K (.ref f)=true
section
variable{X:Cx}{pins:Z3}{σ:St}{H:Hp}{s:Shared}{a C dx:Addr}{fs:List (Str×V)}{f:Str}{v:V}{A:Around}{E:Z5}
theorem zjS{b:Bool}{Q:Z5}(I:Inv X pins σ H s)(e:H a=some (.ins C dx fs))(c:Cls X.K C)(n:zdF X.K C f)(l:fs.lookup f=some v)
  (h:∀u s',Inv X pins σ H s'->zbx v u->Q u s'):wpAny (model X.prog X.w) A (getAttr (.ref a) f b) Q E s:=by
 obtain ⟨mA,O,r,_,_,_⟩:=zgD I.hok e;obtain ⟨u,hu,ru⟩:=zmg.some_of (v:=v) (o:=mA f) (by rw [<-l];exact r f);exact zp4 I.kIn O (c.get f) c.hd n hu (zlC ru) (h u _ (I.tok _) ru)
theorem zf9{m:Str}{g:Addr}{pl:Sem Bool}{Q:Value×List Value->Shared->Prop}(I:Inv X pins σ H s)(e:H a=some (.ins C dx fs))(c:Cls X.K C)(k:Meth X.K C m g)(l:fs.lookup m=none)
  (h:Q (.ref g,[.ref a]) s):wpAny (model X.prog X.w) A (getMethod (.ref a) m pl) Q E s:=by
 obtain ⟨mA,O,r,_,_,_⟩:=zgD I.hok e;have hn:mA m=none:=zmg.none_of (by rw [<-l];exact r m);exact znp I.kIn O (c.get m) k.at_ k.fn hn h
theorem zjC{y:V}{u:Value}{Q:Unit->Shared->Prop}(I:Inv X pins σ H s)(e:H a=some (.ins C dx fs))(c:Cls X.K C)(n:zdF X.K C f)(hl:fs.length<1000)(ry:zbx y u)
  (h:∀s',Inv X pins σ (upd H a (.ins C dx (zdI f y fs))) s'->Q () s'):wpAny (model X.prog X.w) A (setAttr (.ref a) f u) Q E s:=by
 obtain ⟨mA,O,r,wi,_,ho⟩:=zgD I.hok e
 have hz:(fs.map (·.1)).length<=sizeLine:=by rw [List.length_map,sizeLine_eq];omega
 refine zo3 I.kIn O c.sa c.po n.taker c.hd wi hz fun h' O' sb=>h _ ?_
 have hd:∃o,h'.get? dx=some o:=let ⟨o,_,_,e',_⟩:=O'.ns;⟨o,e'⟩
 refine I.write (x:=a) (e:=dx) (by rw [e];exact True.intro) (.inr ho) (fun b q hb z=>(sb.2 b hb).trans z) hd ?_;refine ⟨by rw [zam O.ne];exact ho,?_,O.ne,O'.obj,_,O'.ns,fun g=>?_,fun g hg=>?_⟩
 ·have:=zfi f y fs;omega
 ·show zmg ((zdI f y fs).lookup g) (if g=f then some u else mA g);rw [zfh]
  by_cases q:g=f
  ·rw [if_pos q,if_pos q];exact ry
  ·rw [if_neg q,if_neg q];exact r g
 ·by_cases q:g=f
  ·rw [q];exact (zfj f y fs).1
  ·refine (zfj f y fs).2 g (wi g fun z=>hg ?_);show (if g=f then some u else mA g)=none;rw [if_neg q];exact z
theorem Inv.made(I:Inv X pins σ H s):Inv X pins σ (upd (upd H s.heap.objs.size (.own (s.heap.objs.size+1))) (s.heap.objs.size+1) (.ins C s.heap.objs.size []))
  { s with heap:=(s.heap.push PySem.W.emptyDict).push (PySem.W.instObj C s.heap.objs.size) }:=by
 have e1:(s.heap.push PySem.W.emptyDict).get? s.heap.objs.size=some PySem.W.emptyDict:=Heap.get?_push_size s.heap rfl
 have e2:((s.heap.push PySem.W.emptyDict).push (PySem.W.instObj C s.heap.objs.size)).get? (s.heap.objs.size+1)=some (PySem.W.instObj C s.heap.objs.size):=by
  have:=Heap.get?_push_size (s.heap.push PySem.W.emptyDict) (o:=PySem.W.instObj C s.heap.objs.size) rfl
  rwa [Heap.size_push] at this
 have e3:(s.heap.push PySem.W.emptyDict).Ns s.heap.objs.size (fun _=>none):=⟨PySem.W.emptyDict,#[],_,e1,rfl,(fun e he=>absurd he (by simp)),fun _=>rfl⟩;have I1:=I.laid (a:=s.heap.objs.size) (o:=.own (s.heap.objs.size+1)) (h':=s.heap.push PySem.W.emptyDict) (t':=s.toks) (fun b u q=>Heap.get?_push_of_some _ q) (Nat.le_refl _) ⟨_,e1⟩;refine I1.laid (a:=s.heap.objs.size+1) (o:=.ins C s.heap.objs.size []) (t':=s.toks) (fun b u q=>Heap.get?_push_of_some _ q) (Nat.le_of_eq (Heap.size_push _ _)) ?_;have ne:s.heap.objs.size≠s.heap.objs.size+1:=Nat.ne_of_lt (Nat.lt_succ_self _);refine ⟨by rw [zam ne,zaH],Nat.zero_le _,ne,e2,fun _=>none,(Heap.Ns1.of_empty e3).at fun o q=>Heap.get?_push_of_some _ q,fun _=>True.intro,fun y hy=>absurd rfl hy⟩
theorem zqp{prog:Program}{w:World}{env:Env}{e:Expr}{f:Str}{pos:Pos}{s:Shared}{Q:Z5}(hb:attributeBase e f env (eval e env)=eval e env)
  (h:wpAny (model prog w) A (eval e env) (fun o s₁=>wpAny (model prog w) A (getAttr o f true) Q E s₁) E s):wpAny (model prog w) A (eval (.Attribute e f pos) env) Q E s :=
 Attribute_any_ h (by rw [arm_eval_Attribute,hb])
end
def zwn(K:PySem.W.Frag)(ta:TE)(f:Str):TE:=fun σ H Q=>ta σ H fun x H1=>∃a C dx fs v,x=.ref a/\H1 a=some (.ins C dx fs)/\Cls K C/\zdF K C f/\fs.lookup f=some v/\Q v H1
def zyg(K:PySem.W.Frag)(ta tv:TE)(f:Str):TS:=fun D σ H=>tv σ H fun y H1=>ta σ H1 fun x H2=>∃a C dx fs,x=.ref a/\H2 a=some (.ins C dx fs)/\Cls K C/\zdF K C f/\fs.length<1000 ∧
 D.nx σ (upd H2 a (.ins C dx (zdI f y fs)))
def zxz(X:Cx)(op:Operator)(rd:V->V->Hp->VK->Prop):Prop :=
 ∀(pins:Z3) (s:Shared) (σ:St) (H:Hp) (x y:V) (u v:Value) (Q:VK),Inv X pins σ H s->zbx x u->zbx y v->rd x y H Q->wpAny (model X.prog X.w) X.A (inplaceOp op u v) (EP X pins σ Q) X.xe s
section
variable{X:Cx}{o e value:Expr}{f:Str}{pos pos' tpos:Pos}{ta tv:TE}
theorem zhg(he:PE X e ta)(hb:attributeBase e f X.env (eval e X.env)=eval e X.env):PE X (.Attribute e f pos) (zwn X.K ta f):=by
 intro pins s σ H Q I h;refine zqp hb (thn (he pins s σ H _ I h) fun u s1 ⟨x,H1,I1,rx,a,C,dx,fs,v,ex,ea,c,n,l,q⟩=>?_);subst ex;obtain rfl:u=Value.ref a:=rx;exact zjS I1 ea c n l fun u' s2 I2 ru=>⟨v,H1,I2,ru,q⟩
theorem zn5(ha:PE X o ta)(hv:PE X value tv)(hs:swapsWith value (some (.Attribute o f pos')) pos.line X.env=pure false):PS X (.Assign [.Attribute o f pos'] value pos) (zyg X.K ta tv f):=by
 intro pins s σ H D I h;refine plainObj_wpAny_Assign_Attribute (thn (hv pins s σ H _ I h) fun u s1 ⟨y,H1,I1,ry,q⟩=>thn (ha pins s1 σ H1 _ I1 q) fun ov s2 ⟨x,H2,I2,rx,a,C,dx,fs,ex,ea,c,n,l,q2⟩=>?_) hs;subst ex;obtain rfl:ov=Value.ref a:=rx;exact zjC I2 ea c n l ry fun s3 I3=>⟨σ,_,I3,q2⟩
def zwr:V->V->Hp->VK->Prop:=fun x y H Q=>∃i j,x=.int i/\y=.int j/\Q (.int (i+j)) H
def zwq:V->V->Hp->VK->Prop:=fun x y H Q=>∃i j,x=.int i/\y=.int j/\Q (.int (i-j)) H
theorem zsH:zxz X .Add zwr:=by
 rintro pins s σ H x y u v Q I rx ry ⟨i,j,rfl,rfl,q⟩;obtain ⟨t,rfl⟩:=(show ∃t,u=Value.int i t from rx);obtain ⟨t',rfl⟩:=(show ∃t',v=Value.int j t' from ry);exact PyProof.Rows.iadd_int ⟨.int (i+j),H,I.tok _,⟨_,rfl⟩,q⟩
theorem zsG:zxz X .Sub zwq:=by
 rintro pins s σ H x y u v Q I rx ry ⟨i,j,rfl,rfl,q⟩;obtain ⟨t,rfl⟩:=(show ∃t,u=Value.int i t from rx);obtain ⟨t',rfl⟩:=(show ∃t',v=Value.int j t' from ry);exact PyProof.Rows.isub_int ⟨.int (i-j),H,I.tok _,⟨_,rfl⟩,q⟩
end
section
variable{X:Cx}{pins:Z3}{σ:St}{H:Hp}{s:Shared}{A:Around}{E:Z5}{Q:Z5}{c:Value}{b:Bool}
inductive TyOf(K:PySem.W.Frag)(H:Hp):V->Value->Prop where
 | non:TyOf K H .non (.type "NoneType")
 | bl (x:Bool):TyOf K H (.bl x) (.type "bool")
 | int (i:Int):TyOf K H (.int i) (.type "int")
 | str (x:Str):TyOf K H (.str x) (.type "str")
 | flt (x:UInt64):TyOf K H (.flt x) (.type "float")
 | lst {a:Addr} {xs:List V} (e:H a=some (.lst xs)):TyOf K H (.ref a) (.type "list")
 | frz {a:Addr} {o:Obj} {xs:List V} (e:H a=some (.frz o (.lst xs))):TyOf K H (.ref a) (.type "list")
 | tup {a:Addr} {xs:List V} (e:H a=some (.tup xs)):TyOf K H (.ref a) (.type "tuple")
 | dK {a:Addr} {kvs:List (Key×V)} (e:H a=some (.dK kvs)):TyOf K H (.ref a) (.type "dict")
 | dT {a:Addr} {kvs:List (List Key×V)} (e:H a=some (.dT kvs)):TyOf K H (.ref a) (.type "dict")
 | ins {a C dx:Addr} {fs:List (Str×V)} (e:H a=some (.ins C dx fs)) (cl:Cls K C) (ha:PySem.W.findIn K (.ref C) "__class__" = some (some (.builtin "object.__class__")))
   (hn:PySem.W.specialIn K (.builtin "object.__class__") "__get__" = some (some (.builtin "getset_descriptor.__get__"))) (htk:PySem.W.takesIn K (.builtin "object.__class__")=some true)
   (hm:PySem.W.mroIn K C (.type "object")=some true):TyOf K H (.ref a) (.ref C)
theorem zlt{x:V}{u t:Value}(I:Inv X pins σ H s)(rx:zbx x u)(ty:TyOf X.K H x t)(e:PySem.W.kitOne X.K t c=some b)(h:∀tk,Q (.bool b) { s with toks:=tk }) :
  wpAny (model X.prog X.w) A (call (.builtin "isinstance") [u,c]) Q E s:=by
 cases ty with
 | non=>cases (show u=Value.none from rx);exact PySem.W.kia_one PySem.W.kitx_none I.kIn True.intro e (fun z=>nomatch z) h
 | bl y=>cases (show u=Value.bool y from rx);exact PySem.W.kia_one PySem.W.kitx_bool I.kIn True.intro e (fun z=>nomatch z) h
 | int i=>obtain ⟨t,q⟩:=(show ∃t,u=Value.int i t from rx);cases q;exact PySem.W.kia_one PySem.W.kitx_int I.kIn True.intro e (fun z=>nomatch z) h
 | str y=>obtain ⟨t,q⟩:=(show ∃t,u=Value.str y t from rx);cases q;exact PySem.W.kia_one PySem.W.kitx_str I.kIn True.intro e (fun z=>nomatch z) h
 | flt y=>obtain ⟨t,q⟩:=(show ∃t,u=Value.float y t from rx);cases q;exact PySem.W.kia_one PySem.W.kitx_float I.kIn True.intro e (fun z=>nomatch z) h
 | @lst a xs ea =>
  cases (show u=Value.ref a from rx);obtain ⟨_,_,n,_,h1⟩:=(show zbQ X.prog X.w H s.heap a (.lst xs) from I.hok a _ ea);exact PySem.W.kia_one PySem.W.kitx_list I.kIn ⟨_,h1,rfl⟩ e (fun z=>nomatch z) h
 | @frz a ob xs ea =>
  cases (show u=Value.ref a from rx);obtain ⟨_,_,_,n,_,h1⟩:=(show zbQ X.prog X.w H s.heap a (.frz ob (.lst xs)) from I.hok a _ ea);exact PySem.W.kia_one PySem.W.kitx_list I.kIn ⟨_,h1,rfl⟩ e (fun z=>nomatch z) h
 | @tup a xs ea =>
  cases (show u=Value.ref a from rx);obtain ⟨_,_,_,p⟩:=(show zbQ X.prog X.w H s.heap a (.tup xs) from I.hok a _ ea);obtain ⟨o,h1,h2,_⟩:=p;exact PySem.W.kia_one PySem.W.kitx_tuple I.kIn ⟨o,h1,h2⟩ e (fun z=>nomatch z) h
 | @dK a kvs ea =>
  cases (show u=Value.ref a from rx);obtain ⟨_,_,vs,_,p⟩:=(show zbQ X.prog X.w H s.heap a (.dK kvs) from I.hok a _ ea);obtain ⟨o,es,ep,h1,h2,_⟩:=p;exact PySem.W.kia_one PySem.W.kitx_dict I.kIn ⟨o,h1,h2.1⟩ e (fun z=>nomatch z) h
 | @dT a kvs ea =>
  cases (show u=Value.ref a from rx);obtain ⟨_,_,xs,_,o,es,ep,h1,h2,_⟩:=(show zbQ X.prog X.w H s.heap a (.dT kvs) from I.hok a _ ea);exact PySem.W.kia_one PySem.W.kitx_dict I.kIn ⟨o,h1,h2.1⟩ e (fun z=>nomatch z) h
 | @ins a C dx fs ea cl ha hn htk hm =>
  cases (show u=Value.ref a from rx);obtain ⟨mA,O,_⟩:=zgD I.hok ea;obtain ⟨od,J,_⟩:=O.look;exact PySem.W.kia_one (PySem.W.kitx_own (cl.get _) cl.hd ha hn htk hm) I.kIn J e (fun z=>nomatch z) h
end
end L2
namespace L2
open PySem PySem.Spec PyProof.Rows
structure Room(k:Nat)(A:Around):Prop where
 hd:A.handled=none
 dp:A.depth+3*k+5<recursionLimit
 un:A.units+16*k+200<cLine
theorem Room.mono{j k:Nat}{A:Around}(r:Room k A)(h:j<=k):Room j A:=⟨r.hd,by have:=r.dp;omega,by have:=r.un;omega⟩
theorem Room.deeper{k:Nat}{A:Around}(r:Room (k+1) A)(env:Env):Room k (A.deeper env) :=
 ⟨r.hd,by have:=r.dp;show A.depth+1+3*k+5<_;omega,by have:=r.un;show A.units+3+16*k+200<_;omega⟩
theorem zjP{A:Around}{C:Addr}{us:List Value}{kw:List (Str×Value)}:(A.under (.builtin "type.__call__" ⟨.ref C::us,kw⟩)).depth=A.depth+1:=by
 first | rfl | simp [Around.under,Code.weight,Code.isCreation,Code.isGuard,Code.isCaller,Code.frames,Code.isFrame,guardIds]
theorem zjO{A:Around}{C:Addr}{us:List Value}{kw:List (Str×Value)}:(A.under (.builtin "type.__call__" ⟨.ref C::us,kw⟩)).units=A.units+1:=by
 first | rfl | simp [Around.under,Code.cUnits,Code.frames,Code.isFrame]
theorem Room.make{k:Nat}{A:Around}(r:Room (k+1) A)(C:Addr)(us:List Value)(kw:List (Str×Value)):Room k (A.under (.builtin "type.__call__" ⟨.ref C::us,kw⟩)) :=
 ⟨r.hd,by have:=r.dp;rw [zjP];omega,by have:=r.un;rw [zjO];omega⟩
theorem Room.depth{k:Nat}{A:Around}(r:Room k A):A.depth<recursionLimit:=by have:=r.dp;omega
theorem Room.units{k:Nat}{A:Around}(r:Room k A):A.units+64<cLine:=by have:=r.un;omega
def zt4:TA:=fun _ H Q=>Q [] H
def zua(ta:TE)(tr:TA):TA:=fun σ H Q=>ta σ H fun x H1=>tr σ H1 fun xs H2=>Q (x::xs) H2
section
variable{X:Cx}{e:Expr}{es:List Expr}{te:TE}{t:TA}{pos:Pos}
theorem zfb:PA X [] zt4:=fun _ _ _ _ H Q I h=>Calls.spliced_nil ⟨[],H,I,.nil,h⟩
theorem zcM(ha:PE X e te)(hr:PA X es t)(hs:starEach (e::es) X.env=(false,eval e X.env)::starEach es X.env:=by rfl):PA X (e::es) (zua te t):=by
 intro pos pins s σ H Q I h;rw [hs];show wpAny _ _ (spliced ((false,eval e X.env)::backTo pos (starEach es X.env))) _ _ s;refine Calls.spliced_cons (thn (ha pins s σ H _ I h) fun u s1 ⟨x,H1,I1,r1,q1⟩=>?_);exact thn (hr pos pins s1 σ H1 _ I1 q1) fun us s2 ⟨xs,H2,I2,r2,q2⟩=>⟨x::xs,H2,I2,.cons r1 r2,q2⟩
def zx7(t:TA):TE:=fun σ H Q=>t σ H fun xs H1=>xs.length<=sizeLine/\∀p,H1 p=none->Q (.ref p) (upd H1 p (.tup xs))
def zyc(t:TA):TE:=fun σ H Q=>t σ H fun xs H1=>xs.length<=sizeLine/\∀p,H1 p=none->Q (.ref p) (upd H1 p (.lst xs))
theorem zrM{x1}(h:PA X es t):PE X (.Tuple es x1 pos) (zx7 t):=by
 intro pins s σ H Q I hq;refine wpAny_Tuple_spliced (thn (h pos pins s σ H _ I hq) fun us s1 ⟨xs,H1,I1,r,z,q⟩=>⟨by rw [<-r.length];exact z,?_⟩);have hf:H1 s1.heap.objs.size=none:=I1.hok.fresh (Nat.le_refl _);refine ⟨.ref s1.heap.objs.size,upd H1 s1.heap.objs.size (.tup xs),I1.laid (t':=s1.toks) (fun b u e=>Heap.get?_push_of_some _ e) (Nat.le_refl _) ?_,rfl,q _ hf⟩;exact ⟨z,us,r,⟨_,Heap.get?_push_size _ rfl,rfl,_,rfl⟩⟩
theorem zrT(h:PA X es t):PE X (.List es pos) (zyc t):=by
 intro pins s σ H Q I hq;refine wpAny_List_spliced (thn (h pos pins s σ H _ I hq) fun us s1 ⟨xs,H1,I1,r,z,q⟩=>⟨by rw [<-r.length];exact z,?_⟩);have hf:H1 s1.heap.objs.size=none:=I1.hok.fresh (Nat.le_refl _);refine ⟨.ref s1.heap.objs.size,upd H1 s1.heap.objs.size (.lst xs),I1.laid (t':=s1.toks) (fun b u e=>Heap.get?_push_of_some _ e) (Nat.le_refl _) ?_,rfl,q _ hf⟩;exact ⟨z,us,0,r,Heap.get?_push_size _ rfl⟩
end
abbrev Sp:=List V->Hp->VK->XK->Prop
abbrev CXT:=List Env->Hp->Shared->XK->Value->Shared->Prop
structure Env0(P:Program)(w:World)(K:PySem.W.Frag)(mg:Z6)(base:Heap)(A:Around)(outer:List Env)(s:Shared)(H:Hp):Prop where
 frames:A.frames=some outer
 mod:Mod K mg base
 bs:∀b o,base.get? b=some o->s.heap.get? b=some o/\H b=none
 bsz:base.objs.size<=s.heap.objs.size
 funs:s.heap.FunFrames base outer
 frf:∀b∈frs outer,H b=none
 hok:HOk P w H s.heap
 bare:AllBare s.gens
def CE(outer:List Env)(P:Program)(w:World)(H:Hp)(s:Shared)(Q:VK)(u:Value)(s':Shared):Prop :=
 ∃v H',s'.os=s.os/\AllBare s'.gens/\Un (frs outer) [] H H' s.heap s'.heap/\HOk P w H' s'.heap/\zbx v u/\Q v H'
def CR(CX:CXT)(outer:List Env)(P:Program)(w:World)(H:Hp)(s:Shared)(Q:VK)(E:XK)(r:Result)(s':Shared):Prop :=
 match r with
 | .ok (.ret u)=>CE outer P w H s Q u s'
 | .ok _=>False
 | .error e=>CX outer H s E e s'
structure FnOk(P:Program)(w:World)(K:PySem.W.Frag)(mg:Z6)(base:Heap)(CX:CXT)(k:Nat)(f:Addr)(fd:FuncData)(ps:List Str)(sp:Sp):Prop where
 len:∀vs H Q E,sp vs H Q E->vs.length=ps.length
 run:∀(A:Around) (outer:List Env) (s:Shared) (H:Hp) (args:Args) (us:List Value) (vs:List V) (Q:VK) (E:XK),Room k A->Env0 P w K mg base A outer s H->BindsTo s fd args (ps.zip us)->Vals vs us->sp vs H Q E →
  codeAny (model P w) A (.call (.ref f) args) (CR CX outer P w H s Q E) s
theorem FnOk.mono{P:Program}{w:World}{K:PySem.W.Frag}{mg:Z6}{base:Heap}{CX:CXT}{j k:Nat}{f:Addr}{fd:FuncData}{ps:List Str}{sp:Sp}(F:FnOk P w K mg base CX j f fd ps sp)(h:j<=k) :
  FnOk P w K mg base CX k f fd ps sp:=⟨F.len,fun A outer s H args us vs Q E hr=>F.run A outer s H args us vs Q E (hr.mono h)⟩
theorem FnOk.imp{P:Program}{w:World}{K:PySem.W.Frag}{mg:Z6}{base:Heap}{CX:CXT}{k:Nat}{f:Addr}{fd:FuncData}{ps:List Str}{sp sp':Sp}(F:FnOk P w K mg base CX k f fd ps sp)
  (h:∀vs H Q E,sp' vs H Q E->sp vs H Q E):FnOk P w K mg base CX k f fd ps sp' :=
 ⟨fun vs H Q E q=>F.len vs H Q E (h _ _ _ _ q),fun A outer s H args us vs Q E hr he hb hv hs=>F.run A outer s H args us vs Q E hr he hb hv (h _ _ _ _ hs)⟩
theorem Env0.make{P:Program}{w:World}{K:PySem.W.Frag}{mg:Z6}{base:Heap}{A:Around}{outer:List Env}{s:Shared}{H:Hp}(e:Env0 P w K mg base A outer s H)(C:Addr)(us:List Value)(kw:List (Str×Value)) :
  Env0 P w K mg base (A.under (.builtin "type.__call__" ⟨.ref C::us,kw⟩)) outer s H:=⟨by first | exact e.frames | (simpa [Around.under,Code.envs,Code.isFrame,pushEnvs] using e.frames),e.mod,e.bs,e.bsz,e.funs,e.frf,e.hok,e.bare⟩
section
variable{X:Cx}{pins:Z3}{σ:St}{H:Hp}{s s':Shared}
theorem Inv.env0(I:Inv X pins σ H s):Env0 X.prog X.w X.K X.mg X.base X.A X.stack s H :=
 ⟨I.ok.frames,I.ok.mod,I.bs,Nat.le_trans I.ok.bsz I.sz,I.stack,I.stkFree,I.hok,I.bare⟩
theorem Inv.after{Q:VK}{u:Value}(I:Inv X pins σ H s)(h:CE X.stack X.prog X.w H s Q u s'):EP X pins σ Q u s':=by
 obtain ⟨v,H',os,bare,un,hok,r,q⟩:=h;obtain ⟨hh,g,d,t,os'⟩:=s';obtain rfl:os'=s.os:=os;exact ⟨v,H',I.call (h':=hh) (g':=g) (d':=d) (t':=t) (ch:=[]) un hok bare (fun b z=>absurd z (by simp)),r,q⟩
end
def zch(K:PySem.W.Frag)(fd:FuncData)(ps:List Str)(ds:List Value):Prop :=
 ∀(s:Shared) (us:List Value),K.In s.heap->(us++ds).length=ps.length->BindsTo s fd ⟨us,[]⟩ (ps.zip (us++ds))
theorem zch.all{K:PySem.W.Frag}{fd:FuncData}{ps:List Str}(h:∀us:List Value,us.length=ps.length->bindArgs fd ⟨us,[]⟩=pure (ps.zip us)):zch K fd ps []:=fun s us _ hl=>by
 rw [List.append_nil] at hl ⊢;exact .of_eq (h us hl)
def ztb(CX:CXT)(X:Cx)(E:XK):Prop:=∀(pins:Z3) (σ:St) (H:Hp) (s:Shared) (e:Value) (s':Shared),Inv X pins σ H s->CX X.stack H s E e s'->X.xe e s'
section
variable{X:Cx}{CX:CXT}{k:Nat}{f C:Addr}{fd:FuncData}{ps:List Str}{sp:Sp}{dvs:List V}{ds:List Value}{E:XK}{x m:Str}{p pos apos:Pos}{e o:Expr}{es:List Expr}{ta:TE}{t:TA}
structure Mk(K:PySem.W.Frag)(C f:Addr):Prop where
 makes:PySem.W.makesIn K C=true
 init:PySem.W.findIn K (.ref C) "__init__" = some (some (.ref f))
 fn:PySem.W.isFn K (.ref f)=true
 kp:PySem.W.keepIn K (.ref C)=true
end
section
variable{X:Cx}{CX:CXT}{k:Nat}{f C:Addr}{fd:FuncData}{ps ks:List Str}{sp:Sp}{E:XK}{x m:Str}{p pos apos kpos:Pos}{e o:Expr}{es:List Expr}{kws:List Keyword}{te ta:TE}{t tk:TA}{nm:Option Str}
variable{g:List Value->List Value->List Value}{gV:List V->List V->List V}
end
structure FnScope(N P:List Str)(sc:Scope):Prop where
 kind:sc.kind=.function
 co:sc.isCoroutine=false
 gen:sc.isGenerator=false
 nd:N.Nodup
 pre:N.take P.length=P
 par:∀x∈P,sc.names.lookup x=some .local\/sc.names.lookup x=some .cell
 nofree:∀y∈sc.names,y.2≠.free
theorem zhG{kindOf:Str->Option NameKind}{x:Str}:∀{binds:List (Str×Value)} {m:Z6},(∀v,(x,v) ∉ binds)->bindL kindOf binds m x=m x
 | [],_,_=>rfl
 | (n,v)::r,m,h=>by
  unfold bindL;rw [zhG fun w hw=>h w (List.mem_cons_of_mem _ hw)];split
  ·have:x≠n:=by rintro rfl;exact h v List.mem_cons_self
   simp [this]
  ·rfl
theorem zhI{kindOf:Str->Option NameKind}{x:Str}:∀{binds:List (Str×Value)} {m:Z6},(∀v,(x,v) ∉ binds)->bindC kindOf binds m x=m x
 | [],_,_=>rfl
 | (n,v)::r,m,h=>by
  unfold bindC;rw [zhI fun w hw=>h w (List.mem_cons_of_mem _ hw)];split
  ·rfl
  ·have:x≠n:=by rintro rfl;exact h v List.mem_cons_self
   simp [this]
theorem zhH{kindOf:Str->Option NameKind}{x:Str}{v:Value}:∀{P:List Str} {vs:List Value} {i:Nat} {m:Z6},P.Nodup->P[i]?=some x->vs[i]?=some v->kindOf x=some .local →
  bindL kindOf (P.zip vs) m x=some v
 | [],_,_,_,_,h,_,_=>by simp at h
 | _::_,[],_,_,_,_,h,_=>by simp at h
 | p::P,w::vs,0,m,nd,h1,h2,hk=>by
  simp at h1 h2;subst h1;subst h2;show bindL kindOf ((p,w)::P.zip vs) m p=_;unfold bindL;rw [zhG fun v hv=>(List.nodup_cons.mp nd).1 (List.of_mem_zip hv).1,if_pos hk];simp
 | p::P,w::vs,i+1,m,nd,h1,h2,hk=>by
  show bindL kindOf ((p,w)::P.zip vs) m x=_;unfold bindL;exact zhH (i:=i) (List.nodup_cons.mp nd).2 (by simpa using h1) (by simpa using h2) hk
theorem zhJ{kindOf:Str->Option NameKind}{x:Str}{v:Value}:∀{P:List Str} {vs:List Value} {i:Nat} {m:Z6},P.Nodup->P[i]?=some x->vs[i]?=some v->kindOf x≠some .local →
  bindC kindOf (P.zip vs) m x=some v
 | [],_,_,_,_,h,_,_=>by simp at h
 | _::_,[],_,_,_,_,h,_=>by simp at h
 | p::P,w::vs,0,m,nd,h1,h2,hk=>by
  simp at h1 h2;subst h1;subst h2;show bindC kindOf ((p,w)::P.zip vs) m p=_;unfold bindC;rw [zhI fun v hv=>(List.nodup_cons.mp nd).1 (List.of_mem_zip hv).1,if_neg hk];simp
 | p::P,w::vs,i+1,m,nd,h1,h2,hk=>by
  show bindC kindOf ((p,w)::P.zip vs) m x=_;unfold bindC;exact zhJ (i:=i) (List.nodup_cons.mp nd).2 (by simpa using h1) (by simpa using h2) hk
def zeV(N:List Str)(vs:List V):St:=vs.map some++List.replicate (N.length-vs.length) none
def zlR(CX:CXT)(P:Program)(w:World)(K:PySem.W.Frag)(mg:Z6)(base:Heap)(N:List Str)(qual:Str)(scope:Scope)(f:Addr)(cd:Value)(A:Around)(outer:List Env)(s:Shared)(H:Hp)(E:XK):Cx where
 prog:=P
 w:=w
 K:=K
 mg:=mg
 base:=base
 A:=A.deeper (envOfC qual scope s.heap.objs.size f cd)
 N:=N
 s₀:=s
 H₀:=H
 env:=envOfC qual scope s.heap.objs.size f cd
 outer:=outer
 stack:=envOfC qual scope s.heap.objs.size f cd::outer
 ex:=[]
 calm:=true
 fn:=fun _=>true
 pn:=[]
 xe:=fun e s'=>wpAny (model P w) (A.deeper (envOfC qual scope s.heap.objs.size f cd)) (leaving (envOfC qual scope s.heap.objs.size f cd) e) (fun _ s''=>CX outer H s E e s'') (fun e' s''=>CX outer H s E e' s'') s'
theorem zjn{sc:Scope}{n:Nat}{x:Str}(h:sc.names.lookup x=some .cell):∃c,(cellsFrom n sc.names []).lookup x=some c:=by
 have q:=PySem.W.cellsFrom_some sc.names n [] (.inl h);exact Option.isSome_iff_exists.mp q
theorem zlw{CX:CXT}{P:Program}{w:World}{K:PySem.W.Frag}{mg:Z6}{base:Heap}{N ps:List Str}{qual:Str}{scope:Scope}{f:Addr}{cd:Value}{A:Around}{outer:List Env}{s s1:Shared}{H:Hp}{E:XK}{us:List Value}{vs:List V}
  (S:FnScope N ps scope) (hd:A.handled=none) (e0:Env0 P w K mg base A outer s H) (hl:vs.length=ps.length) (r:Vals vs us)
  (x:InCallC s s.heap.objs.size (bindL (envOfC qual scope s.heap.objs.size f cd).kindOf (ps.zip us) fun _=>none) (cellsFrom (s.heap.objs.size+1) scope.names []) (bindC (envOfC qual scope s.heap.objs.size f cd).kindOf (ps.zip us) fun _=>none) s1) :
  Inv (zlR CX P w K mg base N qual scope f cd A outer s H E) [] (zeV N vs) H s1:=by
 have hpl:ps.length<=N.length:=by have:=congrArg List.length S.pre;rw [List.length_take] at this;omega
 obtain ⟨h1,tk,rfl,hk⟩:=x.done;have noA:∀b:Addr,b ∉ (zlR CX P w K mg base N qual scope f cd A outer s H E).ex:=fun b z=>absurd (show b∈([]:List Addr) from z) (by simp)
 refine ⟨⟨e0.mod,S.kind,rfl,rfl,Nat.le_refl _,fun y z c h1 h2=>?_,fun y hy=>?_,fun y c _ h=>?_,fun _=>hd,Around.frames_deeper e0.frames,.inr ⟨rfl,rfl⟩,fun b z=>absurd z (noA b),e0.bs,e0.bsz,fun b _ _=>noA b,fun b z=>absurd z (noA b),e0.funs,e0.frf⟩,
  rfl,e0.bare,Un.kept hk,⟨_,x.toInCall.ns,fun i y v h1 h2 h3=>?_⟩,fun y c h=>⟨_,x.cell y c h⟩,e0.hok.fresh (Nat.le_refl _),fun y c h=>?_,fun p hp=>absurd (show p∈([]:Z3) from hp) (by simp),e0.hok.kept hk,?_⟩
 ·exact name_of_addr x.apart (PySem.mem_of_lookup h1) (PySem.mem_of_lookup h2)
 ·have hy:scope.names.lookup y=some .cell\/scope.names.lookup y=some .free:=hy
  rcases hy with hy | hy
  ·exact zjn hy
  ·exact absurd rfl (S.nofree _ (PySem.mem_of_lookup hy))
 ·exact Nat.le_of_lt (x.above y c (PySem.mem_of_lookup h))
 ·have hi:i<vs.length:=by
   unfold zeV at h2
   by_cases hi:i<vs.length
   ·exact hi
   ·rw [List.getElem?_append_right (by simpa using hi)] at h2;rw [List.getElem?_replicate] at h2
    split at h2<;>cases h2
  have ha:vs[i]?=some v:=by
   unfold zeV at h2;rw [List.getElem?_append_left (by simpa using hi),List.getElem?_map] at h2
   cases e:vs[i]? with
   | none=>rw [e] at h2;cases h2
   | some a=>rw [e] at h2;cases h2;rfl
  obtain ⟨u,hu,rv⟩:=r.get ha
  have hp:ps[i]?=some y:=by
   rw [<-S.pre,List.getElem?_take_of_lt (by omega)];exact h1
  have ndP:ps.Nodup:=by rw [<-S.pre];exact S.nd.sublist (List.take_sublist _ _)
  refine ⟨u,rv,?_⟩
  rcases S.par y (List.mem_of_getElem? hp) with k | k
  ·exact .inl ⟨k,zhH ndP hp hu k⟩
  ·obtain ⟨c,e⟩:=zjn (n:=s.heap.objs.size+1) k;refine .inr ⟨.inl k,c,e,?_⟩;have q:=x.cell y c e;rw [zhJ ndP hp hu (by show scope.names.lookup y≠_;rw [k];decide)] at q;exact q
 ·exact e0.hok.fresh (Nat.le_of_lt (x.above y c (PySem.mem_of_lookup h)))
 ·unfold zeV;show _=N.length;rw [List.length_append,List.length_map,List.length_replicate];omega
theorem zsL{CX:CXT}{P:Program}{w:World}{K:PySem.W.Frag}{mg:Z6}{base:Heap}{k:Nat}{f:Addr}{name qual:Str}{params:Arguments}{body:List Stmt}{scope:Scope}{dV kV doc pm cdv ct oc:Value}{an od:Option Addr}
  {osl:Array (Option Value)} {N ps:List Str} {sp:Sp} (lk:K.lookup f=some ⟨oc,od,.func (PySem.W.fnOf name qual params body scope dV kV doc pm an cdv ct),osl⟩) (hcd:PySem.W.codeIn K cdv qual=true) (S:FnScope N ps scope)
  (len:∀vs H Q E,sp vs H Q E->vs.length=ps.length)
  (hbody:∀(A:Around) (outer:List Env) (s:Shared) (H:Hp) (vs:List V) (Q:VK) (E:XK),Room k (A.deeper (envOfC qual scope s.heap.objs.size f cdv))->sp vs H Q E →
   ∃t,PSs (zlR CX P w K mg base N qual scope f cdv A outer s H E) body t/\t { nx:=fun _ H'=>Q .non H',rt:=Q } (zeV N vs) H) :
  FnOk P w K mg base CX (k+1) f (PySem.W.fnOf name qual params body scope dV kV doc pm an cdv ct) ps sp:=by
 refine ⟨len,fun A outer s H args us vs Q E hr e0 hb r hsp=>?_⟩;have hl:=len _ _ _ _ hsp;have KX:K.In s.heap:=e0.mod.kin.keeps fun b o e=>(e0.bs b o e).1
 have lim:s.heap.NoLimit:=e0.mod.nolimit.keeps fun b o e=>(e0.bs b o e).1
 have hkind:∀y∈ps.zip us,scope.names.lookup y.1=some .local\/(scope.names.lookup y.1=some .cell/\((cellsFrom (s.heap.objs.size+1) scope.names []).lookup y.1).isSome=true):=fun ⟨n,v⟩ hy=>by
  rcases S.par n (List.of_mem_zip hy).1 with q | q
  ·exact .inl q
  ·exact .inr ⟨q,PySem.W.cellsFrom_some _ _ _ (.inl q)⟩
 refine codeAny_call_function hr.depth (KX _ _ lk) rfl S.co S.gen rfl (PySem.W.codeRec_of KX hcd) (hb _ _ _ _ ?_);refine wpAny_newFunctionEnv_cells S.kind hkind fun env he s1 x=>?_
 subst he;refine ⟨lim.keeps x.toInCall.keep,codeAny_func ?_⟩;obtain ⟨t,ht,hq⟩:=hbody A outer s H vs Q E (hr.deeper _) hsp;have I:Inv (zlR CX P w K mg base N qual scope f cdv A outer s H E) [] (zeV N vs) H s1:=zlw S hr.hd e0 hl r x;refine wpAny_mono (ht [] s1 (zeV N vs) H _ I hq) (fun fl s' hs=>?_) fun e s' hs=>hs
 have fin:∀{σ':St} {H':Hp} {v:V} {u:Value},Inv (zlR CX P w K mg base N qual scope f cdv A outer s H E) [] σ' H' s'->zbx v u->Q v H'->CE outer P w H s Q u s' :=
  fun {σ' H' v u} J rv q=>⟨v,H',J.os,J.bare,J.base,J.hok,rv,q⟩
 cases fl with
 | ret u =>
  obtain ⟨v,σ',H',J,rv,q⟩:=hs;exact fin J rv q
 | next =>
  obtain ⟨σ',H',J,q⟩:=hs;exact fin (v:=V.non) (u:=Value.none) J rfl q
 | brk =>
  obtain ⟨_,_,_,q⟩:=hs;exact False.elim q
 | cont =>
  obtain ⟨_,_,_,q⟩:=hs;exact False.elim q
end L2
namespace L2
open PySem PySem.Spec PyProof.Rows
section
variable{X:Cx}{x:Str}{p pos:Pos}{e:Expr}{es:List Expr}{t:TA}{id T:String}{r:List V->Hp->VK->Prop}
def tCB(r:List V->Hp->VK->Prop)(t:TA):TE:=fun σ H Q=>t σ H fun vs H1=>r vs H1 Q
theorem zgx(hc:zez X (.builtin id) r)(hg:Gl X x)(hm:X.mg x=none)(hv:bootBuiltins x=some (.builtin id))(ha:PA X (e::es) t)(hn:x ≠ "__name__":=by decide)(hdb:(x == ("__debug__":Str))=false:=by decide)
  (he:starEach (e::es) X.env=(false,eval e X.env)::starEach es X.env:=by rfl) (hpl:(backTo pos (starEach es X.env)).any (·.1)=false:=by rfl):PE X (.Call (.Name x p) (e::es) [] pos) (tCB r t):=by
 intro pins s σ H Q I h;refine wpAny_Call_Name_kw (zd3 I hg hm hv ?_ hn hdb);exact PyProof.Rows.callWith_builtin1 (thn (ha pos pins s σ H _ I h) fun us s1 ⟨vs,H1,I1,r1,q1⟩=>hc pins s1 σ H1 vs us Q I1 r1 q1) he hpl
theorem zfa(hc:zez X (.type T) r)(hg:Gl X x)(hm:X.mg x=none)(hv:bootBuiltins x=some (.type T))(ha:PA X (e::es) t)(hn:x ≠ "__name__":=by decide)(hdb:(x == ("__debug__":Str))=false:=by decide)
  (he:starEach (e::es) X.env=(false,eval e X.env)::starEach es X.env:=by rfl) (hpl:(backTo pos (starEach es X.env)).any (·.1)=false:=by rfl):PE X (.Call (.Name x p) (e::es) [] pos) (tCB r t):=by
 intro pins s σ H Q I h;refine wpAny_Call_Name_kw (zd3 I hg hm hv ?_ hn hdb);exact PyProof.Rows.callWith_type1 (thn (ha pos pins s σ H _ I h) fun us s1 ⟨vs,H1,I1,r1,q1⟩=>hc pins s1 σ H1 vs us Q I1 r1 q1) he hpl
end
end L2
namespace HT
open PySem PyProof.Rows
section
open PySem.SeqAt
open PySem.AutoSeq1 (wpAny_loadPart')
open PySem.MeetsSeq PySem.MeetsSeq2 PySem.MeetsSeq3
end
section
variable{prog:Program}{w:World}{A:Around}{E:Z5}{s:Shared}
theorem zql{t b:Addr}{vs ws:List Value}{Q:Z5}(ht:IsTup s.heap t vs.toArray)(hb:IsTup s.heap b ws.toArray)(hv:vs≠[])
  (h1:ws=[]->Q (.ref t) s) (h2:ws≠[]->Q (.ref s.heap.objs.size) { s with heap:=s.heap.push { cls:=.type "tuple",data:=.seq (vs++ws).toArray } })
  (hsz:vs.length+ws.length<=sizeLine):wpAny (model prog w) A (binaryOp .Add (.ref t) (.ref b)) Q E s:=by
 obtain ⟨⟨cls,dd,data,sl⟩,ho,hc,n,hd⟩:=id ht;obtain ⟨⟨cls2,dd2,data2,sl2⟩,ho2,hc2,n2,hd2⟩:=id hb;simp only at hc hd hc2 hd2;subst hc hd hc2 hd2
 have e:vs.toArray++ws.toArray=(vs++ws).toArray:=by simp
 by_cases hw:ws=[]
 ·exact concat_meets ⟨_,ho,rfl⟩ ⟨_,ho2,rfl⟩ noFill_tuple_add seq_tuple_add PySem.F.slot_tuple_add PySem.F.entry_tuple_add (PySem.F.args_tuple_add_2 _ _)
   (tuple_addW1 t b vs.toArray ws.toArray n n2 dd dd2 sl sl2 (by simpa using hv) (by simp [hw])) ⟨ho,ho2,h1 hw⟩
 ·refine concat_meets ⟨_,ho,rfl⟩ ⟨_,ho2,rfl⟩ noFill_tuple_add seq_tuple_add PySem.F.slot_tuple_add PySem.F.entry_tuple_add (PySem.F.args_tuple_add_2 _ _)
   (tuple_addW2 t b vs.toArray ws.toArray n n2 dd dd2 sl sl2 (by simpa using hv) (by simpa using hw) (by rw [List.size_toArray,List.size_toArray];exact hsz)) ⟨ho,ho2,?_⟩
  rw [e];exact h2 hw
def sIx(n d:Nat):Option Int->Nat
 | none=>d
 | some v=>if v<0 then (v+(n:Int)).toNat else min v.toNat n
theorem zgp(n d k:Nat):sIx n d (some (k:Int))=min k n:=by
 show (if (k:Int)<0 then ((k:Int)+(n:Int)).toNat else min (k:Int).toNat n)=min k n;rw [if_neg (by omega),Int.toNat_natCast]
theorem zry(n d:Nat)(hd:d<=n)(o:Option Int):sIx n d o<=n:=by
 cases o with
 | none=>exact hd
 | some v =>
  show (if v<0 then (v+(n:Int)).toNat else min v.toNat n)<=n
  by_cases hv:v<0
  ·rw [if_pos hv];omega
  ·rw [if_neg hv];exact Nat.min_le_right _ _
theorem zl3(v:Int)(n d:Nat):(if v<0 then max (v+(n:Int)) 0 else min v (n:Int))=((sIx n d (some v):Nat):Int):=by
 show (if v<0 then max (v+(n:Int)) 0 else min v (n:Int))=(((if v<0 then (v+(n:Int)).toNat else min v.toNat n):Nat):Int)
 by_cases hv:v<0
 ·simp only [if_pos hv];omega
 ·simp only [if_neg hv];omega
theorem zj8(lo hi:Option Int)(n:Nat):Builtin.Slice.sliceAdjust lo hi 1 (n:Int)=(((sIx n 0 lo:Nat):Int),((sIx n n hi:Nat):Int)):=by
 have h1:¬ ((1:Int)<0):=by omega
 unfold Builtin.Slice.sliceAdjust;simp only [h1,if_false];refine Prod.ext ?_ ?_
 ·cases lo with
  | none=>rfl
  | some v=>exact zl3 v n 0
 ·cases hi with
  | none=>rfl
  | some v=>exact zl3 v n n
theorem zjI(i j:Nat):Builtin.Slice.slicePlaces (i:Int) (j:Int) 1=j-i:=by
 unfold Builtin.Slice.slicePlaces
 have h1:(1:Int) > 0:=by omega
 simp only [h1,if_true,Int.ediv_one]
 split<;>omega
theorem zfT{v:Value}{o:Option Int}{Q:Option Int->Shared->Prop}(p:IsPart v o)(h:Q o s):wpAny (model prog w) A (Builtin.Slice.slicePartIndex v) Q E s:=by
 cases p with
 | none=>exact slicePart_none h
 | int i t=>exact slicePart_int h
theorem zc2{sl:Addr}{vl vu:Value}{lo hi:Option Int}{n:Nat}{Q:Int×Int×Nat->Shared->Prop}(hs:s.heap.IsSliceOf sl vl vu .none)(pl:IsPart vl lo)(pu:IsPart vu hi)
  (h:Q (((sIx n 0 lo:Nat):Int),1,sIx n n hi-sIx n 0 lo) s):wpAny (model prog w) A (Builtin.Slice.sliceApplied (.ref sl) (pure (n:Int))) Q E s:=by
 obtain ⟨os,hos,hcs,hds⟩:=id hs;unfold Builtin.Slice.sliceApplied Builtin.Slice.sliceFields;refine wpAny_bind (wpAny_bind (wpAny_field hos hds (x:=vl) rfl (wpAny_bind (wpAny_field hos hds (x:=vu) rfl (wpAny_bind (wpAny_field hos hds (x:=.none) rfl (wpAny_pure ?_)))))));refine wpAny_bind (slicePart_none ?_);show wpAny _ _ (if ((1:Int) == 0)=true then _ else _) _ _ s;rw [if_neg (by decide)];refine wpAny_bind (zfT pl (wpAny_bind (zfT pu (wpAny_bind (wpAny_pure ?_)))));show wpAny _ _ (match Builtin.Slice.sliceAdjust lo hi 1 (n:Int) with | (lo,hi)=>pure (lo,(1:Int),Builtin.Slice.slicePlaces lo hi 1)) _ _ s;rw [zj8 lo hi n];show wpAny _ _ (pure (((sIx n 0 lo:Nat):Int),(1:Int),Builtin.Slice.slicePlaces ((sIx n 0 lo:Nat):Int) ((sIx n n hi:Nat):Int) 1)) _ _ s;rw [zjI];exact wpAny_pure h
theorem zmL(xs:Array Value)(i k:Nat):((List.range k).filterMap fun (m:Nat)=>xs[((i:Int)+(m:Int)*1).toNat]?).toArray=((xs.toList.drop i).take k).toArray:=by
 have e:(fun (m:Nat)=>xs[((i:Int)+(m:Int)*1).toNat]?)=fun m=>xs[i+m]?:=by
  funext m
  have:((i:Int)+(m:Int)*1).toNat=i+m:=by omega
  rw [this]
 rw [e];have:=pick_run xs i k;rw [List.filterMap_map] at this;have e2:((fun x=>xs[x]?)∘fun x=>i+x)=fun m=>xs[i+m]?:=rfl
 rw [e2] at this;rw [this]
theorem zep{t sl:Addr}{items:Array Value}{vl vu:Value}{lo hi:Option Int}{Q:Z5}(ht:IsTup s.heap t items)(hs:s.heap.IsSliceOf sl vl vu .none)(pl:IsPart vl lo)(pu:IsPart vu hi)
  (hw:¬ (sIx items.size 0 lo=0/\sIx items.size items.size hi=items.size))
  (h:Q (.ref s.heap.objs.size) { s with heap:=s.heap.push { cls:=.type "tuple",data:=.seq ((items.toList.drop (sIx items.size 0 lo)).take (sIx items.size items.size hi-sIx items.size 0 lo)).toArray } })
  (hsz:items.size<=sizeLine):wpAny (model prog w) A (getItem (.ref t) (.ref sl)) Q E s:=by
 have htake:sizeOk (.seq ((items.toList.drop (sIx items.size 0 lo)).take (sIx items.size items.size hi-sIx items.size 0 lo)).toArray):=by
  show ((items.toList.drop (sIx items.size 0 lo)).take (sIx items.size items.size hi-sIx items.size 0 lo)).toArray.size<=sizeLine;rw [List.size_toArray,List.length_take,List.length_drop,Array.length_toList];omega
 have hj:sIx items.size items.size hi<=items.size:=zry _ _ (Nat.le_refl _) hi;obtain ⟨os,hos,hcs,hds⟩:=id hs;have hTs:s.TypeIs (.ref sl) "slice":=⟨os,hos,hcs⟩;unfold getItem
 try with_reducible refine wpAny_holding ?_
 first | refine wpAny_bind (wpAny_pure ?_) | skip
 refine wpAny_bind (wpAny_sequenceKey ht.typeIs (by decide) ?_)
 refine wpAny_bind (wpAny_callSpecial?_slot (name:=Str.ofString "__getitem__") ht.typeIs PyProof.Rows.slot_tuple_getitem
  (wpAny_call_entry PyProof.Rows.slot_tuple_getitem ht.typeIs entry_tuple_getitem ?_ (args_tuple_getitem _ _)))
 show wpAny _ _ (Builtin.Tuple.tupleItemsOf (.ref t) >>= _) _ _ s;refine wpAny_bind (tupleItemsOf_ ht ?_);refine wpAny_bind (wpAny_typeOf hTs ?_);rw [if_pos (by decide)];refine wpAny_bind (zc2 hs pl pu ?_)
 have hno:¬ ((((sIx items.size 0 lo:Nat):Int) == 0&&(1:Int) == 1&&(sIx items.size items.size hi-sIx items.size 0 lo) == items.size)=true):=by
  intro q;rw [Bool.and_eq_true,Bool.and_eq_true] at q;have q1:((sIx items.size 0 lo:Nat):Int)=0:=eq_of_beq q.1.1;have q2:sIx items.size items.size hi-sIx items.size 0 lo=items.size:=eq_of_beq q.2;exact hw ⟨by omega,by omega⟩
 show wpAny _ _ (if (((sIx items.size 0 lo:Nat):Int) == 0&&(1:Int) == 1&&(sIx items.size items.size hi-sIx items.size 0 lo) == items.size)=true then _ else _) _ _ s;rw [if_neg hno,zmL]
 first
  | exact wpAny_bind (m:=Builtin.Tuple.tupleExact _) (wpAny_newObj_type (wpAny_pure ⟨_,rfl,wpAny_pure h⟩) htake)
  | exact wpAny_bind (m:=Builtin.Tuple.tupleExact _) (wpAny_newObj_type (wpAny_bind (wpAny_pure (wpAny_pure ⟨_,rfl,wpAny_pure h⟩))) htake)
  | exact wpAny_bind (wpAny_bind (m:=Builtin.Tuple.tupleExact _) (wpAny_newObj_type (wpAny_pure (wpAny_pure ⟨_,rfl,wpAny_pure h⟩)) htake))
  | exact wpAny_bind (wpAny_bind (m:=Builtin.Tuple.tupleExact _) (wpAny_newObj_type (wpAny_pure ⟨_,rfl,wpAny_pure h⟩) htake))
end
end HT
namespace L2
open PySem PySem.Spec PyProof.Rows
abbrev TO:=St->Hp->(Option Int->Hp->Prop)->Prop
def PO(X:Cx)(e:Option Expr)(t:TO):Prop :=
 ∀(pins:Z3) (s:Shared) (σ:St) (H:Hp) (Q:Option Int->Hp->Prop),Inv X pins σ H s->t σ H Q →
  wpAny (model X.prog X.w) X.A (evalPart e X.env) (fun u s'=>∃o H',Inv X pins σ H' s'/\IsPart u o/\Q o H') X.xe s
def zku:TO:=fun _ H Q=>Q none H
def zqU(t:TE):TO:=fun σ H Q=>t σ H fun x H1=>∃i,x=.int i/\Q (some i) H1
section
variable{X:Cx}{e:Expr}{te:TE}{lo hi:Option Expr}{tl th:TO}{pos p2:Pos}
theorem zpl:PO X none zku:=by
 intro pins s σ H Q I h;rw [evalPart_none];exact wpAny_pure ⟨none,H,I,.none,h⟩
theorem zpk(h:PE X e te):PO X (some e) (zqU te):=by
 intro pins s σ H Q I hw;rw [evalPart_some];refine thn (h pins s σ H _ I hw) fun u s1 ⟨x,H1,I1,r1,q1⟩=>?_
 obtain ⟨i,rfl,q⟩:=q1;obtain ⟨t,rfl⟩:=r1;exact ⟨some i,H1,I1,.int i t,q⟩
def SlR(X:Cx)(r:V->Option Int->Option Int->Hp->VK->Prop):Prop :=
 ∀(pins:Z3) (s:Shared) (σ:St) (H:Hp) (x:V) (v vl vu:Value) (lo hi:Option Int) (sl:Addr) (Q:VK),Inv X pins σ H s->zbx x v->s.heap.IsSliceOf sl vl vu .none->IsPart vl lo->IsPart vu hi->r x lo hi H Q →
  ∃T id,typeLookup (.type T) "__getitem__" = pure (some (.builtin id))/\s.TypeIs v T/\wpAny (model X.prog X.w) X.A (getItem v (.ref sl)) (EP X pins σ Q) X.xe s
def tSl(r:V->Option Int->Option Int->Hp->VK->Prop)(te:TE)(tl th:TO):TE:=fun σ H Q=>te σ H fun x H1=>tl σ H1 fun l H2=>th σ H2 fun u H3=>r x l u H3 Q
theorem zmP{r:V->Option Int->Option Int->Hp->VK->Prop}(hr:SlR X r)(he:PE X e te)(hl:PO X lo tl)(hu:PO X hi th):PE X (.Subscript e (.Slice lo hi none p2) pos) (tSl r te tl th):=by
 intro pins s σ H Q I h;refine Subscript_ (thn (he pins s σ H _ I h) fun v s1 ⟨x,H1,I1,r1,q1⟩=>?_);refine wpAny_Slice (thn (hl pins s1 σ H1 _ I1 q1) fun vl s2 ⟨l,H2,I2,pl,q2⟩=>thn (hu pins s2 σ H2 _ I2 q2) fun vu s3 ⟨u,H3,I3,pu,q3⟩=>?_);rw [evalPart_none];refine wpAny_pure ?_;have I4:Inv X pins σ H3 { s3 with heap:=s3.heap.push { cls:=.type "slice",data:=.fields #[vl,vu,.none] } }:=I3.kept (t':=s3.toks) fun b ob q=>Heap.get?_push_of_some _ q
 obtain ⟨T,id,hT,ht,hg⟩:=hr pins { s3 with heap:=s3.heap.push { cls:=.type "slice",data:=.fields #[vl,vu,.none] } } σ H3 x v vl vu l u s3.heap.objs.size Q I4 r1 (Heap.IsSliceOf.new ..) pl pu q3;show wpAny (model X.prog X.w) X.A (subscriptTail e (.Slice lo hi none p2) v (.ref s3.heap.objs.size)) (EP X pins σ Q) X.xe { s3 with heap:=s3.heap.push { cls:=.type "slice",data:=.fields #[vl,vu,.none] } };exact tail_any (ops:=[.ref s3.heap.objs.size,v]) ht hT hg (by with_unfolding_all rfl)
def zos(xs:List V)(lo hi:Option Int):List V:=(xs.drop (HT.sIx xs.length 0 lo)).take (HT.sIx xs.length xs.length hi-HT.sIx xs.length 0 lo)
theorem zfC(xs:List V)(lo hi:Option Int):(zos xs lo hi).length<=xs.length:=by
 unfold zos;rw [List.length_take,List.length_drop];omega
def zyh(K:PySem.W.Frag):V->Option Int->Option Int->Hp->VK->Prop:=fun x lo hi H Q=>∃a xs,x=.ref a/\SqT K H a xs ∧
 ¬ (HT.sIx xs.length 0 lo=0/\HT.sIx xs.length xs.length hi=xs.length)/\∀p,H p=none->Q (.ref p) (upd H p (.tup (zos xs lo hi)))
theorem zrf:SlR X (zyh X.K):=by
 intro pins s σ H x v vl vu lo hi sl Q I rx hs pl pu h;obtain ⟨a,xs,rfl,hx,hw,q⟩:=h;cases rx;obtain ⟨its,r,ht,hz⟩:=I.tuple hx
 have hlen:its.toArray.size=xs.length:=by rw [List.size_toArray];exact r.length.symm
 refine ⟨"tuple",_,PyProof.Rows.slot_tuple_getitem.lookup,ht.typeIs,?_⟩;refine HT.zep ht hs pl pu (by rw [hlen];exact hw) ?_ (by rw [hlen];exact hz);rw [hlen];refine ⟨.ref s.heap.objs.size,_,I.laid (t':=s.toks) (o:=.tup (zos xs lo hi)) (fun b ob q=>Heap.get?_push_of_some _ q) (Nat.le_refl _) ?_,rfl,q _ (I.hok.fresh (Nat.le_refl _))⟩;exact ⟨Nat.le_trans (zfC xs lo hi) hz,_,(r.drop (HT.sIx xs.length 0 lo)).take (HT.sIx xs.length xs.length hi-HT.sIx xs.length 0 lo),IsTup.new _ _⟩
def zuu(K:PySem.W.Frag):R2:=fun x y H Q=>∃a b xs ys,x=.ref a/\y=.ref b/\SqT K H a xs/\SqT K H b ys/\xs≠[]/\xs.length+ys.length<=sizeLine ∧
 (ys=[]->Q (.ref a) H)/\(ys≠[]->∀p,H p=none->Q (.ref p) (upd H p (.tup (xs++ys))))
theorem Vals.nil_iff{xs:List V}{us:List Value}(r:Vals xs us):us=[]↔xs=[]:=by
 cases r with
 | nil=>simp
 | cons _ _=>simp
theorem zpw:OpR X (binaryOp .Add) (zuu X.K):=by
 intro pins s σ H x y v u Q I rx ry h;obtain ⟨a,b,xs,ys,rfl,rfl,ha,hb,hx,hz,q1,q2⟩:=h;cases rx;cases ry;obtain ⟨its,r1,p1,_⟩:=I.tuple ha;obtain ⟨its2,r2,p2,_⟩:=I.tuple hb;refine HT.zql p1 p2 (fun z=>hx (r1.nil_iff.mp z)) (fun z=>⟨.ref a,H,I,rfl,q1 (r2.nil_iff.mp z)⟩) (fun z=>?_) (by rw [<-r1.length,<-r2.length];exact hz);refine ⟨.ref s.heap.objs.size,_,I.laid (t':=s.toks) (o:=.tup (xs++ys)) (fun b ob q=>Heap.get?_push_of_some _ q) (Nat.le_refl _) ?_,rfl,q2 (fun w=>z (r2.nil_iff.mpr w)) _ (I.hok.fresh (Nat.le_refl _))⟩;exact ⟨by rw [List.length_append];exact hz,_,r1.append r2,IsTup.new _ _⟩
end
end L2
namespace L2
open PySem PySem.Spec PyProof.Rows
def ixN(n:Nat)(i:Int):Option Nat:=if 0<=i then (if i<n then some i.toNat else none) else if -(n:Int)<=i then some (i+n).toNat else none
def atI{α:Type}(xs:List α)(i:Int):Option α:=(ixN xs.length i).bind fun j=>xs[j]?
theorem zh9{n:Nat}{i:Int}{j:Nat}(h:ixN n i=some j):seqIndex? i n=some j/\j<n/\-(n:Int)<=i/\i<n:=by
 unfold ixN at h
 by_cases h0:0<=i
 ·rw [if_pos h0] at h
  by_cases h1:i<n
  ·rw [if_pos h1] at h;have e:i.toNat=j:=Option.some.inj h;exact ⟨by rw [seqIndex_of h0 h1,e],by omega,by omega,h1⟩
  ·rw [if_neg h1] at h;cases h
 ·rw [if_neg h0] at h
  by_cases h1:-(n:Int)<=i
  ·rw [if_pos h1] at h;have e:(i+n).toNat=j:=Option.some.inj h;exact ⟨by rw [seqIndex_neg (by omega) h1,e],by omega,h1,by omega⟩
  ·rw [if_neg h1] at h;cases h
theorem zma{α:Type}{xs:List α}{i:Int}{v:α}(h:atI xs i=some v):∃j,seqIndex? i xs.length=some j/\xs[j]?=some v/\j<xs.length/\-(xs.length:Int)<=i/\i<xs.length:=by
 unfold atI at h
 cases e:ixN xs.length i with
 | none=>rw [e] at h;cases h
 | some j =>
  rw [e] at h;obtain ⟨h1,h2,h3,h4⟩:=zh9 e;exact ⟨j,h1,h,h2,h3,h4⟩
theorem zjr{α:Type}(xs:List α)(v:α):atI (xs++[v]) (-1)=some v:=by
 have hl:(xs++[v]).length=xs.length+1:=by simp
 have e:ixN (xs++[v]).length (-1)=some xs.length:=by
  unfold ixN;rw [hl,if_neg (by decide),if_pos (by omega)];congr 1;omega
 unfold atI;rw [e];show (xs++[v])[xs.length]?=some v;simp
def zgP(b:Expr):Prop:=∀o i,subscripted b false o i=operate [o,i] (getItem o i)
def IxR(X:Cx)(r:R2):Prop :=
 ∀(value slice:Expr) (pins:Z3) (s:Shared) (σ:St) (H:Hp) (x y:V) (v u:Value) (Q:VK),Inv X pins σ H s->zbx x v->zbx y u->r x y H Q →
  subscripted slice false v u=operate [v,u] (getItem v u)->wpAny (model X.prog X.w) X.A (subscriptTail value slice v u) (EP X pins σ Q) X.xe s
def MtR(X:Cx)(id:String)(r:V->List V->Hp->VK->Prop):Prop :=
 ∀(pins:Z3) (s:Shared) (σ:St) (H:Hp) (x:V) (xs:List V) (v:Value) (us:List Value) (Q:VK),Inv X pins σ H s->zbx x v->Vals xs us->r x xs H Q →
  wpAny (model X.prog X.w) X.A (call (.builtin id) (v::us)) (EP X pins σ Q) X.xe s
section
variable{X:Cx}{a b:Expr}{ta tb:TE}{pos:Pos}
theorem zkX{r:R2}(hr:IxR X r)(ha:PE X a ta)(hb:PE X b tb)(hs:zgP b):PE X (.Subscript a b pos) (tOp r ta tb):=by
 intro pins s σ H Q I h;exact Subscript_ (zvj ha hb I h fun v u s2 x y H2 I2 rx ry q=>hr a b pins s2 σ H2 x y v u Q I2 rx ry q (hs _ _))
def zyl(K:PySem.W.Frag):R2:=fun x y H Q=>∃p xs i v,x=.ref p/\y=.int i/\SqL K H p xs/\atI xs i=some v/\Q v H
def zyk(K:PySem.W.Frag):R2:=fun x y H Q=>∃p xs i v,x=.ref p/\y=.int i/\SqT K H p xs/\atI xs i=some v/\Q v H
theorem zh8:IxR X (zyl X.K):=by
 intro value slice pins s σ H x y v u Q I rx ry h hs;obtain ⟨p,xs,i,z,rfl,rfl,hq,he,q⟩:=h;cases rx;obtain ⟨t,rfl⟩:=ry;obtain ⟨its,r,pl,hz⟩:=I.list hq;obtain ⟨j,h1,h2,h3,h4,h5⟩:=zma he;obtain ⟨w,ew,rw'⟩:=r.get h2;have hl:=r.length;have hn:=zho;have fin:EP X pins σ Q w s:=⟨z,H,I,rw',q⟩
 by_cases h0:0<=i
 ·have hj:i.toNat=j:=by
   rw [seqIndex_of h0 h5] at h1;exact Option.some.inj h1
  exact item_listR pl.isList h0 (by omega) (by rw [hj];simpa using ew) fin hs
 ·have hj:(i+(its.toArray.size:Int)).toNat=j:=by
   rw [seqIndex_neg (by omega) h4] at h1;rw [List.size_toArray,<-hl];exact Option.some.inj h1
  exact subscriptTail_builtinR (x:=w) pl.isList.typeIs slot_list_getitem.lookup
   (wpAny_getItem_list_neg (Q:=fun r s'=>r=w/\EP X pins σ Q r s') pl.isList (by omega) (by rw [List.size_toArray]<;>omega) (by omega) (by rw [hj];simpa using ew) ⟨rfl,fin⟩) hs
theorem zlp:IxR X (zyk X.K):=by
 intro value slice pins s σ H x y v u Q I rx ry h hs;obtain ⟨p,xs,i,z,rfl,rfl,hq,he,q⟩:=h;cases rx;obtain ⟨t,rfl⟩:=ry;obtain ⟨its,r,pl,hz⟩:=I.tuple hq;obtain ⟨j,h1,h2,h3,h4,h5⟩:=zma he;obtain ⟨w,ew,rw'⟩:=r.get h2;have hl:=r.length;have hn:=zho;have fin:EP X pins σ Q w s:=⟨z,H,I,rw',q⟩
 exact subscriptTail_builtinR (x:=w) pl.typeIs slot_tuple_getitem.lookup
  (getItem_tuple (j:=j) (Q:=fun r s'=>r=w/\EP X pins σ Q r s') pl (by omega) (by omega) (by rw [List.size_toArray,<-hl];exact h1) (by simpa using ew) ⟨rfl,fin⟩) hs
theorem zjN(its:List Value)(n j:Nat)(u:Value):Obj.mapSeq (·.setIfInBounds j u) { cls:=.type "list",data:=.seq its.toArray n }={ cls:=.type "list",data:=.seq (its.set j u).toArray n }:=by
 simp [Obj.mapSeq]
theorem Inv.lst{pins:Z3}{σ:St}{H:Hp}{s:Shared}{p:Addr}{xs:List V}(I:Inv X pins σ H s)(h:H p=some (.lst xs)) :
  ∃(its:List Value) (n:Nat),Vals xs its/\s.heap.get? p=some { cls:=.type "list",data:=.seq its.toArray n }/\xs.length<=sizeLine:=by
 obtain ⟨z,its,n,r,e⟩:=I.hok p _ h;exact ⟨its,n,r,e,z⟩
theorem Inv.lstUpd{pins:Z3}{σ:St}{H:Hp}{s:Shared}{p:Addr}{xs ys:List V}{its its':List Value}{n n':Nat}{f:Obj->Obj}(I:Inv X pins σ H s)(h:H p=some (.lst xs))
  (ho:s.heap.get? p=some { cls:=.type "list",data:=.seq its.toArray n }) (hf:f { cls:=.type "list",data:=.seq its.toArray n }={ cls:=.type "list",data:=.seq its'.toArray n' }) (r:Vals ys its') (hz:ys.length<=sizeLine) (t:Nat) :
  Inv X pins σ (upd H p (.lst ys)) { s with heap:=s.heap.update p f,toks:=t }:=by
 have e:(s.heap.update p f).get? p=some { cls:=.type "list",data:=.seq its'.toArray n' }:=by
  rw [Heap.get?_update_self f ho (by rw [hf]<;>rfl),hf]
 refine I.write (x:=p) (e:=p) (by rw [h];trivial) (.inl rfl) (fun b u hb q=>(Heap.get?_update_other _ _ (Ne.symm hb)).trans q) ⟨_,e⟩ ?_;exact ⟨hz,its',n',r,e⟩
def zut:V->V->V->Hp->(Hp->Prop)->Prop:=fun o i v H Q=>∃p xs k j,o=.ref p/\i=.int k/\H p=some (.lst xs)/\ixN xs.length k=some j/\Q (upd H p (.lst (xs.set j v)))
theorem zmu:zvw X zut:=by
 intro pins s σ H o i v ov iv u Q I ro ri rv h;obtain ⟨p,xs,k,j,rfl,rfl,hp,hj,q⟩:=h;cases ro;obtain ⟨t,rfl⟩:=ri;obtain ⟨its,n,r,ho,hz⟩:=I.lst hp;obtain ⟨h1,h2,h3,h4⟩:=zh9 hj;have hl:=r.length;have hn:=zho
 have I':Inv X pins σ (upd H p (.lst (xs.set j v))) { s with heap:=s.heap.update p (Obj.mapSeq (·.setIfInBounds j u)) } :=
  I.lstUpd hp ho (zjN its n j u) (r.set rv j) (by rw [List.length_set];exact hz) s.toks
 by_cases h0:0<=k
 ·have hk:k.toNat=j:=by
   rw [seqIndex_of h0 h4] at h1;exact Option.some.inj h1
  exact PySem.W.ki_setAt ho h0 (by omega) (by rw [List.size_toArray,<-hl];exact h4) (by rw [hk];exact ⟨_,I',q⟩)
 ·have hk:(k+(its.toArray.size:Int)).toNat=j:=by
   rw [seqIndex_neg (by omega) h3] at h1;rw [List.size_toArray,<-hl];exact Option.some.inj h1
  exact PySem.W.ki_setBack ho (by omega) (by rw [List.size_toArray,<-hl];exact h3) (by omega) (by rw [hk];exact ⟨_,I',q⟩)
theorem zg2(lo hi:Option Int)(n:Nat):(sliceBounds lo hi none n).1=((HT.sIx n 0 lo:Nat):Int)/\(sliceBounds lo hi none n).2.1=((HT.sIx n n hi:Nat):Int)/\(sliceBounds lo hi none n).2.2=1:=by
 refine ⟨?_,?_,rfl⟩
 ·cases lo with
  | none=>simp [sliceBounds,HT.sIx]
  | some i =>
   simp only [sliceBounds,HT.sIx,Option.getD_none,show (1:Int) > 0 by decide,if_true]
   by_cases h:i<0
   ·simp only [h,if_true]<;>omega
   ·simp only [h,if_false]<;>omega
 ·cases hi with
  | none=>simp [sliceBounds,HT.sIx]
  | some i =>
   simp only [sliceBounds,HT.sIx,Option.getD_none,show (1:Int) > 0 by decide,if_true]
   by_cases h:i<0
   ·simp only [h,if_true]<;>omega
   ·simp only [h,if_false]<;>omega
theorem zgn(its:List Value)(lo hi:Option Int):slicePick its.toArray lo hi none=((its.drop (HT.sIx its.length 0 lo)).take (HT.sIx its.length its.length hi-HT.sIx its.length 0 lo)).toArray:=by
 obtain ⟨h1,h2,h3⟩:=zg2 lo hi its.toArray.size;unfold slicePick;rw [h1,h2,h3]
 simp only [sliceRange_one,pick_run,List.size_toArray]<;>rfl
def zyi(K:PySem.W.Frag):V->Option Int->Option Int->Hp->VK->Prop:=fun x lo hi H Q=>∃a xs,x=.ref a/\SqL K H a xs/\∀p,H p=none->Q (.ref p) (upd H p (.lst (zos xs lo hi)))
theorem zoV:SlR X (zyi X.K):=by
 intro pins s σ H x v vl vu lo hi sl Q I rx hs pl pu h;obtain ⟨a,xs,rfl,hx,q⟩:=h;cases rx;obtain ⟨its,r,ht,hz⟩:=I.list hx;have hlen:=r.length;refine ⟨"list",_,slot_list_getitem.lookup,ht.isList.typeIs,?_⟩;refine wpAny_getItem_list_slice ht.isList hs pl pu .none (by simp) ?_ (by rw [List.size_toArray]<;>omega);rw [zgn,<-hlen];refine ⟨.ref s.heap.objs.size,_,I.laid (t':=s.toks) (o:=.lst (zos xs lo hi)) (fun b ob q=>Heap.get?_push_of_some _ q) (Nat.le_refl _) ?_,rfl,q _ (I.hok.fresh (Nat.le_refl _))⟩;exact ⟨Nat.le_trans (zfC xs lo hi) hz,_,0,(r.drop (HT.sIx xs.length 0 lo)).take (HT.sIx xs.length xs.length hi-HT.sIx xs.length 0 lo),Heap.get?_push_size _ rfl⟩
theorem zdm:zez X (.builtin "len") (fun xs H Q=>∃p ys,xs=[.ref p]/\(SqL X.K H p ys\/SqT X.K H p ys)/\Q (.int ys.length) H):=by
 intro pins s σ H xs us Q I r h;obtain ⟨p,ys,rfl,hq,q⟩:=h;obtain ⟨u,rfl,rx⟩:=zhN r;cases rx;have hn:=zho
 rcases hq with hq | hq
 ·obtain ⟨its,r',pl,hz⟩:=I.list hq;have hlen:=r'.length;exact Calls.call_len_list pl.isList (by simp only [List.size_toArray]<;>omega) ⟨.int ys.length,H,I.tok _,⟨s.toks+1,by rw [List.size_toArray,hlen]⟩,q⟩
 ·obtain ⟨its,r',pl,hz⟩:=I.tuple hq;have hlen:=r'.length;exact len_tuple pl (by simp only [List.size_toArray]<;>omega) ⟨.int ys.length,H,I.tok _,⟨s.toks+1,by rw [List.size_toArray,hlen]⟩,q⟩
theorem zhC:zez X (.builtin "len") (fun xs H Q=>∃z,xs=[.str z]/\z.length<=sizeLine/\Q (.int z.length) H):=by
 intro pins s σ H xs us Q I r h;obtain ⟨z,rfl,hz,q⟩:=h;obtain ⟨u,rfl,t,rfl⟩:=zhN r;have hn:=zho;exact len_str (by omega) ⟨.int z.length,H,I.tok _,⟨_,rfl⟩,q⟩
theorem zeI:zez X (.type "list") (fun xs H Q=>∃p ys,xs=[.ref p]/\(SqL X.K H p ys\/SqT X.K H p ys)/\∀l,H l=none->Q (.ref l) (upd H l (.lst ys))):=by
 intro pins s σ H xs us Q I r h;obtain ⟨p,ys,rfl,hq,q⟩:=h;obtain ⟨u,rfl,rx⟩:=zhN r;cases rx
 have fin:∀(its:List Value),Vals ys its->ys.length<=sizeLine->∀(h':Heap) (c':Nat),(∀b o',s.heap.get? b=some o'->h'.get? b=some o') →
   h'.get? s.heap.objs.size=some { cls:=.type "list",dict:=none,data:=.seq its.toArray c',slots:=#[] }->EP X pins σ Q (.ref s.heap.objs.size) { s with heap:=h' }:=fun its r' hz h' c' kp e =>
  ⟨.ref s.heap.objs.size,_,I.laid (t':=s.toks) kp (Nat.le_refl _) (show zbQ X.prog X.w _ h' _ (.lst ys) from ⟨hz,its,c',r',e⟩),rfl,q _ (I.hok.fresh (Nat.le_refl _))⟩
 rcases hq with hq | hq
 ·obtain ⟨its,r',pl,hz⟩:=I.list hq;have hlen:=r'.length;obtain ⟨o,ho,hc,n,hd⟩:=pl.isList;exact call_list_seq p (.inl rfl) ho hc hd (fun h' c' kp e=>fin its r' hz h' c' kp e) (by simp only [List.size_toArray]<;>omega)
 ·obtain ⟨its,r',pl,hz⟩:=I.tuple hq;have hlen:=r'.length;obtain ⟨o,ho,hc,n,hd⟩:=pl;exact call_list_seq p (.inr rfl) ho hc hd (fun h' c' kp e=>fin its r' hz h' c' kp e) (by simp only [List.size_toArray]<;>omega)
theorem zee:zez X (.type "tuple") (fun xs H Q=>∃p ys,xs=[.ref p]/\((SqL X.K H p ys/\∀l,H l=none->Q (.ref l) (upd H l (.tup ys)))\/(SqT X.K H p ys/\Q (.ref p) H))):=by
 intro pins s σ H xs us Q I r h;obtain ⟨p,ys,rfl,h⟩:=h;obtain ⟨u,rfl,rx⟩:=zhN r;cases rx
 rcases h with ⟨hq,q⟩ | ⟨hq,q⟩
 ·obtain ⟨its,r',pl,hz⟩:=I.list hq;have hlen:=r'.length;refine call_tuple_list pl.isList (fun h' kp=>?_) (by simp only [List.size_toArray]<;>omega);have I1:Inv X pins σ H { s with heap:=h' }:=I.kept (t':=s.toks) kp
  have I2:Inv X pins σ (upd H h'.objs.size (.tup ys)) { s with heap:=h'.push { cls:=.type "tuple",data:=.seq its.toArray } } :=
   I1.laid (t':=s.toks) (fun b o e=>Heap.get?_push_of_some _ e) (Nat.le_refl _) (show zbQ X.prog X.w _ _ _ (.tup ys) from ⟨hz,its,r',IsTup.new _ _⟩)
  exact ⟨.ref h'.objs.size,_,I2,rfl,q _ (I1.hok.fresh (Nat.le_refl _))⟩
 ·obtain ⟨its,r',pl,hz⟩:=I.tuple hq;exact call_tuple_same pl ⟨.ref p,H,I,rfl,q⟩
def tyV(K:PySem.W.Frag)(T:String)(x:V)(H:Hp):Prop:=match x with
 | .str _=>T = "str"
 | .int _=>T = "int"
 | .ref p=>(T = "list" /\ ∃xs,SqL K H p xs)\/(T = "tuple" /\ ∃o,K.lookup p=some o/\o.cls=.type "tuple" /\ o.dict=none) ∨
   (T = "dict" /\ ((∃kvs,H p=some (.dK kvs))\/∃kvs,H p=some (.dT kvs)))\/(T = "set" /\ ∃S n,H p=some (.set S n))
 | _=>False
theorem zqM{pins:Z3}{σ:St}{H:Hp}{s:Shared}{T:String}{x:V}{v:Value}(I:Inv X pins σ H s)(r:zbx x v)(ty:tyV X.K T x H) :
  s.TypeIs v T/\∀a,v=.ref a->∃ob,s.heap.get? a=some ob/\ob.dict=none:=by
 cases x with
 | str z =>
  obtain ⟨t,rfl⟩:=r;cases (show T = "str" from ty);exact ⟨typeIs_str s z t,fun _ e=>nomatch e⟩
 | int i =>
  obtain ⟨t,rfl⟩:=r;cases (show T = "int" from ty);exact ⟨typeIs_int s i t,fun _ e=>nomatch e⟩
 | ref p =>
  cases r
  rcases ty with ⟨rfl,xs,hq⟩ | ⟨rfl,o,hk,hc,hd⟩ | ⟨rfl,hk⟩ | ⟨rfl,S,n,hk⟩
  ·obtain ⟨its,_,pl,_⟩:=I.list hq;refine ⟨pl.isList.typeIs,fun a e=>?_⟩;cases e;obtain ⟨o,n,e,c,hd,_⟩:=pl;exact ⟨o,e,hd⟩
  ·refine ⟨⟨o,I.kIn p o hk,hc⟩,fun a e=>?_⟩;cases e;exact ⟨o,I.kIn _ o hk,hd⟩
  ·have z:∃o,s.heap.get? p=some o/\o.ExactDict:=by
    rcases hk with ⟨kvs,hk⟩ | ⟨kvs,hk⟩
    ·obtain ⟨_,_,_,_,o,_,_,e,ex,_⟩:=I.hok p _ hk;exact ⟨o,e,ex⟩
    ·obtain ⟨_,_,_,_,o,_,_,e,ex,_⟩:=I.hok p _ hk;exact ⟨o,e,ex⟩
   obtain ⟨o,e,ex⟩:=z;refine ⟨⟨o,e,ex.1⟩,fun a e2=>?_⟩;cases e2;exact ⟨o,e,ex.2.1⟩
  ·obtain ⟨o,_,_,_,e,ex,_⟩:=I.hok p _ hk;refine ⟨⟨o,e,ex.1⟩,fun a e2=>?_⟩;cases e2;exact ⟨o,e,ex.2.1⟩
 | _=>exact False.elim ty
def tBM(K:PySem.W.Frag)(T:String)(r:V->List V->Hp->VK->Prop)(to:TE)(t:TA):TE:=fun σ H Q=>to σ H fun x H1=>tyV K T x H1/\t σ H1 fun xs H2=>r x xs H2 Q
variable{o e:Expr}{es:List Expr}{to:TE}{t:TA}{name:Str}{apos cpos:Pos}{T id:String}{r:V->List V->Hp->VK->Prop}
theorem zps(pa:PlainAttrs T)(slot:Slot T name id)(hty:typeOf (.builtin id)=pure (.type "method_descriptor"))(hm:MtR X id r)(ho:PE X o to)(ha:PA X (e::es) t)
  (hbase:attributeBase o name X.env (eval o X.env)=eval o X.env:=by rfl)
  (hfew:((backTo cpos (starEach (e::es) X.env)).all (fun x=>!x.1)&&(backToKw cpos (keywordEach [] X.env)).all (fun x=>x.1.isSome)
   && decide ((e::es).length+([]:List Keyword).length+(if ([]:List Keyword).isEmpty then 0 else 1)<30))=true:=by rfl)
  (hline:(apos.endLine == cpos.line)=true:=by rfl) (hs:starEach (e::es) X.env=(false,eval e X.env)::starEach es X.env:=by rfl) (hplain:(backTo cpos (starEach es X.env)).any (·.1)=false:=by rfl) :
  PE X (.Call (.Attribute o name apos) (e::es) [] cpos) (tBM X.K T r to t):=by
 intro pins s σ H Q I h;refine wpAny_Call_method_late hbase hfew hline rfl (thn (ho pins s σ H _ I h) fun v s1 ⟨x,H1,I1,r1,ty,q1⟩=>?_);obtain ⟨h1,h2⟩:=zqM I1 r1 ty;refine ⟨T,id,pa,slot,hty,h1,h2,?_⟩;have hA:=ha cpos pins s1 σ H1 _ I1 q1;rw [hs] at hA ⊢;refine Calls.callWith_builtin (by show (false||(backTo cpos (starEach es X.env)).any (·.1))=false;rw [hplain]<;>rfl) (Calls.evalArgs_plain ?_);exact thn hA fun us s2 ⟨vs,H2,I2,r2,q2⟩=>hm pins s2 σ H2 x vs v us Q I2 r1 r2 q2
end
end L2
namespace L2
open PySem PySem.Spec PyProof.Rows
def MtM(X:Cx)(id:String)(r:V->List V->Hp->VK->Prop):Prop :=
 ∀(pins:Z3) (s:Shared) (σ:St) (H:Hp) (x:V) (xs:List V) (v:Value) (us:List Value) (Q:VK),Inv X pins σ H s->zbx x v->Vals xs us->r x xs H Q →
  wpAny (model X.prog X.w) X.A (call (.builtin id) (v::us)) (EP X pins σ Q) X.xe s
theorem Vals.one:∀{x:V} {us:List Value},Vals [x] us->∃u,us=[u]/\zbx x u
 | _,_,.cons r .nil=>⟨_,rfl,r⟩
theorem Vals.rep{xs:List V}{us:List Value}(h:Vals xs us):∀k:Nat,Vals (List.replicate k xs).flatten (List.replicate k us).flatten
 | 0=>.nil
 | k+1=>by
  rw [List.replicate_succ,List.replicate_succ,List.flatten_cons,List.flatten_cons];exact Vals.append h (Vals.rep h k)
theorem zfs(its:List Value):∀(k:Nat) (acc:List Value),
  List.foldl (fun x1 x2=>x1++x2) acc.toArray (List.replicate k its.toArray)=(acc++(List.replicate k its).flatten).toArray
 | 0,acc=>by simp
 | k+1,acc=>by
  have e:acc.toArray++its.toArray=(acc++its).toArray:=by simp
  have e2:(acc++its)++(List.replicate k its).flatten=acc++(List.replicate (k+1) its).flatten:=by
   rw [List.replicate_succ,List.flatten_cons,List.append_assoc]
  rw [<-e2,<-zfs its k (acc++its),<-e,List.replicate_succ,List.foldl_cons]
section
variable{X:Cx}{pins:Z3}{σ:St}{H:Hp}{s:Shared}{l b:Addr}{xs ys zs:List V}
theorem Inv.lset{its its':List Value}{n:Nat}{f:Array Value->Array Value}{t':Nat}(I:Inv X pins σ H s)(hH:H l=some (.lst xs))
  (e:s.heap.get? l=some { cls:=.type "list",data:=.seq its.toArray n }) (hf:f its.toArray=its'.toArray) (hv:Vals ys its') (hz:ys.length<=sizeLine) :
  Inv X pins σ (upd H l (.lst ys)) { s with heap:=s.heap.update l (Obj.mapSeq f),toks:=t' }:=by
 have q:=PySem.IsL.update e f;rw [hf] at q;refine I.write (x:=l) (e:=l) (by rw [hH];exact trivial) (.inl rfl) (fun b' u hb hu=>(Heap.get?_update_other s.heap (Obj.mapSeq f) (Ne.symm hb)).trans hu) ⟨_,q⟩ ?_;exact ⟨hz,its',_,hv,q⟩
theorem Inv.lnew{its:List Value}{t':Nat}(I:Inv X pins σ H s)(hv:Vals ys its)(hz:ys.length<=sizeLine) :
  Inv X pins σ (upd H s.heap.objs.size (.lst ys)) { s with heap:=s.heap.push { cls:=.type "list",data:=.seq its.toArray },toks:=t' } :=
 I.laid (fun _ _ q=>Heap.get?_push_of_some _ q) (Nat.le_refl _) ⟨hz,its,0,hv,Heap.get?_push_size _ rfl⟩
theorem Inv.fresh(I:Inv X pins σ H s):H s.heap.objs.size=none:=I.hok.fresh (Nat.le_refl _)
theorem Inv.lstM(I:Inv X pins σ H s)(hH:H l=some (.lst xs)):xs.length<=sizeLine/\∃(its:List Value) (n:Nat),Vals xs its/\xs.length=its.length/\s.heap.get? l=some { cls:=.type "list",data:=.seq its.toArray n }:=by
 obtain ⟨z,its,n,r,e⟩:=I.hok l _ hH;exact ⟨z,its,n,r,r.length,e⟩
theorem ziT{n:Nat}(h:n<=sizeLine):Builtin.List.listTooLong n=false:=by
 unfold Builtin.List.listTooLong;exact decide_eq_false (by omega)
end
section
variable{X:Cx}
def zpd:V->List V->Hp->VK->Prop:=fun x vs H Q=>∃l xs y,x=.ref l/\vs=[y]/\H l=some (.lst xs)/\xs.length<sizeLine/\Q .non (upd H l (.lst (xs++[y])))
theorem zlc:MtM X "list.append" zpd:=by
 intro pins s σ H x vs v us Q I rx rv h;obtain ⟨l,xs,y,rfl,rfl,hH,hz,q⟩:=h;cases rx;obtain ⟨u,rfl,ru⟩:=rv.one;obtain ⟨z,its,n,r,hl,e⟩:=I.lstM hH;refine call_meets F.slot_list_append ⟨_,e,rfl⟩ F.entry_list_append (F.args_list_append_2 _ _) (PySem.list_append l its.toArray n u (by rw [List.size_toArray];omega)) ⟨e,?_⟩;refine ⟨.non,_,I.lset (its':=its++[u]) hH e (by simp) (r.append (.cons ru .nil)) ?_,rfl,q⟩;rw [List.length_append,List.length_singleton];omega
def zpc:V->List V->Hp->VK->Prop:=fun x vs H Q=>∃l b xs zs,x=.ref l/\vs=[.ref b]/\H l=some (.lst xs)/\H b=some (.lst zs)/\xs.length+zs.length<=sizeLine/\Q .non (upd H l (.lst (xs++zs)))
theorem zlb:MtM X "list.extend" zpc:=by
 intro pins s σ H x vs v us Q I rx rv h;obtain ⟨l,b,xs,zs,rfl,rfl,hH,hB,hz,q⟩:=h;cases rx;obtain ⟨u,rfl,ru⟩:=rv.one;cases ru;obtain ⟨z,its,n,r,hl,e⟩:=I.lstM hH;obtain ⟨z2,its2,n2,r2,hl2,e2⟩:=I.lstM hB
 have hsz:its.toArray.size+its2.toArray.size<=sizeLine:=by rw [List.size_toArray,List.size_toArray];omega
 have hlong:¬ (!its.toArray.isEmpty&&Builtin.List.listTooLong (its.toArray.size+its2.toArray.size))=true:=by
  rw [ziT hsz,Bool.and_false];exact Bool.false_ne_true
 refine call_meets F.slot_list_extend ⟨_,e,rfl⟩ F.entry_list_extend (F.args_list_extend_2 _ _)
  (AutoSeq1.list_extend_list_list_0 l its.toArray n b its2.toArray n2 hlong (by rw [List.size_toArray];omega) (by omega)) ⟨e,e2,?_⟩
 refine ⟨.non,_,I.lset (its':=its++its2) hH e (by simp) (r.append r2) ?_,rfl,q⟩;rw [List.length_append];omega
def zym:R2:=fun x y H Q=>∃l b xs zs,x=.ref l/\y=.ref b/\H l=some (.lst xs)/\H b=some (.lst zs)/\xs.length+zs.length<=sizeLine/\∀p,H p=none->Q (.ref p) (upd H p (.lst (xs++zs)))
theorem zr0:OpR X (binaryOp .Add) zym:=by
 intro pins s σ H x y v u Q I rx ry h;obtain ⟨l,b,xs,zs,rfl,rfl,hH,hB,hz,q⟩:=h;cases rx;cases ry;obtain ⟨z,its,n,r,hl,e⟩:=I.lstM hH;obtain ⟨z2,its2,n2,r2,hl2,e2⟩:=I.lstM hB;refine PySem.P.add_list e e2 ?_ (by rw [List.size_toArray,List.size_toArray];omega)
 have ea:its.toArray++its2.toArray=(its++its2).toArray:=by simp
 rw [ea];exact ⟨.ref _,_,I.lnew (t':=s.toks) (r.append r2) (by rw [List.length_append];omega),rfl,q _ I.fresh⟩
def zyj:R2:=fun x y H Q=>∃l k xs,x=.ref l/\y=.int k/\H l=some (.lst xs)/\-(2 ^ 63)<=k/\k<2 ^ 63/\xs.length*k.toNat<=sizeLine ∧
 ∀p,H p=none->Q (.ref p) (upd H p (.lst (List.replicate k.toNat xs).flatten))
theorem zh7{α:Type}(xs:List α)(k:Nat):(List.replicate k xs).flatten.length=k*xs.length:=by
 induction k with
 | zero=>simp
 | succ k ih=>rw [List.replicate_succ,List.flatten_cons,List.length_append,ih,Nat.succ_mul,Nat.add_comm]
theorem zoa:OpR X (binaryOp .Mult) zyj:=by
 intro pins s σ H x y v u Q I rx ry h;obtain ⟨l,k,xs,rfl,rfl,hH,h1,h2,hz,q⟩:=h;cases rx;obtain ⟨t,rfl⟩:=ry;obtain ⟨z,its,n,r,hl,e⟩:=I.lstM hH
 have hlen:its.toArray.size*k.toNat<=sizeLine:=by rw [List.size_toArray,<-hl];exact hz
 have hcap:¬ its.toArray.size*k.toNat > (2 ^ 63-1) / 8:=by
  have:(sizeLine:Nat)<=(2 ^ 63-1) / 8:=by decide
  omega
 have hfit:¬ (!Builtin.List.listFitsIndex k)=true:=by
  rw [fitsIndex_both h1 h2];exact Bool.false_ne_true
 have hlong:¬ Builtin.List.listTooLong (its.toArray.size*k.toNat)=true:=by
  rw [ziT hlen];exact Bool.false_ne_true
 have hnew:List.foldl (fun x1 x2=>x1++x2) #[] (List.replicate (if its.toArray.isEmpty=true then 0 else k.toNat) its.toArray)=(List.replicate k.toNat its).flatten.toArray:=by
  have f0:∀m:Nat,List.foldl (fun x1 x2=>x1++x2) #[] (List.replicate m its.toArray)=(List.replicate m its).flatten.toArray:=fun m=>by
   have:=zfs its m [];rw [List.nil_append] at this;exact this
  rw [f0]
  cases its with
  | nil=>simp
  | cons a r'=>rw [if_neg (by simp)]
 refine wpAny_binaryOp_repeat_ref (T:="list") (U:="int") (by decide) ⟨_,e,rfl⟩ (fun s'=>typeIs_int s' k t) noFill_list_mul F.fills_int_mul F.slot_int_rmul repeat_list F.slot_int_index.lookup
  (call_meets F.slot_int_rmul (typeIs_int s k t) F.entry_int_rmul (F.args_int_rmul_2 _ _) (int___rmul___int_list k t l its.toArray n)
   ⟨e,rfl,⟨_,e,rfl⟩,call_meets F.slot_list_mul ⟨_,e,rfl⟩ F.entry_list_mul (F.args_list_mul_2 _ _) (AutoListH.list___mul___list_int_3 l its.toArray n k t hfit hcap hlong) ⟨e,?_⟩⟩)
 rw [hnew];exact ⟨.ref _,_,I.lnew (t':=s.toks) (r.rep k.toNat) (by rw [zh7,Nat.mul_comm];exact hz),rfl,q _ I.fresh⟩
end
section
variable{prog:Program}{w:World}{A:Around}{E:Z5}{s:Shared}
end
section
variable{X:Cx}
end
end L2
namespace Att
open PySem PySem.W PySem.Calls PyProof.Rows
theorem zfn{P:Params}{h:Heap}:∀(ns:List Int) (vs:List Value),WellAll P h vs (ns.map WData.int)->IntsAre vs ns:=by
 intro ns
 induction ns with
 | nil =>
  intro vs w;rw [List.map_nil] at w;cases w;exact .nil
 | cons n ns ih =>
  intro vs w;rw [List.map_cons] at w
  cases w with
  | cons a b =>
   cases a;exact .cons _ _ (ih _ b)
theorem zkE{l:OpenLaw}{n:Nat}(hn:l.most=some n){P:Params}{h:Heap}{args:List WData}{vals:List Value}
  (hpre:l.row.toRowW.claim.pre args=true) (hwl:WellAll P h vals args) :
  ∃a vs ns,vals=[Value.ref a]/\args=[WData.list (ns.map WData.int)]/\h.get? a=some { cls:=.type "list",data:=.seq vs.toArray }/\IntsAre vs ns/\ns.length<=n:=by
 have hsh:WShape.hasAll [] args [.list .int]=true:=(pre_splitW hpre).1;have hc:l.pre.holds [] { args:=args }=true:=(pre_splitW hpre).2;obtain ⟨d,r,rfl,h1,h2⟩:=hasAllW_cons hsh;obtain rfl:=hasAllW_nil h2;obtain ⟨xs,rfl,h3⟩:=hasW_list h1;obtain ⟨ns,rfl⟩:=items_int h3
 have hlen:ns.length<=n:=by
  unfold OpenLaw.pre at hc
  have h4:(WTm.not (.lt (.lit (.int (n:Int))) (.len (.arg 0)))).holds [] { args:=[.list (ns.map .int)] }=true:=by
   have h4:=(holds_andW hc).1;rw [hn] at h4;exact h4
  have h5:=condW_of h4 (w_not (w_lt w_lit (w_len_list (w_arg rfl))));rw [List.length_map] at h5;refine Nat.le_of_not_lt fun q=>?_
  have q':(n:Int)<((ns.length:Nat):Int):=by omega
  first
   | (rw [decide_eq_true q'] at h5;exact absurd h5 (by decide))
   | (simp at h5;omega)
 cases hwl with
 | cons w1 w2 =>
  cases w2
  cases w1 with
  | list ho hall=>exact ⟨_,_,ns,rfl,rfl,ho,zfn ns _ hall,hlen⟩
theorem zkQ(l:OpenLaw)(args:List WData):l.row.toRowW.claim.post args (.bool true) args=true :=
 postW_of (r:=l.row.toRowW) (X:=(true == true))
  (show WShape.has [] (.bool true) .bool=true by first | rfl | decide | simp [WShape.has,WShape.arms,WShape.armsAll])
  (show (WTm.eq .res (.lit (.bool true))).value [] { args:=args,res:=some (.bool true),after:=args }=some (.bool (true == true)) from w_eq_bool (w_res rfl) w_lit) rfl
theorem ziw{l:OpenLaw}{n:Nat}{q:Program}{loose:List Str}{XP:(Str->Option Value)->Heap->Prop}{YP:World->Heap->Prop}{d:DefRec}
  (hn:l.most=some n) (hdf:d.params.defaults=[])
  (call:∀(w:World) (s₀ s₁:Shared) (mg mb:Z6) (fa:Addr) (o:Obj) (pm cd doc:Value) (a:Addr) (vs:List Value) (ns:List Int),
   Ground q loose [] XP w s₀ mg mb s₁.heap->YP w s₁.heap →
   s₁.heap.get? fa=some o->o.data=.func (docDef d.name d.params d.body d.scope pm cd doc)->s₁.heap.CodeRec cd d.name->mg d.name=some (.ref fa) →
   s₁.heap.get? a=some { cls:=.type "list",data:=.seq vs.toArray }->IntsAre vs ns->ns.length<=n->s₁.gens=#[] →
   codeAny (model l.prog w) callerA (.call (.ref fa) ⟨[.ref a],[]⟩) (fun r s'=>r=.ok (.ret (.bool true))/\OldK s₁.heap s'.heap/\s'.os=s₁.os/\AllBare s'.gens) s₁) :
  WalkO q loose XP YP l.row.toRowW d [] (fun f vs=>PySem.call f vs):=by
 intro w s₀ s₁ mg mb G Y fa o pm cd doc dV kV ho hd hcd hD hmg hg args vals as hpre hlay hrd hwl hlo;obtain rfl:dV=.none:=Dflts.none hD hdf;obtain rfl:kV=.none:=Dflts.noKw hD;obtain ⟨a,vs,ns,rfl,rfl,hobj,hints,hlen⟩:=zkE hn hpre hwl;refine enter_call (codeAny_mono (call w s₀ s₁ mg mb fa o pm cd doc a vs ns G Y ho (fd_plain hd) hcd hmg hobj hints hlen hg) fun r s' hq=>?_);obtain ⟨rfl,h2,h3,h4⟩:=hq;exact ⟨.inl ⟨.bool true,.bool true,[],rfl,fun _=>rfl,.bool true,zkQ l _,fun _=>⟨List.Pairwise.nil,fun _ hm=>(nomatch hm)⟩⟩,h2,h3,h4⟩
section
variable{prog:Program}{w:World}{A:Around}{E:Z5}{s:Shared}{K:Frag}
end
end Att
namespace L2
open PySem PySem.Spec PyProof.Rows
theorem zgT:∀{vs:List Value} {ns:List Int},IntsAre vs ns->Vals (ns.map V.int) vs
 | _,_,.nil=>.nil
 | _,_,.cons n t h=>.cons ⟨t,rfl⟩ (zgT h)
def ztE(H:Hp):Prop:=∀b,H b=none\/∃o xs,H b=some (.frz o (.lst xs))
theorem zna{P:Program}{w:World}{K:PySem.W.Frag}{mg mb:Z6}{CX:CXT}{k:Nat}{fa a:Addr}{fd:FuncData}{x:Str}{sp:Sp}{s₁:Shared}{vs:List Value}{ns:List Int}
  (KX:K.In s₁.heap) (hns:s₁.heap.Ns mainGlobals mg) (hb:s₁.heap.Ns builtinsNs mb) (hbb:∀x:Str,x ≠ "__name__" -> mb x=bootBuiltins x) (hlim:s₁.heap.NoLimit) (hg:s₁.gens=#[])
  (ha:s₁.heap.get? a=some { cls:=.type "list",data:=.seq vs.toArray }) (hi:IntsAre vs ns) (hl:ns.length<=sizeLine) (hr:Room k callerA)
  (F:∀base:Heap,K.In base->base.Ns mainGlobals mg->FnOk P w K mg base CX k fa fd [x] sp) (hbind:∀(s:Shared) (u:Value),BindsTo s fd ⟨[u],[]⟩ [(x,u)])
  (hsp:∀H:Hp,ztE H->SqL K H a (ns.map V.int)->sp [.ref a] H (fun v _=>v=.bl true) fun _ _ _=>False)
  (hCX:∀H e s',CX [] H s₁ (fun _ _ _=>False) e s'->False) :
  codeAny (model P w) callerA (.call (.ref fa) ⟨[.ref a],[]⟩) (fun r s'=>r=.ok (.ret (.bool true))/\OldK s₁.heap s'.heap/\s'.os=s₁.os/\AllBare s'.gens) s₁:=by
 have rv:=zgT hi;have lenV:=hi.length
 have core:∀H:Hp,ztE H->SqL K H a (ns.map V.int)->HOk P w H s₁.heap->(∀b,H b≠none->b=a)->(H a≠none->K.lookup a=none) →
   codeAny (model P w) callerA (.call (.ref fa) ⟨[.ref a],[]⟩) (fun r s'=>r=.ok (.ret (.bool true))/\OldK s₁.heap s'.heap/\s'.os=s₁.os/\AllBare s'.gens) s₁:=by
  intro H hO hS hok hA hK;have zdn:∀{b:Addr} {o:Obj},s₁.heap.get? b=some o->H b=none->(znm s₁.heap H).get? b=some o:=fun e n=>znl e n
  have noA:∀{b:Addr} {o:Obj} {es:Array DictEntry} {ep:Nat},s₁.heap.get? b=some o->o.data=.dict es ep->H b=none:=fun {b o es ep} e d=>by
   cases q:H b with
   | none=>rfl
   | some u =>
    have e':b=a:=hA b (by rw [q];simp);subst e';rw [ha] at e;cases e;have d':Data.seq vs.toArray _=Data.dict es ep:=d;cases d'
  have nsK:∀{b:Addr} {m:Z6},s₁.heap.Ns b m->(znm s₁.heap H).Ns b m:=fun {b m} ⟨o,es,ep,e,d,r⟩=>⟨o,es,ep,zdn e (noA e d),d,r⟩
  have hKb:K.In (znm s₁.heap H):=fun b o e=>zdn (KX b o e) (by
   cases q:H b with
   | none=>rfl
   | some u =>
    have e':b=a:=hA b (by rw [q];simp);subst e'
    rw [hK (by rw [q];simp)] at e;cases e)
  have hM:Mod K mg (znm s₁.heap H):=⟨hKb,nsK hns,⟨mb,nsK hb,hbb⟩,let ⟨mc,h1,h2⟩:=hlim;⟨mc,nsK h1,h2⟩⟩;have e0:Env0 P w K mg (znm s₁.heap H) callerA [] s₁ H:=⟨rfl,hM,fun b o e=>zpz e,Nat.le_of_eq (zlA _ _),trivial,fun b hb=>absurd (show b∈([]:List Addr) from hb) (by simp),hok,.of_eq hg⟩;refine codeAny_mono ((F _ hKb (nsK hns)).run callerA [] s₁ H ⟨[.ref a],[]⟩ [.ref a] [.ref a] _ _ hr e0 (hbind s₁ (.ref a)) (.cons rfl .nil) (hsp H hO hS)) fun r s' h=>?_
  cases r with
  | error e=>exact (hCX H e s' h).elim
  | ok fl =>
   cases fl with
   | next=>exact False.elim h
   | brk=>exact False.elim h
   | cont=>exact False.elim h
   | ret u =>
    obtain ⟨v,H',os,bare,un,hok',r',q⟩:=h;have q':v=.bl true:=q;subst q';obtain rfl:u=Value.bool true:=r';refine ⟨rfl,OldK.of_keep fun b o e=>?_,os,bare⟩
    cases q:H b with
    | none=>exact un.keep b o e q (by intro z;exact absurd (show b∈([]:List Addr) from z) (by simp)) (by simp)
    | some u =>
     rcases hO b with z | ⟨ob,xs,z⟩
     ·rw [q] at z;cases z
     ·have z2:=un.frzs b ob _ z;obtain ⟨e1,_⟩:=hok b _ z;obtain ⟨e2,_⟩:=hok' b _ z2;rw [e] at e1;cases e1;exact e2
 cases hk:K.lookup a with
 | some o =>
  have e:=KX a o hk;rw [ha] at e;cases e;refine core (fun _=>none) (fun _=>.inl rfl) (.inr ⟨_,vs.toArray,_,hk,rfl,rfl,rfl,by rw [List.size_toArray,lenV];exact hl,by simpa using rv⟩) (fun b u z=>by have z':(none:Option HO)=some u:=z;cases z') (fun b z=>absurd rfl z) fun z=>absurd rfl z
 | none =>
  refine core (fun b=>if b=a then some (.frz { cls:=.type "list",data:=.seq vs.toArray } (.lst (ns.map V.int))) else none) (fun b=>?_) (.inl (.inr ⟨{ cls:=.type "list",data:=.seq vs.toArray },if_pos rfl⟩)) (fun b u z=>?_) (fun b z=>?_) fun _=>hk
  ·by_cases hb:b=a
   ·exact .inr ⟨_,_,if_pos hb⟩
   ·exact .inl (if_neg hb)
  ·by_cases hb:b=a
   ·have z':=(if_pos hb).symm.trans z;cases z';subst hb;exact ⟨ha,by rw [List.length_map];exact hl,vs,_,rv,ha⟩
   ·have z':=(if_neg hb).symm.trans z;cases z'
  ·by_cases hb:b=a
   ·exact hb
   ·exact absurd (if_neg hb) z
end L2
namespace L2
open PySem PySem.Spec PyProof.Rows
theorem zoz{l:PySem.W.OpenLaw}{n k:Nat}{q:Program}{loose:List Str}{XP:(Str->Option Value)->Heap->Prop}{YP:World->Heap->Prop}{d:DefRec}{K:Params->PySem.W.Frag}{CX:World->CXT}{sp:World->Sp}{x:Str}
  (hn:l.most=some n) (hn2:n<=sizeLine) (hdf:d.params.defaults=[]) (hr:Room k callerA)
  (hY:∀(w:World) (h:Heap),YP w h->(K w.params).In h)
  (F:∀(w:World) (mg:Z6) (fa:Addr) (h:Heap),(K w.params).In h->h.Ns mainGlobals mg->mg d.name=some (.ref fa) →
   ∃fd:FuncData,(∀(s:Shared) (u:Value),BindsTo s fd ⟨[u],[]⟩ [(x,u)]) ∧
    ∀base:Heap,(K w.params).In base->base.Ns mainGlobals mg->FnOk l.prog w (K w.params) mg base (CX w) k fa fd [x] (sp w))
  (hsp:∀(w:World) (H:Hp) (a:Addr) (ns:List Int),ns.length<=n->ztE H->SqL (K w.params) H a (ns.map V.int)->sp w [.ref a] H (fun v _=>v=.bl true) fun _ _ _=>False)
  (hCX:∀(w:World) (H:Hp) (s:Shared) (e:Value) (s':Shared),CX w [] H s (fun _ _ _=>False) e s'->False) :
  PySem.W.WalkO q loose XP YP l.row.toRowW d [] (fun f vs=>PySem.call f vs):=by
 refine Att.ziw hn hdf fun w s₀ s₁ mg mb fa o pm cd doc a vs ns G Y ho hd hcd hmg hobj hints hlen hg=>?_
 have KX:=hY w _ Y;obtain ⟨fd,hb,hF⟩:=F w mg fa _ KX G.T.g hmg;exact zna KX G.T.g G.T.b G.T.builtins G.T.nolimit hg hobj hints (Nat.le_trans hlen hn2) hr hF hb (fun H hO hS=>hsp w H a ns hlen hO hS) fun H e s'=>hCX w H s₁ e s'
end L2
namespace L2
open PySem PySem.Spec PyProof.Rows
def zbB(s:Stmt):Arguments:=match s with
 | .FunctionDef _ a _ _ _ _ _ _ _ _=>a
 | _=>{ posonlyargs:=[],args:=[],vararg:=none,kwonlyargs:=[],kw_defaults:=[],kwarg:=none,defaults:=[] }
def zbr(s:Stmt):List Stmt:=match s with
 | .FunctionDef _ _ b _ _ _ _ _ _ _=>b
 | _=>[]
def zac(s:Stmt):Scope:=match s with
 | .FunctionDef _ _ _ _ _ _ sc _ _ _=>sc
 | _=>{ kind:=.function,names:=[],isGenerator:=false,isCoroutine:=false }
structure Fun(K:PySem.W.Frag)(x qual:Str)(st:Stmt)(f:Addr)(fd:FuncData):Prop where
 ex:∃(oc:Value) (od:Option Addr) (kV doc pm:Value) (an:Option Addr) (cdv ct:Value) (osl:Array (Option Value)),
  fd=PySem.W.fnOf x qual (zbB st) (zbr st) (zac st) .none kV doc pm an cdv ct/\K.lookup f=some ⟨oc,od,.func fd,osl⟩/\PySem.W.codeIn K cdv qual=true
 kp:PySem.W.keepIn K (.ref f)=true
section
variable{P:Program}{w:World}{K:PySem.W.Frag}{mg:Z6}{base:Heap}
theorem Fun.binds{x qual:Str}{st:Stmt}{f:Addr}{fd:FuncData}{ps:List Str}(F:Fun K x qual st f fd)
  (h:∀(kV doc pm:Value) (an:Option Addr) (cdv ct:Value) (us:List Value),us.length=ps.length->bindArgs (PySem.W.fnOf x qual (zbB st) (zbr st) (zac st) .none kV doc pm an cdv ct) ⟨us,[]⟩=pure (ps.zip us)):zch K fd ps []:=by
 obtain ⟨oc,od,kV,doc,pm,an,cdv,ct,osl,rfl,lk,hcd⟩:=F.ex;exact .all (h kV doc pm an cdv ct)
theorem zon{x qual:Str}{st:Stmt}{f:Addr}{oc:Value}{od an:Option Addr}{osl:Array (Option Value)}{kV doc pm cdv ct:Value}(l:K.lookup f=some ⟨oc,od,.func (PySem.W.fnOf x qual (zbB st) (zbr st) (zac st) .none kV doc pm an cdv ct),osl⟩)
  (c:PySem.W.codeIn K cdv qual=true) (k:PySem.W.keepIn K (.ref f)=true):Fun K x qual st f (PySem.W.fnOf x qual (zbB st) (zbr st) (zac st) .none kV doc pm an cdv ct):=⟨⟨oc,od,kV,doc,pm,an,cdv,ct,osl,rfl,l,c⟩,k⟩
end
section
variable{X:Cx}
end
theorem znj{A B:Prop}(h:B):if false=true then A else B:=by
 rw [if_neg Bool.false_ne_true];exact h
theorem zni{A B:Prop}(h:A):if true=true then A else B:=by
 rw [if_pos rfl];exact h
end L2
namespace L2
open PySem PySem.Spec PyProof.Rows
theorem zj1{scope:Scope}{env:Env}(h:∀y∈scope.names,y.2=.free->∃c,env.cells.lookup y.1=some c) :
  ∃cl,closureFor scope env=pure cl/\(∀y c,cl.lookup y=some c->env.cells.lookup y=some c)/\∀y,(y,NameKind.free)∈scope.names->∃c,cl.lookup y=some c:=by
 unfold closureFor
 have key:∀(l:List (Str×NameKind)) (cs:List (Str×Addr)),(∀y∈l,y.2=.free->∃c,env.cells.lookup y.1=some c)->(∀y c,cs.lookup y=some c->env.cells.lookup y=some c) →
   ∃cl,(forIn l cs fun (x:Str×NameKind) (r:List (Str×Addr))=>(if (x.2 == NameKind.free)=true then (do let c ← cellOf env x.1;pure (ForInStep.yield ((x.1,c)::r))) else pure (ForInStep.yield r):Sem (ForInStep (List (Str×Addr)))))=pure cl ∧
    (∀y c,cl.lookup y=some c->env.cells.lookup y=some c)/\(∀y,(y,NameKind.free)∈l->∃c,cl.lookup y=some c)/\(∀y c,cs.lookup y=some c->∃c',cl.lookup y=some c'):=by
  intro l
  induction l with
  | nil=>intro cs _ hc;exact ⟨cs,rfl,hc,fun y hy=>by simp at hy,fun y c e=>⟨c,e⟩⟩
  | cons p l ih =>
   intro cs hl hc;obtain ⟨n,k⟩:=p
   by_cases hk:(k == NameKind.free)=true
   ·have ek:k=.free:=eq_of_beq hk;obtain ⟨c,ec⟩:=hl (n,k) List.mem_cons_self ek
    obtain ⟨cl,e1,e2,e3,e4⟩:=ih ((n,c)::cs) (fun y hy=>hl y (List.mem_cons_of_mem _ hy)) (fun y c' e=>by
     rw [List.lookup_cons] at e
     cases hq:y == n with
     | true=>rw [hq] at e;cases e;rw [eq_of_beq hq];exact ec
     | false=>rw [hq] at e;exact hc y c' e)
    refine ⟨cl,?_,e2,fun y hy=>?_,fun y c' e=>?_⟩
    ·rw [List.forIn_cons];show ((if (k == NameKind.free)=true then _ else _) >>= _)=_;rw [if_pos hk]
     have ecell:cellOf env n=pure c:=by unfold cellOf;rw [ec]
     show (cellOf env n >>= _) >>= _=_;rw [ecell];simpa using e1
    ·rcases List.mem_cons.mp hy with z | hy
     ·cases z;exact e4 n c (by rw [List.lookup_cons];simp)
     ·exact e3 y hy
    ·cases hq:y == n with
     | true=>exact e4 y c (by rw [List.lookup_cons,hq])
     | false=>exact e4 y c' (by rw [List.lookup_cons,hq];exact e)
   ·obtain ⟨cl,e1,e2,e3,e4⟩:=ih cs (fun y hy=>hl y (List.mem_cons_of_mem _ hy)) hc;refine ⟨cl,?_,e2,fun y hy=>?_,e4⟩
    ·rw [List.forIn_cons];show ((if (k == NameKind.free)=true then _ else _) >>= _)=_;rw [if_neg hk];simpa using e1
    ·rcases List.mem_cons.mp hy with z | hy
     ·cases z;exact absurd rfl hk
     ·exact e3 y hy
 obtain ⟨cl,e1,e2,e3,_⟩:=key scope.names [] h (fun y c e=>by simp at e);refine ⟨cl,?_,e2,e3⟩;show ((forIn scope.names [] _:Sem (List (Str×Addr))) >>= _)=_;have e1':=congrArg (fun m=>m >>= (pure:List (Str×Addr)->Sem (List (Str×Addr)))) e1;simpa using e1
def PIf(X:Cx)(ifs:List Expr)(t:TT):Prop :=
 ∀(pins:Z3) (s:Shared) (σ:St) (H:Hp) (Q:Bool->Hp->Prop),Inv X pins σ H s->t σ H Q →
  wpAny (model X.prog X.w) X.A (forIn ifs true fun c r=>if r=true then do let ok ← isTrue c X.env (eval c X.env);pure (ForInStep.yield ok) else pure (ForInStep.yield r)) (TP X pins σ Q) X.xe s
def zx6:TT:=fun _ H Q=>Q true H
theorem zpo{X:Cx}:PIf X [] zx6:=fun _ _ _ H _ I h=>wpAny_tests_nil ⟨H,I,h⟩
theorem zpn{X:Cx}{c:Expr}{t:TT}(h:PT X c t):PIf X [c] t:=fun pins s σ H Q I hw=>wpAny_tests_one (h pins s σ H Q I hw)
theorem zeB{scope:Scope}{env:Env}:∀{names:List (Str×NameKind)} {y:Str},(y,NameKind.free)∈names->(∀z∈names,z.1=y->z.2=.free) →
  (names.map fun (n,k)=>if (k == NameKind.free&&env.scope.kind == .function&&env.kindOf n == some .cell) then (n,NameKind.cell) else (n,k)).lookup y=some .cell ∨
  (names.map fun (n,k)=>if (k == NameKind.free&&env.scope.kind == .function&&env.kindOf n == some .cell) then (n,NameKind.cell) else (n,k)).lookup y=some .free
 | [],_,h,_=>by simp at h
 | (n,k)::r,y,h,u=>by
  rw [List.map_cons];show List.lookup y ((if (k == NameKind.free&&env.scope.kind == .function&&env.kindOf n == some .cell)=true then (n,NameKind.cell) else (n,k))::_)=_\/List.lookup y ((if (k == NameKind.free&&env.scope.kind == .function&&env.kindOf n == some .cell)=true then (n,NameKind.cell) else (n,k))::_)=_
  cases hq:y == n with
  | true =>
   have e:n=y:=(eq_of_beq hq).symm;have ek:k=.free:=u (n,k) List.mem_cons_self e
   by_cases hc:(k == NameKind.free&&env.scope.kind == .function&&env.kindOf n == some .cell)=true
   ·rw [if_pos hc];left;simp [List.lookup_cons,hq]
   ·rw [if_neg hc];right;simp [List.lookup_cons,hq,ek]
  | false =>
   have hy:(y,NameKind.free)∈r:=by
    rcases List.mem_cons.mp h with z | z
    ·cases z;simp at hq
    ·exact z
   have ih:=zeB (scope:=scope) (env:=env) hy fun z hz=>u z (List.mem_cons_of_mem _ hz)
   by_cases hc:(k == NameKind.free&&env.scope.kind == .function&&env.kindOf n == some .cell)=true
   ·rw [if_pos hc];simpa [List.lookup_cons,hq] using ih
   ·rw [if_neg hc];simpa [List.lookup_cons,hq] using ih
theorem Inv.track{X:Cx}{pins:Z3}{σ:St}{H:Hp}{s:Shared}{D:Addr}{o:HO}(I:Inv X pins σ H s)(hn:H D=none)(h1:X.s₀.heap.objs.size<=D)(h2:D≠X.env.locals)(h3:∀x c,X.env.cells.lookup x=some c->c≠D)(h4:∀p∈X.pn++pins,p.1≠D)
  (new:zbQ X.prog X.w (upd H D o) s.heap D o):Inv X pins σ (upd H D o) s:=by
 have nD:∀b u,H b=some u->b≠D:=fun b u e=>zau e hn
 obtain ⟨h',g',d',t',o'⟩:=s;refine I.step (h':=h') (g':=g') (d':=d') (t':=t') (ch:=[D]) (fun b hb=>?_) (fun b o _ _ _ e _=>e) (fun b o _ _ _ e _=>⟨o.slots,e⟩) (fun b o hc e n=>?_) (fun b o _ e=>⟨o,e⟩) (fun b xs e=>?_) (fun b o u e=>?_) (fun b ps e=>?_) (fun m hm=>hm) (fun b u e=>?_) I.bare
 ·have e:b=D:=by simpa using hb
  subst e;exact ⟨.inr h1,h2,h3,h4⟩
 ·rw [zam (fun z=>hc (by simp [z]))];exact n
 ·rw [zam (nD _ _ e)];exact e
 ·rw [zam (nD _ _ e)];exact e
 ·exact ⟨#[],by rw [zam (nD _ _ e),e];simp⟩
 ·by_cases hb:b=D
  ·subst hb;rw [zaH] at e;cases e;exact new
  ·rw [zam hb] at e
   exact (I.hok b u e).stay (fun _ _ _ q=>q) (fun c q=>by rw [zam (nD _ _ q)];exact q) fun c xs q=>by rw [zam (nD _ _ q)];exact q
section
variable{X:Cx}{elt iter:Expr}{x:Str}{px pos:Pos}{ifs:List Expr}{scope:Scope}{caps:List (Str×Nat)}{wi:TI}{tt:TT}{te:TE}
abbrev lob(its:List Value)(k:Nat):Obj:={ cls:=.type "list",data:=.seq its.toArray k }
end
end L2
namespace L2
open PySem PySem.Spec PyProof.Rows
section
variable{X:Cx}{elt iter:Expr}{x:Str}{px pos:Pos}{ifs:List Expr}{scope:Scope}{caps:List (Str×Nat)}{wi:TI}{tt:TT}{te:TE}
end
end L2
namespace L2
open PySem PySem.Spec PyProof.Rows
section
variable{prog:Program}{w:World}{A:Around}{R:Result->Shared->Prop}{s:Shared}
theorem zm7{elt target iter:Expr}{ifs:List Expr}{scope:Scope}{pos:Pos}{it acc:Value}{env:Env}(I:Nat->Shared->Prop)
  (turn:∀n s,I n s->wpAny (model prog w) A (pyNext it) (fun r s₁=>match r with
   | none=>R (.ok .next) s₁
   | some v=>wpAny (model prog w) A (letOwnedTupleGo target it v) (fun _ s₀=>wpAny (model prog w) A (assign target env v) (fun _ s₂ =>
     wpAny (model prog w) A (forIn ifs true fun c r=>if r=true then do let ok ← isTrue c env (eval c env);pure (ForInStep.yield ok) else pure (ForInStep.yield r)) (fun ok s₃ =>
      if ok=true then wpAny (model prog w) A (eval elt env) (fun x s₄ =>
       wpAny (model prog w) A (call (.builtin "list.append") [acc,x]) (fun _ s₅=>∃m,m<n/\I m s₅) (notedBy (model prog w) A env fun e s'=>R (.error e) s') s₄) (notedBy (model prog w) A env fun e s'=>R (.error e) s') s₃
      else ∃m,m<n/\I m s₃) (notedBy (model prog w) A env fun e s'=>R (.error e) s') s₂) (notedBy (model prog w) A env fun e s'=>R (.error e) s') s₀) (notedBy (model prog w) A env fun e s'=>R (.error e) s') s₁) (notedBy (model prog w) A env fun e s'=>R (.error e) s') s)
  (n:Nat) (h:I n s):codeAny (model prog w) A (.compLoop (.ListComp elt [⟨target,iter,ifs,0⟩] scope pos) 0 it acc env) R s:=by
 refine codeAny_loop rfl I (fun n s hI=>?_) n h;show wpAny _ A ((compTurn (.ListComp elt [⟨target,iter,ifs,0⟩] scope pos) 0 it acc env).onRaise (fun x=>do noteFrame x env;theTreesLotGoes x)) _ _ s;refine wpAny_noted ?_;rw [compTurn_list];refine wpAny_bind (wpAny_standAt (wpAny_bind (wpAny_mono (turn n s hI) (fun r s₁ h₁=>?_) fun _ _ h'=>h')))
 cases r with
 | none=>exact wpAny_pure h₁
 | some v =>
  refine wpAny_bind (wpAny_mono h₁ (fun _ s₀ h₀=>?_) fun _ _ h'=>h');refine wpAny_bind (wpAny_mono h₀ (fun _ s₂ h₂=>wpAny_bind (wpAny_mono h₂ (fun ok s₃ h₃=>?_) fun _ _ h'=>h')) fun _ _ h'=>h')
  cases ok with
  | false=>exact wpAny_pure ⟨rfl,h₃⟩
  | true =>
   exact wpAny_bind (wpAny_bind (wpAny_mono h₃ (fun x s₄ h₄=>wpAny_bind (wpAny_mono h₄ (fun _ s₅ h₅=>wpAny_pure (wpAny_pure ⟨rfl,h₅⟩)) fun _ _ h'=>h')) fun _ _ h'=>h'))
end
theorem zbi:∀(names:List (Str×NameKind)) (n:Nat) (acc:List (Str×Addr)),cellsFrom n names acc=cellsFrom n names []++acc
 | [],_,_=>rfl
 | (x,k)::r,n,acc=>by
  unfold cellsFrom;split
  ·rw [zbi r (n+1) ((x,n)::acc),zbi r (n+1) [(x,n)]];simp
  ·exact zbi r n acc
theorem zc0:∀(names:List (Str×NameKind)) (n:Nat) {x:Str} {c:Addr},(x,c)∈cellsFrom n names []->(x,NameKind.cell)∈names
 | [],_,_,_,h=>by cases h
 | (y,k)::r,n,x,c,h=>by
  unfold cellsFrom at h;split at h
  ·rename_i hk;rw [zbi] at h
   rcases List.mem_append.mp h with h | h
   ·exact List.mem_cons_of_mem _ (zc0 r _ h)
   ·rw [List.mem_singleton] at h;cases h;rw [beq_iff_eq.mp hk];exact List.mem_cons_self
  ·exact List.mem_cons_of_mem _ (zc0 r _ h)
theorem zb4{α:Type}{x:Str}:∀{l m:List (Str×α)},(l++m).lookup x=(l.lookup x).or (m.lookup x)
 | [],m=>rfl
 | (y,a)::l,m=>by
  rw [List.cons_append,List.lookup_cons,List.lookup_cons]
  cases x == y with
  | true=>rfl
  | false=>exact zb4
theorem zb2:∀(names:List (Str×NameKind)) (n:Nat) {x:Str},(x,NameKind.cell)∈names->∃c,(cellsFrom n names []).lookup x=some c
 | [],_,_,h=>by cases h
 | (y,k)::r,n,x,h=>by
  unfold cellsFrom;split
  ·rename_i hk;rw [zbi,zb4]
   rcases List.mem_cons.mp h with e | h
   ·cases e
    cases hq:(cellsFrom (n+1) r []).lookup y with
    | some c=>exact ⟨c,rfl⟩
    | none=>exact ⟨n,by simp [List.lookup_cons]⟩
   ·obtain ⟨c,e⟩:=zb2 r (n+1) h;rw [e];exact ⟨c,rfl⟩
  ·rename_i hk
   rcases List.mem_cons.mp h with e | h
   ·cases e;exact absurd rfl hk
   ·exact zb2 r n h
theorem zcr{M:Model}{A:Around}{E:Z5}{s:Shared}{scope:Scope}{globals:Addr}{closure:List (Str×Addr)}{qual:Str}{func:Option Addr}{code:Value}{outer:Env}{builtins:Addr}{Q:Env->Shared->Prop}
  (hQ:∀h',h'.Ns s.heap.objs.size (fun _=>none)->(∀b o,s.heap.get? b=some o->h'.get? b=some o)->CellsOk h' (s.heap.objs.size+1) (cellsFrom (s.heap.objs.size+1) scope.names []) →
   Q (newEnv scope s.heap.objs.size globals (cellsFrom (s.heap.objs.size+1) scope.names []++closure) qual func code (some outer) builtins) { s with heap:=h' }) :
  wpAny M A (newFunctionEnv scope globals closure [] qual func code (some outer) builtins) Q E s:=by
 simp only [newFunctionEnv,Option.isSome_some,if_true];refine wpAny_bind (wpAny_alloc ?_);refine wpAny_bind (wpAny_layCells _ (fun name kind cells=>by cases hkc:kind == NameKind.cell<;>simp [hkc]) _ _ _ _ ?_);have ok:=cellsFrom_ok scope.names (s.heap.push { cls:=.type "dict",data:=.dict #[] }) (s.heap.objs.size+1) [] ⟨fun _ _ hm=>(nomatch hm),List.Pairwise.nil⟩ (by rw [Heap.size_push];exact Nat.le_refl _);rw [Heap.size_push] at ok;rw [show ({ s with heap:=s.heap.push { cls:=.type "dict",data:=.dict #[] } }:Shared).heap.objs.size=s.heap.objs.size+1 from Heap.size_push ..];rw [zbi];simp only [List.forIn_nil];refine wpAny_bind (wpAny_pure (wpAny_pure ?_));exact hQ _ ((Heap.Ns.new s.heap (.type "dict")).keeps (pushCells_keeps _ _)) (fun b o e=>pushCells_keeps _ _ b o (Heap.get?_push_of_some _ e)) ok
structure CompScopeG(sc scope:Scope)(N:List Str)(xs:List Str)(caps:List (Str×Nat)):Prop where
 nd:(scope.names.map (·.1)).Nodup
 kind:scope.kind=.function
 names:∀y∈scope.names,y.2=.local->scope.names.lookup y.1=some .local
 free:∀y∈scope.names,y.2=.free->sc.names.lookup y.1=some .cell\/sc.names.lookup y.1=some .free
 cap:∀p∈caps,N[p.2]?=some p.1/\(p.1,NameKind.free)∈scope.names/\sc.names.lookup p.1≠some .local
 uniq:∀p∈caps,∀z∈scope.names,z.1=p.1->z.2=.free
def za4(X:Cx)(xs:List Str)(caps:List (Str×Nat))(scope:Scope)(cl:List (Str×Addr))(C:Addr)(s:Shared)(H:Hp)(ex:List Addr):Cx :=
 { X with N:=xs++caps.map (·.1),s₀:=s,H₀:=H,env:=compEnvC scope cl C X.env,outer:=X.stack,ex:=ex,fn:=fun x=>decide (scope.names.lookup x=some .cell),pn:=[],xe:=fun _ _=>False }
abbrev capσ(σ:St)(n:Nat)(caps:List (Str×Nat)):St:=List.replicate n none++caps.map fun p=>(σ[p.2]?).join
def zgY(wi:TI)(g:TG)(tt:TT)(te:TE)(n:Nat)(caps:List (Str×Nat)):TE:=fun σ H Q=>wi σ H fun J H1=>∃W:Nat->Nat->List V->St->Hp->Prop,(∃m,W 0 m [] (capσ σ n caps) H1)/\∀i m ys σ' H,W i m ys σ' H →
 ys.length<=sizeLine/\((J.stop i H/\∀p,H p=none->Q (.ref p) (upd H p (.lst ys))) ∨
 (J.go i H/\∀x H',J.yld i H x H'->g x σ' H' fun σ2 H2=>tt σ2 H2 fun ok H3=>if ok=true then te σ2 H3 fun y H4=>∃m',m'<m/\W (i+1) m' (ys++[y]) σ2 H4 else ∃m',m'<m/\W (i+1) m' ys σ2 H3))
section
variable{X:Cx}{elt iter tg:Expr}{xs:List Str}{pos:Pos}{ifs:List Expr}{scope:Scope}{caps:List (Str×Nat)}{wi:TI}{g:TG}{tt:TT}{te:TE}
structure OwnC(X:Cx)(scope:Scope)(lo:Nat)(h:Heap)(cl:List (Str×Addr)):Prop where
 sort:∀y c,cl.lookup y=some c->X.env.cells.lookup y=some c\/(h.IsCell c none/\lo<=c)
 inj:∀y z c,cl.lookup y=some c->cl.lookup z=some c->y=z
 has:∀y,((y,NameKind.free)∈scope.names\/(y,NameKind.cell)∈scope.names)->∃c,cl.lookup y=some c
 own:∀y c,scope.names.lookup y=some .cell->cl.lookup y=some c->lo<=c
 free:∀y,(y,NameKind.free)∈scope.names->∃c,cl.lookup y=some c/\X.env.cells.lookup y=some c
theorem zhb{scope:Scope}{env:Env}{y:Str}(h:(relabel scope env).names.lookup y=some .cell\/(relabel scope env).names.lookup y=some .free):(y,NameKind.free)∈scope.names\/(y,NameKind.cell)∈scope.names:=by
 have go:∀k,(relabel scope env).names.lookup y=some k->(k=.cell\/k=.free)->(y,NameKind.free)∈scope.names\/(y,NameKind.cell)∈scope.names:=fun k e hk=>by
  have hm:=PySem.mem_of_lookup e;obtain ⟨⟨n,k0⟩,hp,e2⟩:=List.mem_map.mp hm
  by_cases hq:(k0 == .free&&env.scope.kind == .function&&env.kindOf n == some .cell)=true
  ·have e3:(n,NameKind.cell)=(y,k):=by rw [<-e2];show _=if _ then _ else _;rw [if_pos hq]
   cases e3
   have:k0=.free:=by simp only [Bool.and_eq_true] at hq;exact eq_of_beq hq.1.1
   subst this;exact .inl hp
  ·have e3:(n,k0)=(y,k):=by rw [<-e2];show _=if _ then _ else _;rw [if_neg hq]
   cases e3
   rcases hk with rfl | rfl
   ·exact .inr hp
   ·exact .inl hp
 rcases h with h | h
 ·exact go _ h (.inl rfl)
 ·exact go _ h (.inr rfl)
theorem zhk:∀{l:List (Str×NameKind)},(l.map (·.1)).Nodup->∀{x:Str} {a b:NameKind},(x,a)∈l->(x,b)∈l->a=b
 | [],_,_,_,_,h,_=>by cases h
 | p::l,nd,x,a,b,h,h'=>by
  rw [List.map_cons,List.nodup_cons] at nd
  rcases List.mem_cons.mp h with h | h<;>rcases List.mem_cons.mp h' with h' | h'
  ·rw [<-h'] at h;exact (Prod.mk.inj h).2
  ·exact absurd (List.mem_map.mpr ⟨_,h',by rw [<-h]⟩) nd.1
  ·exact absurd (List.mem_map.mpr ⟨_,h,by rw [<-h']⟩) nd.1
  ·exact zhk nd.2 h h'
theorem zk5{X:Cx}{scope:Scope}{lo n:Nat}{h:Heap}{cl:List (Str×Addr)}(nd:(scope.names.map (·.1)).Nodup)(hn:lo<=n)(hinj:∀x y c,X.env.cells.lookup x=some c->X.env.cells.lookup y=some c->x=y)
  (hcl:∀y c,cl.lookup y=some c->X.env.cells.lookup y=some c) (hlo:∀y c,X.env.cells.lookup y=some c->c<lo) (hhas:∀y,(y,NameKind.free)∈scope.names->∃c,cl.lookup y=some c) (ok:CellsOk h n (cellsFrom n scope.names [])) :
  OwnC X scope lo h (cellsFrom n scope.names []++cl):=by
 have sort:∀y c,(cellsFrom n scope.names []++cl).lookup y=some c->((cellsFrom n scope.names []).lookup y=some c)\/((cellsFrom n scope.names []).lookup y=none/\cl.lookup y=some c):=fun y c e=>by
  rw [zb4] at e
  cases hq:(cellsFrom n scope.names []).lookup y with
  | some c'=>rw [hq] at e;exact .inl e
  | none=>rw [hq] at e;exact .inr ⟨rfl,e⟩
 refine ⟨fun y c e=>?_,fun y z c e e'=>?_,fun y hy=>?_,fun y c hy e=>?_,fun y hy=>?_⟩
 ·rcases sort y c e with z | ⟨_,z⟩
  ·have:=ok.empty y c (PySem.mem_of_lookup z);exact .inr ⟨this.1,Nat.le_trans hn this.2⟩
  ·exact .inl (hcl y c z)
 ·rcases sort y c e with a | ⟨_,a⟩<;>rcases sort z c e' with b | ⟨_,b⟩
  ·exact name_of_addr ok.apart (PySem.mem_of_lookup a) (PySem.mem_of_lookup b)
  ·have h1:=(ok.empty y c (PySem.mem_of_lookup a)).2;have h2:=hlo z c (hcl z c b);exact absurd (Nat.lt_of_lt_of_le h2 (Nat.le_trans hn h1)) (Nat.lt_irrefl _)
  ·have h1:=(ok.empty z c (PySem.mem_of_lookup b)).2;have h2:=hlo y c (hcl y c a);exact absurd (Nat.lt_of_lt_of_le h2 (Nat.le_trans hn h1)) (Nat.lt_irrefl _)
  ·exact hinj y z c (hcl y c a) (hcl z c b)
 ·rw [zb4]
  cases hq:(cellsFrom n scope.names []).lookup y with
  | some c=>exact ⟨c,rfl⟩
  | none =>
   rcases hy with hy | hy
   ·exact hhas y hy
   ·obtain ⟨c,e⟩:=zb2 scope.names n hy;rw [hq] at e;cases e
 ·obtain ⟨c',e'⟩:=zb2 scope.names n (PySem.mem_of_lookup hy);rw [zb4,e'] at e;have:c'=c:=Option.some.inj e;subst this;exact Nat.le_trans hn (ok.empty y c' (PySem.mem_of_lookup e')).2
 ·obtain ⟨c,e⟩:=hhas y hy;refine ⟨c,?_,hcl y c e⟩;rw [zb4]
  cases hq:(cellsFrom n scope.names []).lookup y with
  | some c' =>
   have:=zc0 scope.names n (PySem.mem_of_lookup hq);cases zhk nd hy this
  | none=>exact e
theorem zlY{pins:Z3}{σ:St}{H:Hp}{s s':Shared}{cl:List (Str×Addr)}{C:Addr}{fp:List Addr}(S:CompScopeG X.env.scope scope X.N xs caps)(hu:∀p∈caps,∀z∈scope.names,z.1=p.1->z.2=.free)
  (I:Inv X pins σ H s) (hcl:OwnC X scope s.heap.objs.size s'.heap cl)
  (hf:∀b∈fp,zmi X pins H b) (hlt:∀b∈fp,b<s.heap.objs.size) (hC:s.heap.objs.size<=C) (ho:s'.os=s.os) (hg:s'.gens=s.gens) (hk:∀b o,s.heap.get? b=some o->s'.heap.get? b=some o) (hn:s'.heap.Ns C (fun _=>none)) :
  Inv (za4 X xs caps scope cl C s H fp) [] (capσ σ xs.length caps) H s':=by
 have cellK:∀y c,cl.lookup y=some c->∃v,s'.heap.IsCell c v:=fun y c e=>by
  rcases hcl.sort y c e with z | z
  ·obtain ⟨v,o,q,d⟩:=I.cell y c z;exact ⟨v,o,hk _ _ q,d⟩
  ·exact ⟨none,z.1⟩
 refine ⟨⟨I.ok.mod,S.kind,I.ok.glob,I.ok.blt,hC,hcl.inj,fun y hy=>hcl.has y (zhb hy),fun y c z e=>hcl.own y c (of_decide_eq_true z) e,I.ok.hd,I.ok.frames,.inl rfl,fun b hb=>⟨Nat.ne_of_lt (Nat.lt_of_lt_of_le (hlt b hb) hC),fun y c e=>(hcl.sort y c e).elim (fun z=>(hf b hb).2.2.2.2.1 y c z) fun z=>Nat.ne_of_gt (Nat.lt_of_lt_of_le (hlt b hb) z.2)⟩,
  I.bs,Nat.le_trans I.ok.bsz I.sz,fun b o e hb=>?_,fun b hb hm=>?_,I.stack,I.stkFree⟩,ho,by rw [hg];exact I.bare,Un.kept hk,⟨_,hn,fun i y v h1 h2 h3=>?_⟩,fun y c e=>cellK y c e,I.hok.fresh hC,fun y c e=>(hcl.sort y c e).elim (I.freeC y c) fun z=>I.hok.fresh z.2,fun p hp=>absurd (show p∈([]:Z3) from hp) (by simp),I.hok.kept hk,?_⟩
 ·rcases (hf b hb).2.2.2.1 with z | z
  ·exact I.ok.noex b o e z
  ·exact absurd (Nat.lt_of_lt_of_le (Heap.lt_size e) (Nat.le_trans I.ok.bsz z)) (Nat.lt_irrefl _)
 ·rcases List.mem_cons.mp (I.stkSub b hm) with z | z
  ·exact (hf b hb).2.1 z
  ·exact (hf b hb).2.2.1 z
 ·have hi:¬ i<xs.length:=fun hi=>by
   have h2':(capσ σ xs.length caps)[i]?=some (some v):=h2;rw [List.getElem?_append_left (by rw [List.length_replicate];exact hi),List.getElem?_replicate] at h2'
   split at h2'<;>cases h2'
  ·have h1':(caps.map (·.1))[i-xs.length]?=some y:=by
    have h1':(xs++caps.map (·.1))[i]?=some y:=h1;rw [List.getElem?_append_right (by omega)] at h1';exact h1'
   rw [List.getElem?_map] at h1'
   have h2':(caps.map fun p=>(σ[p.2]?).join)[i-xs.length]?=some (some v):=by
    have h2':(capσ σ xs.length caps)[i]?=some (some v):=h2;rw [List.getElem?_append_right (by rw [List.length_replicate];omega),List.length_replicate] at h2';exact h2'
   rw [List.getElem?_map] at h2'
   cases hp:caps[i-xs.length]? with
   | none=>rw [hp] at h1';cases h1'
   | some p =>
    rw [hp] at h1' h2';have ey:p.1=y:=Option.some.inj h1';have ev:(σ[p.2]?).join=some v:=Option.some.inj h2';subst ey;have hmem:p∈caps:=List.mem_of_getElem? hp;obtain ⟨c1,c2,c3⟩:=S.cap p hmem
    have eσ:σ[p.2]?=some (some v):=by
     cases q:σ[p.2]? with
     | none=>rw [q] at ev;cases ev
     | some w=>rw [q] at ev;have:w=some v:=ev;rw [this]
    have hfr:=S.free _ c2 rfl;have hv:Vis X.env.scope p.1:=hfr.elim (fun z=>.inr (.inl z)) (fun z=>.inr (.inr z));obtain ⟨m,_,hl⟩:=I.loc;obtain ⟨u,r,l⟩:=hl p.2 p.1 v c1 eσ hv;refine ⟨u,r,.inr ⟨zeB (scope:=scope) (env:=X.env) c2 (hu p hmem),?_⟩⟩;obtain ⟨c,ec,ec2⟩:=hcl.free p.1 c2;refine ⟨c,ec,?_⟩
    rcases l with ⟨z,_⟩ | ⟨_,c',ec',hcell⟩
    ·exact absurd z c3
    ·have:c'=c:=by rw [ec2] at ec';exact (Option.some.inj ec').symm
     subst this;obtain ⟨o,q,d⟩:=hcell;exact ⟨o,hk _ _ q,d⟩
 ·simp [za4,capσ]
theorem zhB{use:Option (Value->Sem Unit)}{Qf:Z5}{R:VK}{pins:Z3}{s:Shared}{σ:St}{H:Hp}(hc:X.calm=true)(S:CompScopeG X.env.scope scope X.N xs caps)(hi:PI X tg iter wi)(hg:∀cl C s H fp,PG (za4 X xs caps scope cl C s H fp) tg g)
  (ht:∀cl C s H fp,PIf (za4 X xs caps scope cl C s H fp) ifs tt) (he:∀cl C s H fp,PE (za4 X xs caps scope cl C s H fp) elt te)
  (hs:∀v,foldedSetIterable iter X.env v=pure v) (I:Inv X pins σ H s) (h:zgY wi g tt te xs.length caps σ H R)
  (fin:∀(D C:Addr) (s4:Shared) (m4:Z6) (H6:Hp) (r:Flow),s4.heap.Ns C m4->(∀{σ':St} {H7:Hp} {s5:Shared} {h':Heap},Inv X pins σ' H7 s5->Heap.SameBut C s5.heap h'->H7 C=none->Inv X pins σ' H7 { s5 with heap:=h' })->H6 C=none->C≠X.env.locals->(∀y c,X.env.cells.lookup y=some c->C≠c)->Inv X pins σ H6 s4->R (.ref D) H6->compPost (model X.prog X.w) X.A X.xe use Qf (.ref D) C (.ok r) s4) :
  wpAny (model X.prog X.w) X.A (comprehension (.ListComp elt [⟨tg,iter,ifs,0⟩] scope pos) scope X.env (firstIterPos [⟨tg,iter,ifs,0⟩] pos) (newList []) false (eval iter X.env) use) Qf X.xe s:=by
 obtain ⟨cl,hclos,hcl,hhas⟩:=zj1 (scope:=scope) (env:=X.env) fun y hy hf=>I.ok.has y.1 (S.free y hy hf)
 refine wpAny_comprehension_free (use:=use) rfl hs hclos S.kind S.names (thn (hi pins s σ H _ I h) fun v s1 h1=>thn h1 fun itv s2 h2=>?_);obtain ⟨it,fp,tn,J,H2,rfl,I2,T,st2,f2,W,⟨m0,w0⟩,turn⟩:=h2;refine wpAny_newObj_type (zcr (fun h₁ hns₁ hsb₁ hok₁=>?_));dsimp only at hns₁ hsb₁ hok₁ ⊢;generalize hHp:s2.heap.push { cls:=.type "list",dict:=none,data:=.seq ([]:List Value).toArray }=Hq at hns₁ hsb₁ hok₁ ⊢
 have hCe:Hq.objs.size=s2.heap.objs.size+1:=by rw [<-hHp,Heap.size_push]
 have hDC:s2.heap.objs.size≠Hq.objs.size:=by rw [hCe];exact Nat.ne_of_lt (Nat.lt_succ_self _)
 have hC:s2.heap.objs.size<=Hq.objs.size:=by rw [hCe];exact Nat.le_succ _
 have old:∀b o,s2.heap.get? b=some o->h₁.get? b=some o:=fun b o e=>hsb₁ b o (hHp ▸ Heap.get?_push_of_some _ e)
 have hacc:h₁.get? s2.heap.objs.size=some (lob [] 0):=hsb₁ _ _ (hHp ▸ Heap.get?_push_size _ rfl)
 have cellX:∀y c,X.env.cells.lookup y=some c->c<s2.heap.objs.size:=fun y c e=>by obtain ⟨v,q⟩:=I2.cell y c e;exact q.lt
 have oc:=zk5 (X:=X) (lo:=s2.heap.objs.size+1) S.nd (by rw [hCe];exact Nat.le_succ _) I.ok.inj hcl (fun y c e=>Nat.lt_succ_of_lt (cellX y c e)) hhas hok₁;generalize hcl2:cellsFrom (Hq.objs.size+1) scope.names []++cl=cl2 at oc ⊢;have oc':OwnC X scope s2.heap.objs.size h₁ cl2:=⟨fun y c e=>(oc.sort y c e).imp id fun z=>⟨z.1,Nat.le_of_succ_le z.2⟩,oc.inj,oc.has,fun y c a e=>Nat.le_of_succ_le (oc.own y c a e),oc.free⟩
 have hlt:∀b∈fp,b<s2.heap.objs.size:=fun b hb=>by obtain ⟨o,e,_⟩:=T.obj 0 _ st2 b hb;exact Heap.lt_size e
 generalize hY:za4 X xs caps scope cl2 Hq.objs.size s2 H2 fp=Y;have PEY:PE Y elt te:=hY ▸ he cl2 _ s2 H2 fp;have PIY:PIf Y ifs tt:=hY ▸ ht cl2 _ s2 H2 fp;have PGY:PG Y tg g:=hY ▸ hg cl2 _ s2 H2 fp
 have I3:Inv Y [] (capσ σ xs.length caps) H2 { s2 with heap:=h₁ }:=by
  rw [<-hY];exact zlY S S.uniq I2 oc' f2 hlt hC rfl rfl old hns₁
 have eYenv:Y.env=compEnvC scope cl2 Hq.objs.size X.env:=by rw [<-hY];rfl
 have eYloc:Y.env.locals=Hq.objs.size:=by rw [eYenv];rfl
 have eYfs:Y.fs=frs X.stack:=by rw [<-hY];rfl
 have eYprog:Y.prog=X.prog:=by rw [<-hY];rfl
 have eYw:Y.w=X.w:=by rw [<-hY];rfl
 have eYK:Y.K=X.K:=by rw [<-hY];rfl
 have eYA:Y.A=X.A:=by rw [<-hY];rfl
 have eYc:Y.calm=true:=by rw [<-hY];exact hc
 have eYex:Y.ex=fp:=by rw [<-hY];rfl
 have eYs:Y.s₀=s2:=by rw [<-hY];rfl
 have eYH:Y.H₀=H2:=by rw [<-hY];rfl
 have eYpn:Y.pn=[]:=by rw [<-hY];rfl
 have eYcell:∀y c,Y.env.cells.lookup y=some c->X.env.cells.lookup y=some c\/s2.heap.objs.size+1<=c:=fun y c e=>(oc.sort y c (by rw [eYenv] at e;exact e)).imp id (·.2)
 have eYxe:∀e s',¬ Y.xe e s':=fun e s' z=>by rw [<-hY] at z;exact z
 have stkX:∀b∈frs X.stack,b<s2.heap.objs.size:=fun b hb=>by
  rcases List.mem_cons.mp (I2.stkSub b hb) with z | z
  ·rw [z];exact I2.lt
  ·refine Nat.not_le.mp fun hle=>I2.nofs hle z
 have pinX:∀p∈X.pn++pins,p.1<s2.heap.objs.size:=fun p hp=>Heap.lt_size (I2.pin p hp).1
 have fpY:∀{H':Hp} {its:List Value} {k:Nat},(∀b∈fp,H' b=none)->∀b∈fp,zmi Y [(s2.heap.objs.size,lob its k)] H' b:=fun {H' its k} hn b hb=>by
  refine ⟨hn b hb,by rw [eYloc];exact Nat.ne_of_lt (Nat.lt_of_lt_of_le (hlt b hb) hC),?_,.inl (by rw [eYex];exact hb),fun y c e=>(eYcell y c e).elim (fun z=>(f2 b hb).2.2.2.2.1 y c z) fun z=>Nat.ne_of_gt (Nat.lt_of_lt_of_le (hlt b hb) (Nat.le_of_succ_le z)),fun p hp=>?_⟩
  ·rw [eYfs];intro hm
   rcases List.mem_cons.mp (I2.stkSub b hm) with z | z
   ·exact (f2 b hb).2.1 z
   ·exact (f2 b hb).2.2.1 z
  ·rw [eYpn] at hp
   have e:p=(s2.heap.objs.size,lob its k):=by simpa using hp
   rw [e];exact Nat.ne_of_gt (hlt b hb)
 have pinD:∀{H':Hp} {σ':St} {s':Shared} {its:List Value} {k:Nat},Inv Y [] σ' H' s'->s'.heap.get? s2.heap.objs.size=some (lob its k)->H' s2.heap.objs.size=none->Inv Y [(s2.heap.objs.size,lob its k)] σ' H' s':=fun {H' σ' s' its k} I' e n =>
  I'.pins_of fun p hp=>by
   have ep:p=(s2.heap.objs.size,lob its k):=by simpa using hp
   subst ep;refine ⟨e,n,by rw [eYloc];exact hDC,?_,fun v z=>?_⟩
   ·rw [eYfs];exact fun hm=>Nat.lt_irrefl _ (stkX _ hm)
   ·have z':Data.seq its.toArray k=Data.cell v:=z;cases z'
 have loop:codeAny (model X.prog X.w) X.A (.compLoop (.ListComp elt [⟨tg,iter,ifs,0⟩] scope pos) 0 (.ref it) (.ref s2.heap.objs.size) (compEnvC scope cl2 Hq.objs.size X.env))
   (compPost (model X.prog X.w) X.A X.xe use Qf (.ref s2.heap.objs.size) Hq.objs.size) { s2 with heap:=h₁ }:=by
  refine zm7 (fun n s'=>∃i σx H' ys its k,Inv Y [(s2.heap.objs.size,lob its k)] σx H' s'/\tn i s'.heap/\(∀b∈fp,H' b=none)/\Vals ys its/\W i n ys σx H') ?_ m0
   ⟨0,capσ σ xs.length caps,H2,[],[],0,pinD I3 hacc (I2.hok.fresh (Nat.le_refl _)),T.keep _ _ _ st2 fun b hb o e=>old b o e,fun b hb=>(f2 b hb).1,.nil,w0⟩
  rintro n s3 ⟨i,σx,H3,ys,its,k,J3,st3,fr3,rv,w3⟩;obtain ⟨hz,hcase⟩:=turn i n ys σx H3 w3
  rcases hcase with ⟨stop,q⟩ | ⟨go,step⟩
  ·have hd:=T.done Y eYprog eYw eYK eYc i _ s3 _ H3 (notedBy (model X.prog X.w) X.A (compEnvC scope cl2 Hq.objs.size X.env) fun e s'=>compPost (model X.prog X.w) X.A X.xe use Qf (.ref s2.heap.objs.size) Hq.objs.size (.error e) s') J3 (fpY fr3) st3 stop;rw [eYA] at hd;refine thn hd fun r s4 ⟨hr,J4⟩=>?_
   subst hr;obtain ⟨m4,hn4,_⟩:=J4.loc
   have hn4':s4.heap.Ns Hq.objs.size m4:=by rw [<-eYloc];exact hn4
   have hnC:H3 Hq.objs.size=none:=by rw [<-eYloc];exact J4.free
   have hk5:HOk X.prog X.w H3 s4.heap:=by rw [<-eYprog,<-eYw];exact J4.hok
   have u5:Un (frs X.stack) fp H2 H3 s2.heap s4.heap:=by
    have ub:=J4.base;rw [eYfs,eYex,eYH,eYs] at ub;exact ub
   have J5:Inv X pins σ H3 s4:=I2.call' (s':=s4) (ch:=fp) (by have:=J4.os;rw [eYs] at this;exact this) u5 hk5 J4.bare fun b hb=>⟨(f2 b hb).2.2.2.1,(f2 b hb).2.1,(f2 b hb).2.2.2.2.1,(f2 b hb).2.2.2.2.2⟩
   have hp4:=J4.pin (s2.heap.objs.size,lob its k) (List.mem_append_right _ List.mem_cons_self);have hD5:s4.heap.get? s2.heap.objs.size=some (lob its k):=hp4.1;have J6:Inv X pins σ (upd H3 s2.heap.objs.size (.lst ys)) s4:=J5.track hp4.2.1 I2.sz (Nat.ne_of_gt I2.lt) (fun y c e=>Nat.ne_of_lt (cellX y c e)) (fun p hp=>Nat.ne_of_lt (pinX p hp)) (show zbQ X.prog X.w _ s4.heap _ (.lst ys) from ⟨hz,its,k,rv,hD5⟩);have hCloc:Hq.objs.size≠X.env.locals:=Nat.ne_of_gt (Nat.lt_of_lt_of_le I2.lt hC);exact fin _ Hq.objs.size s4 m4 _ _ hn4' (fun {σ'} {H7} {s5} {h'} J sb' hn=>J.turned (t':=s5.toks) (it:=Hq.objs.size) (fun b o hb e=>(sb'.2 b hb).trans e) hn hCloc (.inr (Nat.le_trans I2.sz hC)) (fun y c e=>Nat.ne_of_lt (Nat.lt_of_lt_of_le (cellX y c e) hC)) (fun p hp=>Nat.ne_of_lt (Nat.lt_of_lt_of_le (pinX p hp) hC))) (by rw [zam (Ne.symm hDC)];exact hnC) hCloc (fun y c e=>Nat.ne_of_gt (Nat.lt_of_lt_of_le (cellX y c e) hC)) J6 (q _ hp4.2.1)
  ·have hd:=T.item Y eYprog eYw eYK eYc i _ s3 _ H3 (notedBy (model X.prog X.w) X.A (compEnvC scope cl2 Hq.objs.size X.env) fun e s'=>compPost (model X.prog X.w) X.A X.xe use Qf (.ref s2.heap.objs.size) Hq.objs.size (.error e) s') J3 (fpY fr3) st3 go;rw [eYA] at hd;refine thn hd fun r s4 ⟨u,hr,h4⟩=>?_
   subst hr;refine thn h4 fun _ s5 ⟨v4,H4,J4,r4,y4,st5,fr4⟩=>?_
   have J4':=J4.pinned (fp:=fp) (fpY fr4) (T.obj _ _ st5);have ha:=PGY _ s5 σx H4 v4 u _ J4' r4 (step v4 H4 y4);rw [eYprog,eYw,eYA,eYenv] at ha;refine wpAny_mono ha (fun _ s5' ⟨σ5,H5,J5',q5⟩=>?_) fun e s' z=>(eYxe _ _ z).elim
   have ht5:=PIY _ s5' σ5 H5 _ J5' q5;rw [eYprog,eYw,eYA,eYenv] at ht5;refine wpAny_mono ht5 (fun ok s6 ⟨H6,J6,q6⟩=>?_) fun e s' z=>(eYxe _ _ z).elim
   have back:∀{H7:Hp} {s7:Shared},Inv Y ([(s2.heap.objs.size,lob its k)]++zhf fp s5.heap) σ5 H7 s7->tn (i+1) s7.heap/\∀b∈fp,H7 b=none:=fun {H7 s7} J7 =>
    ⟨T.keep _ _ _ st5 fun b hb o e=>(J7.pin (b,o) (List.mem_append_right _ (List.mem_append_right _ (zdr hb e)))).1,fun b hb=>by
     obtain ⟨o,e,d⟩:=T.obj _ _ st5 b hb
     exact (J7.pin (b,o) (List.mem_append_right _ (List.mem_append_right _ (zdr hb e)))).2.1⟩
   cases ok with
   | false =>
    rw [if_neg Bool.false_ne_true] at q6;rw [if_neg Bool.false_ne_true];obtain ⟨m',hm',w6⟩:=q6;exact ⟨m',hm',i+1,σ5,H6,ys,its,k,J6.unpinned,(back J6).1,(back J6).2,rv,w6⟩
   | true =>
    rw [if_pos rfl] at q6;rw [if_pos rfl];have he6:=PEY _ s6 _ H6 _ J6 q6;rw [eYprog,eYw,eYA,eYenv] at he6;refine wpAny_mono he6 (fun u7 s7 ⟨v7,H7,J7,r7,m',hm',w7⟩=>?_) fun e s' z=>(eYxe _ _ z).elim
    obtain ⟨st7,fr7⟩:=back J7;have hp7:=(J7.unpinned).pin (s2.heap.objs.size,lob its k) (List.mem_append_right _ List.mem_cons_self);have hl:=rv.length;refine append_at (hsz:=by show its.toArray.size<=sizeLine;rw [List.size_toArray];omega) hp7.1 fun h8 sb8 hD8=>?_
    have J7':Inv Y [] σ5 H7 s7:=J7.unpinned.pins_of fun p hp=>absurd hp (by simp)
    have J8:Inv Y [] σ5 H7 { s7 with heap:=h8 }:=J7'.turned (t':=s7.toks) (it:=s2.heap.objs.size) (fun b o hb e=>(sb8.2 b hb).trans e) hp7.2.1 (by rw [eYloc];exact hDC) (.inr (by rw [eYs];exact Nat.le_refl _)) (fun y c e=>(eYcell y c e).elim (fun z=>Nat.ne_of_lt (cellX y c z)) fun z=>Nat.ne_of_gt z) (fun p hp=>by rw [eYpn] at hp;simp at hp)
    have hD8':h8.get? s2.heap.objs.size=some (lob (its++[u7]) (k+1)):=by rw [hD8];simp [lob]
    exact ⟨m',hm',i+1,σ5,H7,ys++[v7],its++[u7],k+1,pinD J8 hD8' hp7.2.1,T.keep _ _ _ st7 fun b hb o e=>(sb8.2 b (Nat.ne_of_lt (hlt b hb))).trans e,fr7,rv.append (.cons r7 .nil),w7⟩
 exact codeAny_compStart_list loop (T.self X.A 0 _ _ _ (T.keep _ _ _ st2 fun b hb o e=>old b o e) loop)
theorem ziR(hc:X.calm=true)(S:CompScopeG X.env.scope scope X.N xs caps)(hi:PI X tg iter wi)(hg:∀cl C s H fp,PG (za4 X xs caps scope cl C s H fp) tg g)
  (ht:∀cl C s H fp,PIf (za4 X xs caps scope cl C s H fp) ifs tt) (he:∀cl C s H fp,PE (za4 X xs caps scope cl C s H fp) elt te)
  (hs:∀v,foldedSetIterable iter X.env v=pure v:=by intro _;rfl):PE X (.ListComp elt [⟨tg,iter,ifs,0⟩] scope pos) (zgY wi g tt te xs.length caps):=by
 intro pins s σ H Q I h;rw [eval_ListComp];exact zhB (use:=none) hc S hi hg ht he hs I h fun D C s4 m4 H6 r hn tr hC _ _ J6 q=>⟨m4,hn,fun h5 sb=>⟨.ref D,H6,tr J6 sb hC,rfl,q⟩⟩
theorem ziO{k0:Nat}{y0:Str}{py spos:Pos}(hc:X.calm=true)(S:CompScopeG X.env.scope scope X.N xs caps)(hN0:X.N.Nodup)(hi0:X.N[k0]?=some y0)(hx0:Loc X.env.scope y0)(hi:PI X tg iter wi)(hg:∀cl C s H fp,PG (za4 X xs caps scope cl C s H fp) tg g)
  (ht:∀cl C s H fp,PIf (za4 X xs caps scope cl C s H fp) ifs tt) (he:∀cl C s H fp,PE (za4 X xs caps scope cl C s H fp) elt te)
  (hsw:swapsWith (.ListComp elt [⟨tg,iter,ifs,0⟩] scope pos) (some (.Name y0 py)) spos.line X.env=pure true)
  (hf0:X.fn y0=true\/X.env.scope.names.lookup y0=some .local)
  (hs:∀v,foldedSetIterable iter X.env v=pure v):PS X (.Assign [.Name y0 py] (.ListComp elt [⟨tg,iter,ifs,0⟩] scope pos) spos) (znU (zgY wi g tt te xs.length caps) (zie k0)):=by
 intro pins s σ H DD I h;rw [exec_Assign_Name_used _ _ _ _ hsw];refine wpAny_bind (wpAny_standAt (wpAny_bind ?_));show wpAny _ X.A (do let _ ← comprehension (.ListComp elt [⟨tg,iter,ifs,0⟩] scope pos) scope X.env _ (newList []) false (eval iter X.env) (some (assign (.Name y0 py) X.env))) _ _ s;refine wpAny_bind (wpAny_mono (zhB (use:=some (assign (.Name y0 py) X.env)) (Qf:=fun _ s'=>SP X pins DD .next s') hc S hi hg ht he hs I h fun D C s4 m4 H6 r hn tr hC hl hce J6 q=>?_) (fun _ s' hq=>wpAny_pure (wpAny_pure hq)) fun _ _ e=>e);show wpAny _ X.A (assign (.Name y0 py) X.env (.ref D)) _ X.xe s4;refine wpAny_assign_Name (zg0 (i:=k0) J6 hN0 hi0 hx0 (v:=.ref D) rfl (fun s5 J7 ⟨a,sb,ha⟩=>?_) hf0);have haC:C≠a:=ha.elim (fun z=>by rw [z];exact hl) fun z=>hce _ _ z
 exact ⟨m4,hn.sameBut sb haC,fun h' sb'=>⟨_,_,tr J7 sb' hC,q⟩⟩
end
end L2
namespace ST
open PySem PySem.SetTable
end ST
namespace ST
open PySem PySem.SetTable
end ST
namespace ST
open PySem PySem.SetTable
end ST
namespace ST
open PySem PySem.Spec PyProof.Rows
section
variable{prog:Program}{w:World}{A:Around}{E:Z5}{s:Shared}
end
end ST
namespace ST
open PySem PySem.Spec PyProof.Rows
section
variable{prog:Program}{w:World}{A:Around}{E:Z5}{s:Shared}
end
end ST
namespace ST
open PySem PySem.Spec PyProof.Rows
section
variable{prog:Program}{w:World}{A:Around}{R:Result->Shared->Prop}{s:Shared}
end
end ST
namespace PySem
section
variable{prog:Program}{w:World}{A:Around}{E:Z5}{s:Shared}
end
end PySem
namespace L2
open PySem PySem.Spec PyProof.Rows
section
variable{X:Cx}{a b c:Expr}{ta tb tc:TE}{pos:Pos}
theorem zit:zez X (.builtin "isinstance") (fun xs H Q=>∃x t c k,xs=[x,.ty c]/\TyOf X.K H x t/\PySem.W.kitOne X.K t (.type c)=some k/\Q (.bl k) H):=by
 intro pins s σ H xs us Q I r h;obtain ⟨x,t,c,k,rfl,ty,e,q⟩:=h
 cases r with
 | cons r1 rr =>
  cases rr with
  | cons r2 r3 =>
   cases r3;cases (show _=Value.type c from r2);exact zlt I r1 ty e fun tk=>⟨.bl k,H,I.tok tk,rfl,q⟩
theorem zgv(bs:List Bool):((List.range bs.length).all fun i=>(bs[i]?).getD true)=bs.all id:=by
 rw [Bool.eq_iff_iff,List.all_eq_true,List.all_eq_true];constructor
 ·intro h b hb;obtain ⟨i,hi,e⟩:=List.mem_iff_getElem.mp hb;have:=h i (List.mem_range.mpr hi);rw [List.getElem?_eq_getElem hi,e] at this;exact this
 ·intro h i hi;have hi':=List.mem_range.mp hi;rw [List.getElem?_eq_getElem hi'];exact h _ (List.getElem_mem hi')
theorem ziu(hc:X.calm=true):zez X (.builtin "all") (fun xs H Q=>∃(p:Addr) (bs:List Bool),xs=[.ref p]/\SqL X.K H p (bs.map V.bl)/\Q (.bl (bs.all id)) H):=by
 intro pins s σ H xs us Q I r h;obtain ⟨p,bs,rfl,hq,q⟩:=h;obtain ⟨u,rfl,rx⟩:=zhN r;cases rx;obtain ⟨its,rv,pl,hz⟩:=I.list hq;have hl:=pl.isList
 have hlt:p<s.heap.objs.size:=by obtain ⟨_,e,_⟩:=hl;exact Heap.lt_size e
 have hn:its.length=bs.length:=by have:=rv.length;rw [List.length_map] at this;exact this.symm
 refine call_all_walk (wpAny_pyIter_list hl ?_);refine ⟨s.heap.objs.size,[s.heap.objs.size,p],[s.heap.objs.size],its.toArray.size,_,_,fun i=>(bs[i]?).getD true,rfl,Walks.list (A:=X.A.in1) (I.ok.hd hc) _ p (Nat.ne_of_lt hlt) its.toArray,⟨⟨_,Heap.get?_push_size _ rfl,rfl,rfl⟩,hl.push _⟩,fun i v s' Q' E' hP hQ=>?_,fun h' tk hk=>?_⟩
 ·have hv:its[i]?=some v:=by simpa using hP
  have hi:i<bs.length:=by rw [<-hn];exact (List.getElem?_eq_some_iff.mp hv).1
  obtain ⟨u,hu,ru⟩:=rv.get (i:=i) (x:=.bl bs[i]) (by rw [List.getElem?_map,List.getElem?_eq_getElem hi];rfl);rw [hv] at hu;cases hu;cases (show v=Value.bool bs[i] from ru);refine wpAny_truthy_bool ?_;have hQ':Q' ((bs[i]?).getD true) s':=hQ;rw [List.getElem?_eq_getElem hi] at hQ';exact hQ'
 ·rw [List.size_toArray,hn,zgv];refine ⟨.bl _,H,I.kept (t':=tk) fun b o e=>?_,rfl,q⟩;exact hk b o (fun hm=>by rw [List.mem_singleton.mp hm] at e;exact Nat.lt_irrefl _ (Heap.lt_size e)) (Heap.get?_push_of_some _ e)
theorem zh2:OpR X (compareOp .IsNot) (fun x y H Q=>∃i j,x=.bl i/\y=.bl j/\Q (.bl (!decide (i=j))) H):=by
 intro pins s σ H x y v u Q I rx ry h;obtain ⟨i,j,rfl,rfl,q⟩:=h;cases rx;cases ry;show wpAny _ _ (isSame (Value.bool i) (Value.bool j) >>= fun r=>pure (Value.bool (!r))) _ _ s;refine wpAny_bind (wpAny_isSame_plain (by rfl) (wpAny_pure ?_));refine ⟨.bl (!decide (i=j)),H,I,?_,q⟩;show _=Value.bool _;congr 1
 cases i<;>cases j<;>rfl
theorem zmW:OpR X (binaryOp .Add) (fun x y H Q=>∃(a b:Addr) (ys:List V),x=.ref a/\y=.ref b/\SqT X.K H a []/\SqT X.K H b ys/\Q (.ref b) H):=by
 intro pins s σ H x y v u Q I rx ry h;obtain ⟨a,b,ys,rfl,rfl,ha,hb,q⟩:=h;cases rx;cases ry;obtain ⟨its,r1,p1,_⟩:=I.tuple ha;obtain ⟨its2,r2,p2,_⟩:=I.tuple hb;cases r1;obtain ⟨⟨cls,dd,data,sl⟩,ho,hc,n,hd⟩:=id p1;obtain ⟨⟨cls2,dd2,data2,sl2⟩,ho2,hc2,n2,hd2⟩:=id p2;simp only at hc hd hc2 hd2;subst hc hd hc2 hd2
 exact concat_meets ⟨_,ho,rfl⟩ ⟨_,ho2,rfl⟩ noFill_tuple_add seq_tuple_add PySem.F.slot_tuple_add PySem.F.entry_tuple_add (PySem.F.args_tuple_add_2 _ _)
  (tuple_addW0 a b ([]:List Value).toArray its2.toArray n n2 dd dd2 sl sl2 (by rfl)) ⟨ho,ho2,⟨.ref b,H,I,rfl,q⟩⟩
end
end L2
namespace PySem
open PySem.Spec PyProof.Rows
theorem zdD:fillsNumberSlot (.type "tuple") "mul" = pure false :=
 fillsNumberSlot_seq (id:="tuple.__mul__") (r:=some (.builtin "tuple.__rmul__")) F.slot_tuple_mul.lookup (by decide +kernel) F.slot_tuple_rmul.lookup (by decide +kernel)
theorem zfX:seqRepeat? (.type "tuple")=pure (some (.builtin "tuple.__mul__")):=by
 have e1:=seqSlot_of (T:="tuple") (name:="__mul__") (id:="tuple.__mul__") F.slot_tuple_mul.lookup (by decide +kernel);have e2:=seqSlot_of (T:="tuple") (name:="__rmul__") (id:="tuple.__rmul__") F.slot_tuple_rmul.lookup (by decide +kernel);unfold seqRepeat?;rw [e1,e2];rfl
theorem zeE(a:Int)(t:Tok)(l:Addr)(o:Obj){its:Array Value}{n:Nat}(hc:o.cls=.type "tuple")(hdd:o.data=.seq its n) :
  Meets (Builtin.«int.__rmul__» ⟨[.int a t,.ref l],[]⟩) (fun _ R s=>s.heap.get? l=some o/\R (.ok (.ret Value.notImplemented)) s) :=
 .of_wp fun prog w A R s h=>by
  obtain ⟨c,d,dt,sl⟩:=o;simp only at hc hdd;subst hc hdd;obtain ⟨hp,g,dr,tk,os⟩:=s;obtain ⟨hl,h⟩:=h
  wp_walk
  exact ⟨_,rfl,h⟩
section
variable{prog:Program}{w:World}{A:Around}{E:Z5}{s:Shared}
theorem zgV{a:Addr}{o:Obj}{its:Array Value}{n:Nat}{k:Int}{t:Tok}{P:Fin->Shared->Prop}(ho:s.heap.get? a=some o)(hc:o.cls=.type "tuple")(hd:o.data=.seq its n)(hne:its.isEmpty=false)(h2:2<=k)(hz:(its.size:Int)*k<=1000000)(hk:k<=1000)
  (h:P (.done (.ret (.ref s.heap.objs.size))) { s with heap:=s.heap.push { cls:=.type "tuple",data:=.seq ((List.replicate k.toNat its).foldl (·++·) #[]) } }) (hsz:((List.replicate k.toNat its).foldl (·++·) #[]).size<=sizeLine) :
  wpAny (model prog w) A (Builtin.«tuple.__mul__» ⟨[.ref a,.int k t],[]⟩) P E s:=by
 show wpAny _ _ (asIndex (.int k t) >>= _) _ _ s;refine wpAny_bind ?_;unfold asIndex;refine wpAny_bind (wpAny_pure ?_);dsimp only;refine wpAny_pure ?_
 have e0:(decide (k < -(2 ^ 63))||decide (k ≥ 2 ^ 63))=false:=by
  rw [Bool.or_eq_false_iff];refine ⟨decide_eq_false ?_,decide_eq_false ?_⟩
  ·omega
  ·omega
 rw [e0];simp only [Bool.false_eq_true,if_false];refine wpAny_bind (wpAny_tupleItemsOf ho hd ?_)
 have e1:(its.isEmpty||k == 1)=false:=by rw [hne,Bool.false_or];simp;omega
 rw [e1];simp only [Bool.false_eq_true,if_false]
 have e2:(decide (k<=0)||its.isEmpty)=false:=by rw [hne,Bool.or_false];exact decide_eq_false (by omega)
 rw [e2];simp only [Bool.false_eq_true,if_false];rw [if_neg (by omega)]
 have e3:Builtin.Tuple.tupleTooMany (its.size*k)=false:=by
  unfold Builtin.Tuple.tupleTooMany;refine decide_eq_false ?_
  have:(1000000:Int)<=(sizeLine:Int):=by decide
  omega
 rw [e3];simp only [Bool.false_eq_true,if_false];unfold Builtin.Tuple.tupleExact;exact wpAny_bind (wpAny_newObj_type (wpAny_pure h) hsz)
theorem zgU{a:Addr}{o:Obj}{its:Array Value}{n:Nat}{t:Tok}{P:Fin->Shared->Prop}(ho:s.heap.get? a=some o)(hc:o.cls=.type "tuple")(hd:o.data=.seq its n)(h:P (.done (.ret (.ref a))) s) :
  wpAny (model prog w) A (Builtin.«tuple.__mul__» ⟨[.ref a,.int 1 t],[]⟩) P E s:=by
 show wpAny _ _ (asIndex (.int 1 t) >>= _) _ _ s;refine wpAny_bind ?_;unfold asIndex;refine wpAny_bind (wpAny_pure ?_);dsimp only;refine wpAny_pure ?_
 have e0:(decide ((1:Int) < -(2 ^ 63))||decide ((1:Int) ≥ 2 ^ 63))=false:=by decide
 rw [e0];simp only [Bool.false_eq_true,if_false];refine wpAny_bind (wpAny_tupleItemsOf ho hd ?_)
 have e1:(its.isEmpty||(1:Int) == 1)=true:=by simp
 rw [e1];simp only [if_true];unfold Builtin.Tuple.tupleIsExact;refine wpAny_bind (wpAny_bind (wpAny_typeOf (T:="tuple") ⟨o,ho,hc⟩ (wpAny_pure ?_)));simp only [beq_self_eq_true,if_true];exact wpAny_bind (wpAny_rule (wpAny_pure h))
theorem zpF{a:Addr}{o:Obj}{its:Array Value}{n:Nat}{k:Int}{t:Tok}{Q:Z5}(ho:s.heap.get? a=some o)(hc:o.cls=.type "tuple")(hd:o.data=.seq its n)(hne:its.isEmpty=false)(h2:2<=k)(hz:(its.size:Int)*k<=1000000)(hk:k<=1000)
  (h:Q (.ref s.heap.objs.size) { s with heap:=s.heap.push { cls:=.type "tuple",data:=.seq ((List.replicate k.toNat its).foldl (·++·) #[]) } }) (hsz:((List.replicate k.toNat its).foldl (·++·) #[]).size<=sizeLine) :
  wpAny (model prog w) A (binaryOp .Mult (.ref a) (.int k t)) Q E s:=by
 have hT:s.TypeIs (.ref a) "tuple":=⟨o,ho,hc⟩
 refine wpAny_binaryOp_repeat_ref (T:="tuple") (U:="int") (by decide) hT (fun s'=>typeIs_int s' k t) zdD F.fills_int_mul F.slot_int_rmul zfX F.slot_int_index.lookup
  (call_meets F.slot_int_rmul (typeIs_int s k t) F.entry_int_rmul (F.args_int_rmul_2 _ _) (zeE k t a o hc hd) ⟨ho,rfl,hT,?_⟩)
 exact wpAny_call_entry F.slot_tuple_mul hT F.entry_tuple_mul (zgV ho hc hd hne h2 hz hk ⟨_,rfl,h⟩ hsz) (F.args_tuple_mul_2 _ _)
theorem zm1{a:Addr}{o:Obj}{its:Array Value}{n:Nat}{t:Tok}{Q:Z5}(ho:s.heap.get? a=some o)(hc:o.cls=.type "tuple")(hd:o.data=.seq its n)(h:Q (.ref a) s):wpAny (model prog w) A (binaryOp .Mult (.ref a) (.int 1 t)) Q E s:=by
 have hT:s.TypeIs (.ref a) "tuple":=⟨o,ho,hc⟩
 refine wpAny_binaryOp_repeat_ref (T:="tuple") (U:="int") (by decide) hT (fun s'=>typeIs_int s' 1 t) zdD F.fills_int_mul F.slot_int_rmul zfX F.slot_int_index.lookup
  (call_meets F.slot_int_rmul (typeIs_int s 1 t) F.entry_int_rmul (F.args_int_rmul_2 _ _) (zeE 1 t a o hc hd) ⟨ho,rfl,hT,?_⟩)
 exact wpAny_call_entry F.slot_tuple_mul hT F.entry_tuple_mul (zgU ho hc hd ⟨_,rfl,h⟩) (F.args_tuple_mul_2 _ _)
end
end PySem
namespace L2
open PySem PySem.Spec PyProof.Rows
inductive D where
 | non | bl (b:Bool) | int (i:Int) | str (x:Str) | tup (l:List D) | lst (l:List D)
section
variable{X:Cx}
theorem zpt:OpR X (binaryOp .Mult) (fun x y H Q=>∃(p:Addr) (k:Int) (xs:List V),x=.ref p/\y=.int k/\SqT X.K H p xs/\xs≠[]/\2<=k/\k<=1000/\xs.length<=1000/\∀l,H l=none->Q (.ref l) (upd H l (.tup (List.replicate k.toNat xs).flatten))):=by
 intro pins s σ H x y v u Q I rx ry h;obtain ⟨p,k,xs,rfl,rfl,hq,hne,h2,hk,hx,q⟩:=h;cases rx;obtain ⟨t,rfl⟩:=ry;obtain ⟨its,rv,⟨o,ho,hc,n,hd⟩,_⟩:=I.tuple hq;have hl:=rv.length
 have hnew:(List.replicate k.toNat its.toArray).foldl (·++·) #[]=(List.replicate k.toNat its).flatten.toArray:=by
  have:=zfs its k.toNat [];rw [List.nil_append] at this;exact this
 have hsz:(List.replicate k.toNat its).flatten.length<=1000000:=by
  rw [zh7];exact Nat.le_trans (Nat.mul_le_mul (show k.toNat<=1000 by omega) (show its.length<=1000 by omega)) (by decide)
 have hline:(1000000:Nat)<=sizeLine:=by decide
 refine zpF ho hc hd ?_ h2 ?_ hk ?_ ?_
 ·have:its≠[]:=fun z=>hne (by cases xs with | nil=>rfl | cons a r=>rw [z] at hl;cases hl)
  simpa using this
 ·rw [List.size_toArray];have:=Int.mul_le_mul (show (its.length:Int)<=1000 by omega) hk (by omega) (by omega);omega
 ·rw [hnew];refine ⟨.ref s.heap.objs.size,_,I.laid (t':=s.toks) (o:=.tup (List.replicate k.toNat xs).flatten) (fun b ob q=>Heap.get?_push_of_some _ q) (Nat.le_refl _) ?_,rfl,q _ (I.hok.fresh (Nat.le_refl _))⟩;refine ⟨?_,_,rv.rep k.toNat,IsTup.new _ _⟩;rw [zh7] at hsz ⊢;rw [<-hl] at hsz;omega
 ·rw [hnew,List.size_toArray];omega
end
end L2
namespace HT
open PySem PySem.Spec PyProof.Rows L2
section
variable{prog:Program}{w:World}{A:Around}{E:Z5}{s:Shared}
theorem zeq{t sl:Addr}{items:Array Value}{vl vu:Value}{lo hi:Option Int}{Q:Z5}(ht:IsTup s.heap t items)(hs:s.heap.IsSliceOf sl vl vu .none)(pl:IsPart vl lo)(pu:IsPart vu hi)
  (h1:sIx items.size 0 lo=0) (h2:sIx items.size items.size hi=items.size) (h:Q (.ref t) s):wpAny (model prog w) A (getItem (.ref t) (.ref sl)) Q E s:=by
 obtain ⟨os,hos,hcs,hds⟩:=id hs;have hTs:s.TypeIs (.ref sl) "slice":=⟨os,hos,hcs⟩;unfold getItem
 try with_reducible refine wpAny_holding ?_
 first | refine wpAny_bind (wpAny_pure ?_) | skip
 refine wpAny_bind (wpAny_sequenceKey ht.typeIs (by decide) ?_)
 refine wpAny_bind (wpAny_callSpecial?_slot (name:=Str.ofString "__getitem__") ht.typeIs PyProof.Rows.slot_tuple_getitem
  (wpAny_call_entry PyProof.Rows.slot_tuple_getitem ht.typeIs entry_tuple_getitem ?_ (args_tuple_getitem _ _)))
 show wpAny _ _ (Builtin.Tuple.tupleItemsOf (.ref t) >>= _) _ _ s;refine wpAny_bind (tupleItemsOf_ ht ?_);refine wpAny_bind (wpAny_typeOf hTs ?_);rw [if_pos (by decide)];refine wpAny_bind (zc2 hs pl pu ?_);rw [h1,h2];show wpAny _ _ (if ((((0:Nat):Int) == 0&&(1:Int) == 1&&(items.size-0) == items.size)=true) then _ else _) _ _ s;rw [if_pos (by simp)];unfold Builtin.Tuple.tupleIsExact;refine wpAny_bind (wpAny_bind (wpAny_typeOf ht.typeIs (wpAny_pure ?_)));simp only [beq_self_eq_true,if_true];refine wpAny_bind (wpAny_rule ?_)
 first
  | exact wpAny_pure ⟨_,rfl,wpAny_pure h⟩
  | exact wpAny_bind (wpAny_pure (wpAny_pure ⟨_,rfl,wpAny_pure h⟩))
end
end HT
namespace L2
open PySem PySem.Spec PyProof.Rows
theorem zjB{X:Cx}:SlR X (fun x lo hi H Q=>∃(a:Addr) (xs:List V),x=.ref a/\SqT X.K H a xs/\HT.sIx xs.length 0 lo=0/\HT.sIx xs.length xs.length hi=xs.length/\Q (.ref a) H):=by
 intro pins s σ H x v vl vu lo hi sl Q I rx hs pl pu h;obtain ⟨a,xs,rfl,hx,h1,h2,q⟩:=h;cases rx;obtain ⟨its,r,ht,hz⟩:=I.tuple hx
 have hlen:its.toArray.size=xs.length:=by rw [List.size_toArray];exact r.length.symm
 refine ⟨"tuple",_,PyProof.Rows.slot_tuple_getitem.lookup,ht.typeIs,?_⟩;exact HT.zeq ht hs pl pu (by rw [hlen];exact h1) (by rw [hlen];exact h2) ⟨.ref a,H,I,rfl,q⟩
end L2
namespace L2
open PySem PySem.Spec PyProof.Rows
mutual
def D.py:D->PyData
 | .non=>.none
 | .bl b=>.bool b
 | .int i=>.int i
 | .str x=>.str x
 | .tup l=>.tuple (D.pys l)
 | .lst l=>.list (D.pys l)
def D.pys:List D->List PyData
 | []=>[]
 | d::l=>d.py::D.pys l
end
mutual
def D.fit:Nat->D->Bool
 | _,.non=>true
 | _,.bl _=>false
 | _,.int _=>true
 | _,.str x=>PyData.strOk x
 | 0,.tup _=>false
 | n+1,.tup l=>D.fits n l
 | 0,.lst _=>false
 | n+1,.lst l=>D.fits n l
def D.fits:Nat->List D->Bool
 | _,[]=>true
 | n,d::l=>d.fit n&&D.fits n l
end
theorem D.fits_iff{n:Nat}:∀{l:List D},D.fits n l=true↔∀d∈l,d.fit n=true
 | []=>by simp [D.fits]
 | d::l=>by simp [D.fits,D.fits_iff (l:=l)]
mutual
theorem D.lay:∀{n:Nat} {d:D},d.fit n=true->d.py.canLay0=true/\d.py.depth<=n
 | _,.non,_=>⟨rfl,Nat.zero_le _⟩
 | _,.bl _,h=>by simp [D.fit] at h
 | _,.int _,_=>⟨rfl,Nat.zero_le _⟩
 | _,.str x,h=>⟨by simpa [D.fit,D.py,PyData.canLay0] using h,Nat.zero_le _⟩
 | 0,.tup _,h=>by simp [D.fit] at h
 | 0,.lst _,h=>by simp [D.fit] at h
 | n+1,.tup l,h=>by
  have h':D.fits n l=true:=by simpa [D.fit] using h
  obtain ⟨a,b⟩:=D.lays h';exact ⟨by simpa [D.py,PyData.canLay0] using a,by simp only [D.py,PyData.depth];omega⟩
 | n+1,.lst l,h=>by
  have h':D.fits n l=true:=by simpa [D.fit] using h
  obtain ⟨a,b⟩:=D.lays h';exact ⟨by simpa [D.py,PyData.canLay0] using a,by simp only [D.py,PyData.depth];omega⟩
theorem D.lays:∀{n:Nat} {l:List D},D.fits n l=true->PyData.canLayAll0 (D.pys l)=true/\PyData.depthAll (D.pys l)<=n
 | _,[],_=>⟨rfl,Nat.zero_le _⟩
 | n,d::l,h=>by
  simp only [D.fits,Bool.and_eq_true] at h;obtain ⟨a,b⟩:=D.lay h.1;obtain ⟨c,e⟩:=D.lays h.2;exact ⟨by simp [D.pys,PyData.canLayAll0,a,c],by simp only [D.pys,PyData.depthAll];omega⟩
end
section
variable{X:Cx}
theorem zh0{h:Heap}{v:Value}{d:PyData}{as:List Addr}(hl:d.canLay0=true)(r:Reads h v d as):SeqAt.readOf h v=d:=by
 have hx:∃d as,Reads h v d as:=⟨d,as,r⟩;unfold SeqAt.readOf;rw [dif_pos hx];obtain ⟨bs,rb⟩:=hx.choose_spec;exact (SeqAt.Reads.unique _ _ _ _ _ hl r rb).symm
end
end L2
namespace L2
open PySem PySem.Spec PyProof.Rows
def zk8:Option Int->Value->Bool
 | none,.none=>true
 | some i,v=>Value.isInt i v
 | _,_=>false
theorem zbd:∀{k:Option Int} {v:Value},zk8 k v=true->(k=none/\v=.none)\/∃i t,k=some i/\v=.int i t
 | none,v,h=>by
  cases v<;>simp [zk8] at h
  exact .inl ⟨rfl,rfl⟩
 | some i,v,h=>by
  obtain ⟨t,e⟩:=Value.isInt_shape (k:=i) (v:=v) (by simpa [zk8] using h);exact .inr ⟨i,t,rfl,e⟩
def ziU:Int:=reduceHash 0xFCA86420
theorem zlB{prog:Program}{w:World}{A:Around}{E:Z5}{s:Shared}{Q:Int->Shared->Prop}(h:Q ziU { s with toks:=s.toks+1 }):wpAny (model prog w) A (pyHash .none) Q E s :=
 PySem.W.pyHash_slot (T:="NoneType") rfl F.slot_NoneType_hash F.entry_NoneType_hash (F.args_NoneType_hash_1 _) (beq_builtin_none _) (.inl rfl) (wpAny_bind (wpAny_pure (wpAny_bind (wpAny_mkInt (wpAny_pure ⟨_,_,rfl,h⟩)))))
def zej(prog:Program)(w:World):KeyKind prog w (Option Int) where
 is:=zk8
 hash:=fun k=>match k with | none=>ziU | some i=>hashInt i
 inj:=fun v a b ha hb=>by
  rcases zbd ha with ⟨rfl,rfl⟩ | ⟨i,t,rfl,rfl⟩<;>rcases zbd hb with ⟨rfl,e⟩ | ⟨j,u,rfl,e⟩<;>cases e<;>rfl
 byValue:=fun k v h=>by
  rcases zbd h with ⟨rfl,rfl⟩ | ⟨i,t,rfl,rfl⟩<;>rfl
 pyHash:=fun {A E s k v Q} h hq=>by
  rcases zbd h with ⟨rfl,rfl⟩ | ⟨i,t,rfl,rfl⟩
  ·exact zlB hq
  ·exact wpAny_pyHash_int hq
 eqBool:=fun {A E s a b u v Q} ha hb hq=>by
  rcases zbd ha with ⟨rfl,rfl⟩ | ⟨i,t,rfl,rfl⟩<;>rcases zbd hb with ⟨rfl,rfl⟩ | ⟨j,u,rfl,rfl⟩
  ·unfold PySem.eqBool;refine wpAny_holding ?_;refine wpAny_ite_split (fun _=>wpAny_bind (wpAny_rule (wpAny_pure (by simpa using hq)))) (fun z=>absurd rfl z)
  ·exact SeqAt.EqAt.none_int j u prog w E Q (by simpa using hq)
  ·exact SeqAt.EqAt.int_none i t prog w E Q (by simpa using hq)
  ·refine SeqAt.EqAt.int_int i t j u prog w E Q ?_
   have e:decide (some i=some j)=(i == j):=by
    rw [Bool.eq_iff_iff];simp
   rw [<-e];exact hq
 «strs»:=fun k x t v h=>by
  rcases zbd h with ⟨_,e⟩ | ⟨i,u,_,e⟩<;>cases e
abbrev NK:=Int×List (Option Int)
def zei:Option Int->PyData | none=>.none | some i=>.int i
def zef(prog:Program)(w:World)(h:Heap)(k:NK)(a:Addr):Prop:=∃o items n t b,h.get? a=some o/\o.cls=.type "tuple" /\ o.data=.seq items n/\items.toList=[.int k.1 t,.ref b]/\IsTupleKey (zej prog w) h k.2 b
section
variable{prog:Program}{w:World}{A:Around}{E:Z5}{s:Shared}
def zm0(prog:Program)(w:World)(k:NK):Int:=reduceHash (Builtin.Tuple.tupleHashOf [hashInt k.1,tupleKeyHash (zej prog w) k.2])
theorem zef.typeIs{k:NK}{a:Addr}(x:zef prog w s.heap k a):s.TypeIs (.ref a) "tuple":=let ⟨o,_,_,_,_,ho,hc,_⟩:=x;⟨o,ho,hc⟩
theorem zdK{h:Heap}:∀{l:Z4} {vs:List Value},ItemsAre (zej prog w) l vs->ReadsAll h vs (l.map zei) []
 | _,_,.nil=>.nil
 | _,_,.cons h1 r=>by
  rcases zbd h1 with ⟨rfl,rfl⟩ | ⟨i,t,rfl,rfl⟩
  ·exact .cons (as:=[]) (bs:=[]) .none (zdK r)
  ·exact .cons (as:=[]) (bs:=[]) (.int i t) (zdK r)
theorem zef.reads{h:Heap}{k:NK}{a:Addr}(x:zef prog w h k a):Reads h (.ref a) (.tuple [.int k.1,.tuple (k.2.map zei)]) []:=by
 obtain ⟨o,items,n,t,b,ho,hc,hd,hi,ob,its,m,hob,hcb,hdb,hib⟩:=x;refine .tuple ho hc hd ?_;rw [hi];exact .cons (as:=[]) (bs:=[]) (.int _ _) (.cons (as:=[]) (bs:=[]) (.tuple hob hcb hdb (zdK hib)) .nil)
theorem zhi:∀{l m:Z4},PyData.eqvAll (l.map zei) (m.map zei)=decide (l=m)
 | [],[]=>by simp [PyData.eqvAll]
 | [],_::_=>by simp [PyData.eqvAll]
 | _::_,[]=>by simp [PyData.eqvAll]
 | x::l,y::m=>by
  have ih:=zhi (l:=l) (m:=m);simp only [List.map_cons,PyData.eqvAll,ih]
  cases x<;>cases y<;>simp [zei,PyData.eqv]
  rw [Bool.eq_iff_iff];simp
theorem zeP:∀{l:Z4},PyData.canLayAll0 (l.map zei)=true/\PyData.depthAll (l.map zei)=0
 | []=>⟨rfl,rfl⟩
 | x::l=>by
  obtain ⟨a,b⟩:=zeP (l:=l)
  cases x<;>simp [zei,PyData.canLayAll0,PyData.depthAll,PyData.canLay0,PyData.depth,a,b]
def zd1(prog:Program)(w:World):HeapKind prog w NK where
 is:=zef prog w
 hash:=zm0 prog w
 draws:=fun k=>1+(k.2.length+1)+1
 room:=fun A=>A.units+8<cLine
 inj:=fun {h a x y} hx hy=>by
  obtain ⟨o,items,n,t,b,ho,hc,hd,hi,kx⟩:=hx;obtain ⟨o',items',n',t',b',ho',hc',hd',hi',ky⟩:=hy;rw [ho] at ho';cases ho';rw [hd] at hd';cases hd';rw [hi] at hi';simp only [List.cons.injEq,Value.int.injEq,Value.ref.injEq,and_true] at hi';obtain ⟨⟨e1,_⟩,e2⟩:=hi';subst e2;exact Prod.ext e1 (kx.inj ky)
 keeps:=fun {h h' k a d o es ep} x ho hd hs=>by
  obtain ⟨o1,items,n,t,b,ho1,hc,hd1,hi,kx⟩:=x;refine ⟨o1,items,n,t,b,(hs.2 a ?_).trans ho1,hc,hd1,hi,kx.keeps ho hd hs⟩;rintro rfl;rw [ho] at ho1;cases ho1;rw [hd] at hd1;cases hd1
 pyHash:=fun {A E s k a Q} hu x hq=>by
  have hT:=zef.typeIs (prog:=prog) (w:=w) x;obtain ⟨o,items,n,t,b,ho,hc,hd,hi,kx⟩:=x;refine PySem.W.pyHash_slot (T:="tuple") hT F.slot_tuple_hash F.entry_tuple_hash (F.args_tuple_hash_1 _) (beq_builtin_none _) (.inr (by omega)) ?_;show wpAny _ _ (Builtin.Tuple.tupleItemsOf (.ref a) >>= _) _ _ s;refine wpAny_bind (wpAny_tupleItemsOf ho hd ?_);refine wpAny_bind ?_;rw [<-Array.forIn_toList,hi];refine wpAny_forIn_list _ (fun zbS (r:Array Int) s'=>(zbS=[.int k.1 t,.ref b]/\r.toList=[]/\s'=s)\/(zbS=[.ref b]/\r.toList=[hashInt k.1]/\s'={ s with toks:=s.toks+1 })\/(zbS=[]/\r.toList=[hashInt k.1,tupleKeyHash (zej prog w) k.2]/\s'={ s with toks:=s.toks+1+(k.2.length+1) })) _ ?_ ?_ _ _ (.inl ⟨rfl,rfl,rfl⟩)
  ·rintro x zbS r s' (⟨e,hr,rfl⟩ | ⟨e,hr,rfl⟩ | ⟨e,hr,rfl⟩)
   ·injection e with e1 e2
    subst e1 e2;refine wpAny_bind (wpAny_pyHash_int ?_)
    first
     | exact wpAny_pure (.inr (.inl ⟨rfl,by simp [hr],rfl⟩))
     | exact wpAny_bind (wpAny_pure (wpAny_pure (.inr (.inl ⟨rfl,by simp [hr],rfl⟩))))
   ·injection e with e1 e2
    subst e1 e2;refine wpAny_bind (wpAny_pyHash_tuple (A:=A.in1) (by show A.units+1<cLine;omega) kx ?_)
    first
     | exact wpAny_pure (.inr (.inr ⟨rfl,by simp [hr],rfl⟩))
     | exact wpAny_bind (wpAny_pure (wpAny_pure (.inr (.inr ⟨rfl,by simp [hr],rfl⟩))))
   ·cases e
  ·rintro r s' (⟨e,_⟩ | ⟨e,_⟩ | ⟨_,hr,rfl⟩)
   ·cases e
   ·cases e
   ·show wpAny _ _ (retInt (Builtin.Tuple.tupleHashOf r.toList)) _ _ _;rw [hr];refine wpAny_bind (wpAny_mkInt (wpAny_pure ⟨_,_,rfl,?_⟩))
    have e:s.toks+1+(k.2.length+1)+1=s.toks+(1+(k.2.length+1)+1):=by omega
    show Q _ { s with toks:=s.toks+1+(k.2.length+1)+1 };rw [e];exact hq
 eqBool:=fun {A E s x y a b Q} hu hx hy hq=>by
  refine SeqAt.eqAt_reads _ _ A s (.ref a) (.ref b) [] [] hx.reads hy.reads ?_ ?_ ?_ prog w E Q ?_
  ·simp [PyData.canLay0,PyData.canLayAll0,zeP.1]
  ·simp [PyData.canLay0,PyData.canLayAll0,zeP.1]
  ·have h1:(PyData.tuple [.int x.1,.tuple (x.2.map zei)]).depth<=3:=by
    simp [PyData.depth,PyData.depthAll,zeP.2]
   have:min (PyData.tuple [.int x.1,.tuple (x.2.map zei)]).depth (PyData.tuple [.int y.1,.tuple (y.2.map zei)]).depth<=3:=Nat.le_trans (Nat.min_le_left _ _) h1;omega
  ·have e:(PyData.tuple [.int x.1,.tuple (x.2.map zei)]).eqv (.tuple [.int y.1,.tuple (y.2.map zei)])=decide (x=y):=by
    simp only [PyData.eqv,PyData.eqvAll,zhi];rw [Bool.eq_iff_iff];simp [Prod.ext_iff]
   rw [e];exact hq
 quiet:=fun {A E s k a Q} x hq=>by
  have hT:=zef.typeIs (prog:=prog) (w:=w) x;obtain ⟨o,items,n,t,b,ho,hc,hd,hi,kx⟩:=x;have hTb:=kx.typeIs;obtain ⟨ob,its,m,hob,hcb,hdb,hib⟩:=kx
  have low:wpAny (model prog w) A (eqIsQuiet 7 (.ref b)) (fun r s'=>r=true/\s'=s) E s:=by
   unfold eqIsQuiet;refine wpAny_bind (wpAny_specialOf hTb F.slot_tuple_eq.lookup ?_);show wpAny _ _ (isInstance (.ref b) (.type "tuple") >>= _) _ _ s;refine wpAny_bind (wpAny_isInstance hTb isSubtype_tuple_tuple ?_);simp only [Bool.not_true,Bool.false_eq_true,if_false];refine wpAny_bind (wpAny_seqItems hob hdb (wpAny_bind ?_));show wpAny _ _ (forIn its _ _) _ _ s;rw [<-Array.forIn_toList];refine wpAny_forIn_list _ (fun zbS r s'=>r.1=none/\s'=s/\∀v∈zbS,carriedByValue v=true) _ ?_ ?_ _ _ ⟨rfl,rfl,hib.byValue⟩
   ·rintro v zbS r s' ⟨hr,rfl,hall⟩;rw [eqIsQuiet_byValue _ (hall v List.mem_cons_self)];refine wpAny_bind (wpAny_pure ?_);simp only [Bool.not_true,Bool.false_eq_true,if_false];exact wpAny_pure ⟨rfl,rfl,fun z hz=>hall z (List.mem_cons_of_mem _ hz)⟩
   ·rintro ⟨r1,r2⟩ s' ⟨hr,rfl,_⟩;simp only at hr;subst hr;exact wpAny_pure ⟨rfl,rfl⟩
  unfold eqIsQuiet;refine wpAny_bind (wpAny_specialOf hT F.slot_tuple_eq.lookup ?_);show wpAny _ _ (isInstance (.ref a) (.type "tuple") >>= _) _ _ s;refine wpAny_bind (wpAny_isInstance hT isSubtype_tuple_tuple ?_);simp only [Bool.not_true,Bool.false_eq_true,if_false];refine wpAny_bind (wpAny_seqItems ho hd (wpAny_bind ?_));show wpAny _ _ (forIn items _ _) _ _ s;rw [<-Array.forIn_toList,hi];refine wpAny_forIn_list _ (fun zbS r s'=>r.1=none/\s'=s/\(zbS=[.int k.1 t,.ref b]\/zbS=[.ref b]\/zbS=[])) _ ?_ ?_ _ _ ⟨rfl,rfl,.inl rfl⟩
  ·rintro v zbS r s' ⟨hr,rfl,(e | e | e)⟩
   ·injection e with e1 e2
    subst e1 e2;rw [eqIsQuiet_byValue _ rfl];refine wpAny_bind (wpAny_pure ?_);simp only [Bool.not_true,Bool.false_eq_true,if_false];exact wpAny_pure ⟨rfl,rfl,by simp⟩
   ·injection e with e1 e2
    subst e1 e2;refine wpAny_bind (wpAny_mono low (fun r' s'' hz=>?_) fun _ _ z=>z);obtain ⟨rfl,rfl⟩:=hz;simp only [Bool.not_true,Bool.false_eq_true,if_false];exact wpAny_pure ⟨rfl,rfl,by simp⟩
   ·cases e
  ·rintro ⟨r1,r2⟩ s' ⟨hr,rfl,_⟩;simp only at hr;subst hr;exact wpAny_pure hq
end
end L2
namespace L2
open PySem PySem.Spec PyProof.Rows
section
variable{σ:St}{H:Hp}{K:PySem.W.Frag}{te:TE}{tt:TT}{caps:List (Str×Nat)}{Q:VK}
end
end L2
namespace L2
open PySem PySem.Spec PyProof.Rows
def oV:Option Int->V | none=>.non | some i=>.int i
def DN(P:Program)(w:World)(a:Addr)(xs:List (NK×Addr×Value))(h:Heap):Prop :=
 ∃o es ep,h.get? a=some o/\o.ExactDict/\o.data=.dict es ep/\es.toList=xs.map (entryOfKey (zd1 P w))/\(xs.map (·.1)).Nodup/\(a == sysModules)=false
def ziy(H:Hp)(kb:Addr)(k:NK):Prop:=∃b,H kb=some (.tup [.int k.1,.ref b])/\H b=some (.tup (k.2.map oV))
def znP(H:Hp)(xs:List (NK×Addr×Value))(m:List (NK×V)):Prop:=Paired (fun (x:NK×Addr×Value) (p:NK×V)=>x.1=p.1/\ziy H x.2.1 x.1/\zbx p.2 x.2.2) xs m
theorem zjj{P:Program}{w:World}{a:Addr}{xs:List (NK×Addr×Value)}:∀h1 h2:Heap,DN P w a xs h1->(∀o,h1.get? a=some o->h2.get? a=some o)->DN P w a xs h2:=fun h1 h2 ⟨o,es,ep,e,r⟩ k=>⟨o,es,ep,k _ e,r⟩
section
variable{X:Cx}{pins:Z3}{σ:St}{H:Hp}{s:Shared}
theorem zeT:∀{l:Z4} {its:List Value},Vals (l.map oV) its->ItemsAre (zej X.prog X.w) l its
 | [],_,.nil=>.nil
 | none::l,_,.cons r t=>by
  cases r;exact .cons rfl (zeT t)
 | some i::l,_,.cons r t=>by
  obtain ⟨u,rfl⟩:=r;exact .cons (by simp [zej,zk8,Value.isInt]) (zeT t)
theorem Inv.nest(I:Inv X pins σ H s){kb:Addr}{k:NK}(h:ziy H kb k):zef X.prog X.w s.heap k kb:=by
 obtain ⟨b,h1,h2⟩:=h;obtain ⟨its,rv,⟨o,ho,hc,n,hd⟩,_⟩:=I.tuple (SqT.of (K:=X.K) h1);obtain ⟨its2,rv2,⟨o2,ho2,hc2,n2,hd2⟩,_⟩:=I.tuple (SqT.of (K:=X.K) h2)
 cases rv with
 | cons r1 rr =>
  cases rr with
  | cons r2 rr =>
   cases rr;obtain ⟨t,rfl⟩:=r1;cases r2;exact ⟨o,_,n,t,b,ho,hc,hd,rfl,o2,_,n2,ho2,hc2,hd2,by simpa using zeT rv2⟩
theorem znP.keys{xs:List (NK×Addr×Value)}{m:List (NK×V)}(I:Inv X pins σ H s):znP H xs m->∀x∈xs,zef X.prog X.w s.heap x.1 x.2.1:=by
 intro h
 induction h with
 | nil=>intro x hx;simp at hx
 | cons h t ih =>
  intro x hx
  rcases List.mem_cons.mp hx with rfl | hx
  ·exact I.nest h.2.1
  ·exact ih x hx
theorem Inv.ndict(I:Inv X pins σ H s){a:Addr}{xs:List (NK×Addr×Value)}{m:List (NK×V)}(h:H a=some (.ext (DN X.prog X.w a xs)))(e:znP H xs m):s.heap.DictOfH (zd1 X.prog X.w) a xs/\(a == sysModules)=false:=by
 obtain ⟨⟨o,es,ep,h1,h2,h3,h4,h5,h6⟩,_⟩:=I.hok a _ h;exact ⟨⟨o,es,ep,h1,h2,h3,h4,e.keys I,h5⟩,h6⟩
theorem zex{xs:List (NK×Addr×Value)}{m:List (NK×V)}(e:znP H xs m)(k:NK):(m.lookup k=none/\atKey xs k=none)\/∃c p,m.lookup k=some c/\atKey xs k=some p/\zbx c p.2:=by
 induction e with
 | nil=>exact .inl ⟨rfl,rfl⟩
 | @cons x p l1 l2 h t ih =>
  obtain ⟨h1,h2,h3⟩:=h
  by_cases hk:x.1=k
  ·refine .inr ⟨p.2,x.2,?_,?_,h3⟩
   ·obtain ⟨pk,pc⟩:=p;simp only at h1;subst h1;rw [List.lookup_cons,hk];simp
   ·simp [atKey,hk]
  ·have hk':¬ p.1=k:=by rw [<-h1];exact hk
   have e1:List.lookup k (p::l2)=List.lookup k l2:=by
    obtain ⟨pk,pc⟩:=p;rw [List.lookup_cons]
    have:(k == pk)=false:=by
     rw [beq_eq_false_iff_ne];exact fun z=>hk' z.symm
    rw [this]
   have e2:atKey (x::l1) k=atKey l1 k:=by simp [atKey,List.find?_cons,hk]
   rw [e1,e2];exact ih
theorem zob(hu:X.A.units+16<cLine):OpR X (compareOp .NotIn) (fun x y H Q=>∃kb a k xs m,x=.ref kb/\y=.ref a/\ziy H kb k/\H a=some (.ext (DN X.prog X.w a xs))/\znP H xs m/\Q (.bl (m.lookup k).isNone) H):=by
 intro pins s σ H x y v u Q I rx ry h;obtain ⟨kb,a,k,xs,m,rfl,rfl,hk,hx,he,q⟩:=h;cases rx;cases ry;obtain ⟨hm,hd⟩:=I.ndict hx he;refine wpAny_notIn_heap (knd:=zd1 X.prog X.w) (k:=k) (by show X.A.units+1+8<cLine;omega) (I.nest hk) hd hm ⟨.bl _,H,I.tok _,?_,q⟩
 rcases zex he k with ⟨e1,e2⟩ | ⟨c,p,e1,e2,_⟩<;>rw [e1,e2]<;>rfl
theorem zsB(hu:X.A.units+16<cLine):IxR X (fun x y H Q=>∃a kb k xs m c,x=.ref a/\y=.ref kb/\ziy H kb k/\H a=some (.ext (DN X.prog X.w a xs))/\znP H xs m/\m.lookup k=some c/\Q c H):=by
 intro value slice pins s σ H x y v u Q I rx ry h hs;obtain ⟨a,kb,k,xs,m,c,rfl,rfl,hk,hx,he,hl,q⟩:=h;cases rx;cases ry;obtain ⟨hm,hd⟩:=I.ndict hx he
 rcases zex he k with ⟨e1,_⟩ | ⟨c',p,e1,e2,r⟩
 ·rw [e1] at hl;cases hl
 ·rw [e1] at hl;cases hl;exact subscriptTail_builtinR (x:=p.2) hm.typeIs slot_dict_getitem.lookup (wpAny_getItem_heap (knd:=zd1 X.prog X.w) (k:=k) (by show X.A.units+1+8<cLine;omega) (I.nest hk) hm e2 ⟨rfl,c,H,I.tok _,r,q⟩) hs
theorem zo2(hu:X.A.units+16<cLine):zvw X (fun o i v H Q=>∃a kb k xs m,o=.ref a/\i=.ref kb/\ziy H kb k/\H a=some (.ext (DN X.prog X.w a xs))/\znP H xs m/\m.lookup k=none/\m.length<=1000000/\∀u,zbx v u->Q (upd H a (.ext (DN X.prog X.w a (xs++[(k,kb,u)]))))):=by
 intro pins s σ H o i v ov iv u Q I ro ri rv h;obtain ⟨a,kb,k,xs,m,rfl,rfl,hk,hx,he,hl,hz,q⟩:=h;cases ro;cases ri;obtain ⟨hm,hd⟩:=I.ndict hx he;have hlen:xs.length=m.length:=Paired.length he
 have e2:atKey xs k=none:=by
  rcases zex he k with ⟨_,e2⟩ | ⟨c',p,e1,_,_⟩
  ·exact e2
  ·rw [e1] at hl;cases hl
 refine wpAny_setItem_heap (knd:=zd1 X.prog X.w) (k:=k) (by show X.A.units+1+8<cLine;omega) (I.nest hk) hm (fun h' hm' sb=>?_) (by rw [hlen];exact Nat.le_trans hz (by decide));rw [storedH_new e2] at hm';obtain ⟨o,es,ep,g1,g2,g3,g4,g5,g6⟩:=hm';have dn:DN X.prog X.w a (xs++[(k,kb,u)]) h':=⟨o,es,ep,g1,g2,g3,g4,g6,hd⟩;refine ⟨upd H a (.ext (DN X.prog X.w a (xs++[(k,kb,u)]))),?_,q u rv⟩;exact I.write (x:=a) (e:=a) (by rw [hx];trivial) (.inl rfl) (fun b o hb z=>(sb.2 b hb).trans z) ⟨_,g1⟩ ⟨dn,⟨_,g1⟩,zjj⟩
def zt9(P:Program)(w:World):TE:=fun _ H Q=>∀p,H p=none->Q (.ref p) (upd H p (.ext (DN P w p [])))
theorem zpr{pos:Pos}:PE X (.Dict [] [] pos) (zt9 X.prog X.w):=fun pins s σ H Q I h=>by
 have big:sysModules<s.heap.objs.size:=Nat.lt_trans (show sysModules<mainGlobals by decide) (I.mod.glob.keeps I.bk).lt;have hne:(s.heap.objs.size == sysModules)=false:=beq_eq_false_iff_ne.mpr (Ne.symm (Nat.ne_of_lt big));have dn:DN X.prog X.w s.heap.objs.size [] (s.heap.push { cls:=.type "dict",data:=.dict #[] }):=⟨_,#[],0,Heap.get?_push_size _ rfl,⟨rfl,rfl,rfl⟩,rfl,rfl,List.nodup_nil,hne⟩;refine wpAny_Dict_empty ⟨.ref s.heap.objs.size,upd H s.heap.objs.size (.ext (DN X.prog X.w s.heap.objs.size [])),?_,rfl,h _ (I.hok.fresh (Nat.le_refl _))⟩;exact I.laid (a:=s.heap.objs.size) (t':=s.toks) (fun _ _ q=>Heap.get?_push_of_some _ q) (Nat.le_refl _) ⟨dn,⟨_,Heap.get?_push_size _ rfl⟩,zjj⟩
end
end L2
namespace S2
open PySem PySem.Spec PyProof.Rows L2
abbrev St:=L2.St
inductive D where
 | non | bl (b:Bool) | int (i:Int) | str (x:Str) | tup (l:List D) | lst (l:List D) | dic (l:List (D×D)) | ref (n:Nat) | exc (c:Str) | scr (l:List Int)
inductive Root where
 | slot (i:Nat) | fld (n:Nat) (f:Str) | obj (n:Nat) | far
 deriving DecidableEq
abbrev Ow:=Addr->Option Root
structure Cf where
 ad:Str->Addr
 K:PySem.W.Frag
 P:Program
 wo:PySem.World
instance:CoeFun Cf (fun _=>Str->Addr):=⟨Cf.ad⟩
structure Wd where
 H:Hp
 ow:Ow
 mu:List Addr
mutual
inductive Shd(cl:Cf)(w:Wd):V->D->Prop
 | non:Shd cl w .non .non
 | bl (b:Bool):Shd cl w (.bl b) (.bl b)
 | int (i:Int):Shd cl w (.int i) (.int i)
 | str (x:Str):Shd cl w (.str x) (.str x)
 | tup {a:Addr} {xs:List V} {ds:List D}:w.H a=some (.tup xs)->w.ow a=none->Shds cl w xs ds->Shd cl w (.ref a) (.tup ds)
 | lst {a:Addr} {xs:List V} {ds:List D}:w.H a=some (.lst xs)->w.ow a=none->Shds cl w xs ds->Shd cl w (.ref a) (.lst ds)
 | dicK {a:Addr} {kvs:List (Key×V)} {ds:List (D×D)}:w.H a=some (.dK kvs)->w.ow a=none->ShdK cl w kvs ds->Shd cl w (.ref a) (.dic ds)
 | ref {n:Nat} {a:Addr}:w.mu[n]?=some a->Shd cl w (.ref a) (.ref n)
 | scr {a:Addr} {o:Obj} {l:List Int}:w.H a=some (.frz o (.lst (l.map V.int)))->w.ow a=none->Shd cl w (.ref a) (.scr l)
 | scrK {a:Addr} {l:List Int}:(∀H:Hp,SqL cl.K H a (l.map V.int))->Shd cl w (.ref a) (.scr l)
 | exc {a:Addr} {c:Str} {ob:Obj}:w.H a=some (.frz ob (.own a))->w.ow a=none->ob.cls=.ref (cl c)->Shd cl w (.ref a) (.exc c)
inductive Shds(cl:Cf)(w:Wd):List V->List D->Prop
 | nil:Shds cl w [] []
 | cons {v:V} {d:D} {vs:List V} {ds:List D}:Shd cl w v d->Shds cl w vs ds->Shds cl w (v::vs) (d::ds)
inductive ShdK(cl:Cf)(w:Wd):List (Key×V)->List (D×D)->Prop
 | nil:ShdK cl w [] []
 | consI {i:Int} {v:V} {d:D} {vs:List (Key×V)} {ds:List (D×D)}:Shd cl w v d->ShdK cl w vs ds->ShdK cl w ((.inl i,v)::vs) ((.int i,d)::ds)
 | consS {x:Str} {v:V} {d:D} {vs:List (Key×V)} {ds:List (D×D)}:Shd cl w v d->ShdK cl w vs ds->ShdK cl w ((.inr x,v)::vs) ((.str x,d)::ds)
end
structure Fut(w w':Wd):Prop where
 keep:∀a o,w.H a=some o->w.ow a=none->w'.H a=some o/\w'.ow a=none
 mu:∀(n:Nat) (a:Addr),w.mu[n]?=some a->w'.mu[n]?=some a
theorem Fut.refl(w:Wd):Fut w w:=⟨fun _ _ h k=>⟨h,k⟩,fun _ _ h=>h⟩
theorem Fut.trans{w w1 w2:Wd}(a:Fut w w1)(b:Fut w1 w2):Fut w w2:=⟨fun c o h k=>b.keep c o (a.keep c o h k).1 (a.keep c o h k).2,fun n c h=>b.mu n c (a.mu n c h)⟩
mutual
theorem Shd.up{cl:Cf}{w w':Wd}(f:Fut w w'):∀{v:V} {d:D},Shd cl w v d->Shd cl w' v d
 | _,_,.non=>.non
 | _,_,.bl b=>.bl b
 | _,_,.int i=>.int i
 | _,_,.str x=>.str x
 | _,_,.tup e k r=>.tup (f.keep _ _ e k).1 (f.keep _ _ e k).2 (Shds.up f r)
 | _,_,.lst e k r=>.lst (f.keep _ _ e k).1 (f.keep _ _ e k).2 (Shds.up f r)
 | _,_,.dicK e k r=>.dicK (f.keep _ _ e k).1 (f.keep _ _ e k).2 (ShdK.up f r)
 | _,_,.ref e=>.ref (f.mu _ _ e)
 | _,_,.scr e k=>.scr (f.keep _ _ e k).1 (f.keep _ _ e k).2
 | _,_,.scrK h=>.scrK h
 | _,_,.exc e k h=>.exc (f.keep _ _ e k).1 (f.keep _ _ e k).2 h
theorem Shds.up{cl:Cf}{w w':Wd}(f:Fut w w'):∀{vs:List V} {ds:List D},Shds cl w vs ds->Shds cl w' vs ds
 | _,_,.nil=>.nil
 | _,_,.cons r t=>.cons (Shd.up f r) (Shds.up f t)
theorem ShdK.up{cl:Cf}{w w':Wd}(f:Fut w w'):∀{vs:List (Key×V)} {ds:List (D×D)},ShdK cl w vs ds->ShdK cl w' vs ds
 | _,_,.nil=>.nil
 | _,_,.consI r t=>.consI (Shd.up f r) (ShdK.up f t)
 | _,_,.consS r t=>.consS (Shd.up f r) (ShdK.up f t)
end
section
variable{cl:Cf}{w:Wd}
theorem Shds.length:∀{vs:List V} {ds:List D},Shds cl w vs ds->vs.length=ds.length
 | _,_,.nil=>rfl
 | _,_,.cons _ t=>by rw [List.length_cons,List.length_cons,Shds.length t]
theorem Shds.get:∀{vs:List V} {ds:List D},Shds cl w vs ds->∀{i:Nat} {v:V},vs[i]?=some v->∃d,ds[i]?=some d/\Shd cl w v d
 | _,_,.nil,i,v,e=>by simp at e
 | _,_,.cons r _,0,v,e=>by simp at e;subst e;exact ⟨_,rfl,r⟩
 | _,_,.cons _ t,i+1,v,e=>by
  obtain ⟨d,h1,h2⟩:=Shds.get t (i:=i) (v:=v) (by simpa using e);exact ⟨d,by simpa using h1,h2⟩
theorem Shds.at:∀{vs:List V} {ds:List D},Shds cl w vs ds->∀{i:Nat} {d:D},ds[i]?=some d->∃v,vs[i]?=some v/\Shd cl w v d
 | _,_,.nil,i,v,e=>by simp at e
 | _,_,.cons r _,0,v,e=>by simp at e;subst e;exact ⟨_,rfl,r⟩
 | _,_,.cons _ t,i+1,v,e=>by
  obtain ⟨d,h1,h2⟩:=Shds.at t (i:=i) (d:=v) (by simpa using e);exact ⟨d,by simpa using h1,h2⟩
theorem Shds.append:∀{vs ws:List V} {ds es:List D},Shds cl w vs ds->Shds cl w ws es->Shds cl w (vs++ws) (ds++es)
 | _,_,_,_,.nil,s=>s
 | _,_,_,_,.cons r t,s=>.cons r (Shds.append t s)
theorem Shds.take:∀{vs:List V} {ds:List D} (n:Nat),Shds cl w vs ds->Shds cl w (vs.take n) (ds.take n)
 | _,_,0,_=>.nil
 | _,_,_+1,.nil=>.nil
 | _,_,n+1,.cons r t=>.cons r (Shds.take n t)
theorem Shds.drop:∀{vs:List V} {ds:List D} (n:Nat),Shds cl w vs ds->Shds cl w (vs.drop n) (ds.drop n)
 | _,_,0,s=>s
 | _,_,_+1,.nil=>.nil
 | _,_,n+1,.cons _ t=>Shds.drop n t
theorem Shds.set{v:V}{d:D}(r:Shd cl w v d):∀{vs:List V} {ds:List D} (i:Nat),Shds cl w vs ds->Shds cl w (vs.set i v) (ds.set i d)
 | _,_,_,.nil=>.nil
 | _,_,0,.cons _ t=>.cons r t
 | _,_,i+1,.cons q t=>.cons q (Shds.set r i t)
theorem Shds.flat{vs:List V}{ds:List D}(h:Shds cl w vs ds):∀n:Nat,Shds cl w (List.replicate n vs).flatten (List.replicate n ds).flatten
 | 0=>.nil
 | n+1=>by
  rw [List.replicate_succ,List.replicate_succ,List.flatten_cons,List.flatten_cons];exact Shds.append h (Shds.flat h n)
end
inductive Top(cl:Cf)(w:Wd):HO->D->Prop
 | lst {xs:List V} {ds:List D}:Shds cl w xs ds->Top cl w (.lst xs) (.lst ds)
 | dicK {kvs:List (Key×V)} {ds:List (D×D)}:ShdK cl w kvs ds->Top cl w (.dK kvs) (.dic ds)
theorem Top.up{cl:Cf}{w w':Wd}(f:Fut w w'){o:HO}{d:D}:Top cl w o d->Top cl w' o d
 | .lst h=>.lst (h.up f)
 | .dicK h=>.dicK (h.up f)
def zgQ(l:List D):D:=.dic [(.exc "",.lst l)]
def unW:D->D | .dic [(.exc _,.lst l)]=>.lst l | d=>d
def zfL(cl:Cf)(w:Wd)(r:Root):List Addr->List (List D)->Prop:=Paired fun b row=>w.ow b=some r/\∃xs,w.H b=some (.lst xs)/\Shds cl w xs row
structure NstR(cl:Cf)(w:Wd)(r:Root)(v:V)(d:D):Prop where
 ex:∃a bs rows,v=.ref a/\d=zgQ (rows.map D.lst)/\w.ow a=some r/\w.H a=some (.lst (bs.map V.ref))/\a ∉ bs/\bs.Nodup/\zfL cl w r bs rows
theorem zfL.keep{cl:Cf}{w w':Wd}(f:Fut w w'){r:Root}(k:∀a o,w.H a=some o->w.ow a=some r->w'.H a=some o/\w'.ow a=some r):∀{bs:List Addr} {rows:List (List D)},zfL cl w r bs rows->zfL cl w' r bs rows
 | _,_,.nil=>.nil
 | _,_,.cons ⟨h1,xs,h2,h3⟩ t=>.cons ⟨(k _ _ h2 h1).2,xs,(k _ _ h2 h1).1,h3.up f⟩ (zfL.keep f k t)
theorem NstR.keep{cl:Cf}{w w':Wd}(f:Fut w w'){r:Root}(k:∀a o,w.H a=some o->w.ow a=some r->w'.H a=some o/\w'.ow a=some r){v:V}{d:D}(h:NstR cl w r v d):NstR cl w' r v d:=by
 obtain ⟨a,bs,rows,e1,e2,e3,e4,e5,e6,e7⟩:=h.ex;exact ⟨a,bs,rows,e1,e2,(k a _ e4 e3).2,(k a _ e4 e3).1,e5,e6,e7.keep f k⟩
def zjs(cl:Cf)(w:Wd)(r:Root):Bool->V->D->Prop
 | false,v,d=>Shd cl w v d
 | true,v,d=>(∃a o,v=.ref a/\w.ow a=some r/\w.H a=some o/\Top cl w o d)\/NstR cl w r v d
theorem zjs.keep{cl:Cf}{w w':Wd}(f:Fut w w'){r:Root}(k:∀a o,w.H a=some o->w.ow a=some r->w'.H a=some o/\w'.ow a=some r):∀{b:Bool} {v:V} {d:D},zjs cl w r b v d->zjs cl w' r b v d
 | false,_,_,h=>Shd.up f h
 | true,_,_,.inl ⟨a,o,e,h1,h2,t⟩=>.inl ⟨a,o,e,(k a o h2 h1).2,(k a o h2 h1).1,t.up f⟩
 | true,_,_,.inr h=>.inr (h.keep f k)
def oDn:Option Int->D | none=>.non | some i=>.int i
def nkD(k:NK):D:=.tup [.int k.1,.tup (k.2.map oDn)]
inductive ShdN(cl:Cf)(w:Wd):List (NK×V)->List (D×D)->Prop
 | nil:ShdN cl w [] []
 | cons {k:NK} {v:V} {d:D} {m:List (NK×V)} {ds:List (D×D)}:Shd cl w v d->ShdN cl w m ds->ShdN cl w ((k,v)::m) ((nkD k,d)::ds)
theorem ShdN.up{cl:Cf}{w w':Wd}(f:Fut w w'):∀{m:List (NK×V)} {ds:List (D×D)},ShdN cl w m ds->ShdN cl w' m ds
 | _,_,.nil=>.nil
 | _,_,.cons r t=>.cons (r.up f) (ShdN.up f t)
def zmh(w:Wd)(kb:Addr)(k:NK):Prop:=∃b,(w.H kb=some (.tup [.int k.1,.ref b])/\w.ow kb=none)/\w.H b=some (.tup (k.2.map oV))/\w.ow b=none
theorem zmh.up{w w':Wd}(f:Fut w w'){kb:Addr}{k:NK}(h:zmh w kb k):zmh w' kb k:=by
 obtain ⟨b,h1,h2⟩:=h;exact ⟨b,f.keep _ _ h1.1 h1.2,f.keep _ _ h2.1 h2.2⟩
theorem zmh.at{w:Wd}{kb:Addr}{k:NK}(h:zmh w kb k):ziy w.H kb k:=by
 obtain ⟨b,h1,h2⟩:=h;exact ⟨b,h1.1,h2.1⟩
def zju(w:Wd):List (NK×Addr×Value)->List (NK×V)->Prop:=Paired fun (x:NK×Addr×Value) (p:NK×V)=>x.1=p.1/\zmh w x.2.1 x.1/\zbx p.2 x.2.2
theorem zju.up{w w':Wd}(f:Fut w w'):∀{xs:List (NK×Addr×Value)} {m:List (NK×V)},zju w xs m->zju w' xs m
 | _,_,.nil=>.nil
 | _,_,.cons h t=>.cons ⟨h.1,h.2.1.up f,h.2.2⟩ (zju.up f t)
theorem zju.ents{w:Wd}:∀{xs:List (NK×Addr×Value)} {m:List (NK×V)},zju w xs m->znP w.H xs m
 | _,_,.nil=>.nil
 | _,_,.cons h t=>.cons ⟨h.1,h.2.1.at,h.2.2⟩ (zju.ents t)
theorem zju.snoc{w:Wd}{x:NK×Addr×Value}{p:NK×V}(h:x.1=p.1/\zmh w x.2.1 x.1/\zbx p.2 x.2.2):∀{xs:List (NK×Addr×Value)} {m:List (NK×V)},zju w xs m->zju w (xs++[x]) (m++[p])
 | _,_,.nil=>.cons h .nil
 | _,_,.cons h' t=>.cons h' (zju.snoc h t)
theorem ShdN.snoc{cl:Cf}{w:Wd}{k:NK}{v:V}{d:D}(h:Shd cl w v d):∀{m:List (NK×V)} {ds:List (D×D)},ShdN cl w m ds->ShdN cl w (m++[(k,v)]) (ds++[(nkD k,d)])
 | _,_,.nil=>.cons h .nil
 | _,_,.cons r t=>.cons r (ShdN.snoc h t)
def zzh(cl:Cf)(w:Wd)(r:Root)(v:V)(d:D):Prop:=∃a xs m ds,v=.ref a/\w.ow a=some r/\w.H a=some (.ext (DN cl.P cl.wo a xs))/\zju w xs m/\ShdN cl w m ds/\d=.dic ds
def ziz(cl:Cf)(w:Wd)(r:Root)(own:Bool)(v:V)(d:D):Prop:=(own=false/\Shd cl w v d)\/(own=true/\zzh cl w r v d)
theorem ziz.keep{cl:Cf}{w w':Wd}(f:Fut w w'){r:Root}(k:∀a o,w.H a=some o->w.ow a=some r->w'.H a=some o/\w'.ow a=some r){b:Bool}{v:V}{d:D}(h:ziz cl w r b v d):ziz cl w' r b v d:=by
 rcases h with ⟨e,h⟩ | ⟨e,a,xs,m,ds,e1,e2,e3,e4,e5,e6⟩
 ·exact .inl ⟨e,h.up f⟩
 ·exact .inr ⟨e,a,xs,m,ds,e1,(k a _ e3 e2).2,(k a _ e3 e2).1,e4.up f,e5.up f,e6⟩
structure Ob where
 cls:Str
 fs:List (Str×Bool×D)
abbrev Sto:=List Ob
def zdy(cl:Cf)(w:Wd)(n:Nat):List (Str×V)->List (Str×Bool×D)->Prop:=Paired fun p q=>p.1=q.1/\ziz cl w (.fld n q.1) q.2.1 p.2 q.2.2
def ztc(cl:Cf)(w:Wd)(n:Nat)(a:Addr)(ob:Ob):Prop:=w.ow a=some (.obj n)/\∃dx fs,w.H a=some (.ins (cl ob.cls) dx fs)/\zdy cl w n fs ob.fs
def zr3(n:Nat):Option Root->Prop | some (.obj m)=>m=n | some (.fld m _)=>m=n | _=>False
theorem zdy.keep{cl:Cf}{w w':Wd}(f:Fut w w'){n:Nat}(k:∀a o,w.H a=some o->zr3 n (w.ow a)->w'.H a=some o/\w'.ow a=w.ow a):∀{fs:List (Str×V)} {gs:List (Str×Bool×D)},zdy cl w n fs gs->zdy cl w' n fs gs
 | _,_,.nil=>.nil
 | _,_,.cons ⟨e,h⟩ t=>.cons ⟨e,h.keep f fun a o ha hr=>by
   have:=k a o ha (by rw [hr];rfl)
   exact ⟨this.1,this.2.trans hr⟩⟩ (zdy.keep f k t)
theorem ztc.keep{cl:Cf}{w w':Wd}(f:Fut w w'){n:Nat}{a:Addr}{ob:Ob}(k:∀a o,w.H a=some o->zr3 n (w.ow a)->w'.H a=some o/\w'.ow a=w.ow a)(h:ztc cl w n a ob):ztc cl w' n a ob:=by
 obtain ⟨h1,dx,fs,h2,h3⟩:=h;have:=k a _ h2 (by rw [h1];rfl);exact ⟨this.2.trans h1,dx,fs,this.1,h3.keep f k⟩
structure Base where
 Fr:Hp
 fw:Ow
structure World'(cl:Cf)(B:Base)(w:Wd)(S:Sto):Prop where
 fr:∀a o,B.Fr a=some o->w.H a=some o/\w.ow a=B.fw a
 own:∀a r,w.ow a=some r->r=.far\/B.Fr a=none
 len:w.mu.length=S.length
 obj:∀(n:Nat) (ob:Ob),S[n]?=some ob->∃a,w.mu[n]?=some a/\ztc cl w n a ob
abbrev Env:=List (Option (Bool×D))
structure Rel(cl:Cf)(B:Base)(σ:St)(w:Wd)(ρ:Env)(S:Sto):Prop where
 wd:World' cl B w S
 len:σ.length=ρ.length
 slots:∀(i:Nat) (o:Bool) (d:D),ρ[i]?=some (some (o,d))->∃v,σ[i]?=some (some v)/\zjs cl w (.slot i) o v d
structure Grow(w w':Wd):Prop where
 keep:∀a o,w.H a=some o->w'.H a=some o/\w'.ow a=w.ow a
 new:∀a r,w'.ow a=some r->w.H a=none->w.ow a=some r\/r=.far
 mu:w'.mu=w.mu
theorem Grow.refl(w:Wd):Grow w w:=⟨fun _ _ h=>⟨h,rfl⟩,fun _ _ h _=>.inl h,rfl⟩
theorem Grow.fut{w w':Wd}(g:Grow w w'):Fut w w':=⟨fun a o h k=>⟨(g.keep a o h).1,(g.keep a o h).2.trans k⟩,fun n a h=>by rw [g.mu];exact h⟩
theorem World'.grow{cl:Cf}{B:Base}{w w':Wd}{S:Sto}(W:World' cl B w S)(g:Grow w w'):World' cl B w' S where
 fr:=fun a o h=>by
  obtain ⟨h1,h2⟩:=W.fr a o h;exact ⟨(g.keep a o h1).1,(g.keep a o h1).2.trans h2⟩
 own:=fun a r h=>by
  cases e:w.H a with
  | none=>exact (g.new a r h e).elim (W.own a r) .inl
  | some o=>exact W.own a r (by rw [<-(g.keep a o e).2];exact h)
 len:=by rw [g.mu];exact W.len
 obj:=fun n ob h=>by
  obtain ⟨a,e,x⟩:=W.obj n ob h;exact ⟨a,by rw [g.mu];exact e,x.keep g.fut fun a o ha _=>g.keep a o ha⟩
theorem Rel.grow{cl:Cf}{B:Base}{σ:St}{w w':Wd}{ρ:Env}{S:Sto}(R:Rel cl B σ w ρ S)(g:Grow w w'):Rel cl B σ w' ρ S where
 wd:=R.wd.grow g
 len:=R.len
 slots:=fun i o d h=>by
  obtain ⟨v,e,x⟩:=R.slots i o d h;exact ⟨v,e,x.keep g.fut fun a o ha hr=>⟨(g.keep a o ha).1,(g.keep a o ha).2.trans hr⟩⟩
def Wd.add(w:Wd)(p:Addr)(o:HO):Wd:=⟨upd w.H p o,fun a=>if a=p then none else w.ow a,w.mu⟩
theorem zaI{w:Wd}{p:Addr}(h:w.H p=none)(o:HO):Grow w (w.add p o) where
 keep:=fun a u ha=>by
  have n:a≠p:=zau ha h;refine ⟨?_,?_⟩
  ·show upd w.H p o a=_;rw [zam n];exact ha
  ·show (if a=p then none else w.ow a)=_;rw [if_neg n]
 new:=fun a r h1 h2=>by
  have h1':(if a=p then none else w.ow a)=some r:=h1;split at h1'
  ·cases h1'
  ·exact .inl h1'
 mu:=rfl
theorem zhM{w:Wd}{p:Addr}{o:HO}:(w.add p o).ow p=none:=if_pos rfl
theorem zmc{w:Wd}{p:Addr}{o:HO}:(w.add p o).H p=some o:=zaH
theorem Shd.newT{cl:Cf}{w:Wd}{p:Addr}{xs:List V}{ds:List D}(h:w.H p=none)(r:Shds cl w xs ds):Shd cl (w.add p (.tup xs)) (.ref p) (.tup ds):=.tup zmc zhM (r.up (zaI h _).fut)
theorem Shd.newL{cl:Cf}{w:Wd}{p:Addr}{xs:List V}{ds:List D}(h:w.H p=none)(r:Shds cl w xs ds):Shd cl (w.add p (.lst xs)) (.ref p) (.lst ds):=.lst zmc zhM (r.up (zaI h _).fut)
theorem Shd.newO{cl:Cf}{w:Wd}{p:Addr}{o:HO}{d:D}(h:w.H p=none)(r:Top cl w o d):Shd cl (w.add p o) (.ref p) d:=by
 have g:=(zaI h o).fut
 cases r with
 | lst r=>exact .lst zmc zhM (r.up g)
 | dicK r=>exact .dicK zmc zhM (r.up g)
inductive Out(α:Type) where
 | ok (a:α) (S:Sto) | exc (c:Str) (S:Sto) | bad
abbrev Fe:=Env->Sto->Out D
inductive Fo where
 | nx (ρ:Env) (S:Sto) | rt (d:D) (S:Sto) | bk (ρ:Env) (S:Sto) | ct (ρ:Env) (S:Sto) | ex (c:Str) (ρ:Env) (S:Sto) | bad
abbrev Fs:=Env->Sto->Fo
def tE(cl:Cf)(E:St->XK)(f:Fe):TE:=fun σ H Q=>∃B w ρ S,w.H=H/\Rel cl B σ w ρ S/\match f ρ S with
 | .ok d S'=>∀v w',Rel cl B σ w' ρ S'->Fut w w'->Shd cl w' v d->Q v w'.H
 | .exc c S'=>∀w',Rel cl B σ w' ρ S'->Fut w w'->E σ (.ref (cl c)) none w'.H
 | .bad=>False
def tN(cl:Cf)(E:St->XK)(f:Fe):TE:=fun σ H Q=>∃B w ρ S,w.H=H/\Rel cl B σ w ρ S/\match f ρ S with
 | .ok d S'=>∀p o w',Rel cl B σ w' ρ S'->Fut w w'->w'.H p=none->Top cl w' o d->Q (.ref p) (upd w'.H p o)
 | .exc c S'=>∀w',Rel cl B σ w' ρ S'->Fut w w'->E σ (.ref (cl c)) none w'.H
 | .bad=>False
def Hd(cl:Cf)(σ:St)(ρ:Env)(w:Wd)(v:V)(d:D):Prop:=Shd cl w v d\/∃i:Nat,ρ[i]?=some (some (true,d))/\σ[i]?=some (some v)
def tH(cl:Cf)(E:St->XK)(f:Fe):TE:=fun σ H Q=>∃B w ρ S,w.H=H/\Rel cl B σ w ρ S/\match f ρ S with
 | .ok d S'=>∀v w',Rel cl B σ w' ρ S'->Fut w w'->Hd cl σ ρ w' v d->Q v w'.H
 | .exc c S'=>∀w',Rel cl B σ w' ρ S'->Fut w w'->E σ (.ref (cl c)) none w'.H
 | .bad=>False
inductive TopV(cl:Cf)(w:Wd):V->D->Prop
 | sh {v:V} {d:D}:Shd cl w v d->TopV cl w v d
 | ow {a:Addr} {o:HO} {d:D}:w.H a=some o->Top cl w o d->TopV cl w (.ref a) d
 | nst {a:Addr} {s:Str} {d:D}:TopV cl w (.ref a) (.dic [(.exc s,d)])
theorem Hd.top{cl:Cf}{B:Base}{σ:St}{ρ:Env}{w:Wd}{S:Sto}{v:V}{d:D}(h:Hd cl σ ρ w v d)(R:Rel cl B σ w ρ S):TopV cl w v d:=by
 rcases h with h | ⟨i,h1,h2⟩
 ·exact .sh h
 ·obtain ⟨v',e,⟨a,o,rfl,_,h3,t⟩ | h⟩:=R.slots i true d h1
  ·rw [h2] at e;cases e;exact .ow h3 t
  ·obtain ⟨a,bs,rows,rfl,rfl,_⟩:=h.ex;rw [h2] at e;cases e;exact .nst
theorem Hd.up{cl:Cf}{σ:St}{ρ:Env}{w w':Wd}{v:V}{d:D}(f:Fut w w')(h:Hd cl σ ρ w v d):Hd cl σ ρ w' v d:=by
 rcases h with h | h
 ·exact .inl (h.up f)
 ·exact .inr h
theorem PE.imp{X:Cx}{e:Expr}{t t':TE}(h:PE X e t)(i:∀σ H Q,t' σ H Q->t σ H Q):PE X e t':=fun pins s σ H Q I q=>h pins s σ H Q I (i _ _ _ q)
theorem zt6{cl:Cf}{E:St->XK}{f:Fe}{σ:St}{H:Hp}{Q:VK}(h:tE cl E f σ H Q):tN cl E f σ H Q:=by
 obtain ⟨B,w,ρ,S,e,R,h⟩:=h;refine ⟨B,w,ρ,S,e,R,?_⟩
 cases hf:f ρ S with
 | ok d S' =>
  rw [hf] at h;intro p o w' R' F' hp t;exact h (.ref p) (w'.add p o) (R'.grow (zaI hp o)) (F'.trans (zaI hp o).fut) (Shd.newO hp t)
 | exc c S'=>rw [hf] at h;exact h
 | bad=>rw [hf] at h;exact h
theorem zt5{cl:Cf}{E:St->XK}{f:Fe}{σ:St}{H:Hp}{Q:VK}(h:tH cl E f σ H Q):tE cl E f σ H Q:=by
 obtain ⟨B,w,ρ,S,e,R,h⟩:=h;refine ⟨B,w,ρ,S,e,R,?_⟩
 cases hf:f ρ S with
 | ok d S' =>
  rw [hf] at h;intro v w' R' F' t;exact h v w' R' F' (.inl t)
 | exc c S'=>rw [hf] at h;exact h
 | bad=>rw [hf] at h;exact h
end S2
namespace S2
open PySem PySem.Spec PyProof.Rows L2
def Out.bind{α β:Type}(o:Out α)(k:α->Sto->Out β):Out β:=match o with | .ok a S=>k a S | .exc c S=>.exc c S | .bad=>.bad
def Out.of{α:Type}(o:Option α)(S:Sto):Out α:=match o with | some a=>.ok a S | none=>.bad
@[simp] theorem Out.bind_ok{α β:Type}(a:α)(S:Sto)(k:α->Sto->Out β):(Out.ok a S).bind k=k a S:=rfl
@[simp] theorem Out.bind_exc{α β:Type}(c:Str)(S:Sto)(k:α->Sto->Out β):(Out.exc c S:Out α).bind k=.exc c S:=rfl
@[simp] theorem Out.bind_bad{α β:Type}(k:α->Sto->Out β):(Out.bad:Out α).bind k=.bad:=rfl
@[simp] theorem Out.of_some{α:Type}(a:α)(S:Sto):Out.of (some a) S=.ok a S:=rfl
def zad(i:Nat):Fe:=fun ρ S=>match ρ[i]? with | some (some (false,d))=>.ok d S | _=>.bad
def zai(i:Nat):Fe:=fun ρ S=>match ρ[i]? with | some (some (_,d))=>.ok d S | _=>.bad
def zah(d:D):Fe:=fun _ S=>.ok d S
def eUn(g:D->Option D)(f:Fe):Fe:=fun ρ S=>(f ρ S).bind fun a S1=>Out.of (g a) S1
def zaf(g:D->D->Option D)(f h:Fe):Fe:=fun ρ S=>(f ρ S).bind fun a S1=>(h ρ S1).bind fun b S2=>Out.of (g a b) S2
def isB:D->Option Bool | .bl b=>some b | _=>none
def eIf(c f h:Fe):Fe:=fun ρ S=>(c ρ S).bind fun d S1=>match isB d with | some true=>f ρ S1 | some false=>h ρ S1 | none=>.bad
def zfK(f h:Fe):Fe:=fun ρ S=>(f ρ S).bind fun d S1=>match isB d with | some true=>h ρ S1 | some false=>.ok (.bl false) S1 | none=>.bad
def eOr(f h:Fe):Fe:=fun ρ S=>(f ρ S).bind fun d S1=>match isB d with | some true=>.ok (.bl true) S1 | some false=>h ρ S1 | none=>.bad
def zeL:D->Option D | .bl b=>some (.bl (!b)) | _=>none
def zan:List Fe->Env->Sto->Out (List D)
 | [],_,S=>.ok [] S
 | f::fs,ρ,S=>(f ρ S).bind fun d S1=>(zan fs ρ S1).bind fun ds S2=>.ok (d::ds) S2
def small(n:Nat):Bool:=decide (n<=100000)
def zcv(fs:List Fe):Fe:=fun ρ S=>(zan fs ρ S).bind fun ds S1=>if small ds.length then .ok (.tup ds) S1 else .bad
def zeu(fs:List Fe):Fe:=fun ρ S=>(zan fs ρ S).bind fun ds S1=>if small ds.length then .ok (.lst ds) S1 else .bad
def zaE(g:List D->Option D)(fs:List Fe):Fe:=fun ρ S=>(zan fs ρ S).bind fun ds S1=>Out.of (g ds) S1
theorem za7{n:Nat}(h:small n=true):n<=sizeLine:=Nat.le_trans (of_decide_eq_true h) (by decide)
def zcm:Expr->Bool | .Starred _ _=>false | _=>true
theorem zbv{e:Expr}{es:List Expr}{env:PySem.Env}(h:zcm e=true):starEach (e::es) env=(false,eval e env)::starEach es env:=by
 cases e<;>first | rfl | cases h
theorem zby{pos:Pos}{env:PySem.Env}:∀{es:List Expr},es.all zcm=true->(backTo pos (starEach es env)).any (·.1)=false
 | [],_=>rfl
 | e::es,h=>by
  rw [List.all_cons,Bool.and_eq_true] at h;rw [zbv h.1];show (false||(backTo pos (starEach es env)).any (·.1))=false;rw [zby h.2];rfl
theorem zhe{pos:Pos}{env:PySem.Env}:∀{es:List Expr},es.all zcm=true->(backTo pos (starEach es env)).all (fun x=>!x.1)=true
 | [],_=>rfl
 | e::es,h=>by
  rw [List.all_cons,Bool.and_eq_true] at h;rw [zbv h.1];show (true&&(backTo pos (starEach es env)).all (fun x=>!x.1))=true;rw [zhe h.2];rfl
theorem zlL{pos:Pos}{env:PySem.Env}{es:List Expr}(h:es.all zcm=true)(hl:es.length<30):((backTo pos (starEach es env)).all (fun x=>!x.1)&&(backToKw pos (keywordEach [] env)).all (fun x=>x.1.isSome)
   && decide (es.length+([]:List Keyword).length+(if ([]:List Keyword).isEmpty then 0 else 1)<30))=true:=by
 rw [zhe h];show (true&&true&&decide (es.length+0+0<30))=true;simpa using hl
def Hds(cl:Cf)(σ:St)(ρ:Env)(w:Wd):List V->List D->Prop:=Paired (Hd cl σ ρ w)
def zmd(cl:Cf)(w:Wd):List V->List D->Prop:=Paired (TopV cl w)
theorem Hds.top{cl:Cf}{B:Base}{σ:St}{ρ:Env}{w:Wd}{S:Sto}(R:Rel cl B σ w ρ S):∀{vs:List V} {ds:List D},Hds cl σ ρ w vs ds->zmd cl w vs ds
 | _,_,.nil=>.nil
 | _,_,.cons h t=>.cons (h.top R) (Hds.top R t)
def tAs(cl:Cf)(E:St->XK)(fs:List Fe):TA:=fun σ H Q=>∃B w ρ S,w.H=H/\Rel cl B σ w ρ S/\match zan fs ρ S with
 | .ok ds S'=>∀vs w',Rel cl B σ w' ρ S'->Fut w w'->Shds cl w' vs ds->Q vs w'.H
 | .exc c S'=>∀w',Rel cl B σ w' ρ S'->Fut w w'->E σ (.ref (cl c)) none w'.H
 | .bad=>False
def tHs(cl:Cf)(E:St->XK)(fs:List Fe):TA:=fun σ H Q=>∃B w ρ S,w.H=H/\Rel cl B σ w ρ S/\match zan fs ρ S with
 | .ok ds S'=>∀vs w',Rel cl B σ w' ρ S'->Fut w w'->Hds cl σ ρ w' vs ds->Q vs w'.H
 | .exc c S'=>∀w',Rel cl B σ w' ρ S'->Fut w w'->E σ (.ref (cl c)) none w'.H
 | .bad=>False
theorem PA.imp{X:Cx}{es:List Expr}{t t':TA}(h:PA X es t)(i:∀σ H Q,t' σ H Q->t σ H Q):PA X es t':=fun pos pins s σ H Q I q=>h pos pins s σ H Q I (i _ _ _ q)
theorem PT.imp{X:Cx}{e:Expr}{t t':TT}(h:PT X e t)(i:∀σ H Q,t' σ H Q->t σ H Q):PT X e t':=fun pins s σ H Q I q=>h pins s σ H Q I (i _ _ _ q)
section
variable{X:Cx}{cl:Cf}{E:St->XK}{a b c e:Expr}{f h g:Fe}{pos:Pos}
theorem zrm{i:Nat}{x:Str}(hN:X.N[i]?=some x)(hv:Vis X.env.scope x)(hd:(x == ("__debug__":Str))=false)(hcd:(x == ("__classdict__":Str))=false):PE X (.Name x pos) (tE cl E (zad i)):=by
 refine PE.imp (zcz hN hv hd hcd) ?_;rintro σ H Q ⟨B,w,ρ,S,rfl,R,q⟩;unfold zad at q;split at q
 ·rename_i o d S' hm;split at hm
  ·rename_i d' he;cases hm;obtain ⟨v,e,r⟩:=R.slots i false d he;exact ⟨v,e,q v w R (Fut.refl _) r⟩
  ·cases hm
 ·rename_i hm;split at hm<;>cases hm
 ·exact q.elim
theorem zrv{i:Nat}{x:Str}(hN:X.N[i]?=some x)(hv:Vis X.env.scope x)(hd:(x == ("__debug__":Str))=false)(hcd:(x == ("__classdict__":Str))=false):PE X (.Name x pos) (tH cl E (zai i)):=by
 refine PE.imp (zcz hN hv hd hcd) ?_;rintro σ H Q ⟨B,w,ρ,S,rfl,R,q⟩;unfold zai at q;split at q
 ·rename_i o d S' hm;split at hm
  ·rename_i b d' he;cases hm;obtain ⟨v,e,r⟩:=R.slots i b d he;refine ⟨v,e,q v w R (Fut.refl _) ?_⟩
   cases b with
   | false=>exact .inl r
   | true=>exact .inr ⟨i,he,e⟩
  ·cases hm
 ·rename_i hm;split at hm<;>cases hm
 ·exact q.elim
theorem zkC{v:V}{d:D}(h:PE X e (tC v))(hd:∀w,Shd cl w v d):PE X e (tE cl E (zah d)):=by
 refine PE.imp h ?_;rintro σ H Q ⟨B,w,ρ,S,rfl,R,q⟩;exact q v w R (Fut.refl _) (hd w)
theorem zkD(h:PE X e (tE cl E f)):PE X e (tH cl E f):=PE.imp h fun _ _ _=>zt5
theorem zdz(h:PE X e (tN cl E f)):PE X e (tE cl E f):=PE.imp h fun _ _ _=>zt6
def OpD(X:Cx)(cl:Cf)(op:Value->Value->Sem Value)(g:D->D->Option D):Prop:=OpR X op fun x y H Q=>∃w d e r,w.H=H/\TopV cl w x d/\TopV cl w y e/\g d e=some r/\∀v w',Grow w w'->Shd cl w' v r->Q v w'.H
def UnD(X:Cx)(cl:Cf)(op:Value->Sem Value)(g:D->Option D):Prop:=UnR X op fun x H Q=>∃w d r,w.H=H/\TopV cl w x d/\g d=some r/\∀v w',Grow w w'->Shd cl w' v r->Q v w'.H
def zj9(X:Cx)(cl:Cf)(fv:Value)(g:List D->Option D):Prop:=zez X fv fun xs H Q=>∃w ds r,w.H=H/\zmd cl w xs ds/\g ds=some r/\∀v w',Grow w w'->Shd cl w' v r->Q v w'.H
def zte(X:Cx)(cl:Cf)(fv:Value)(g:List D->Option D):Prop:=zez X fv fun xs H Q=>∃w ds r,w.H=H/\zmd cl w xs ds/\g ds=some r/\∀p o w',Grow w w'->w'.H p=none->Top cl w' o r->Q (.ref p) (upd w'.H p o)
def IxD(X:Cx)(cl:Cf)(g:D->D->Option D):Prop:=IxR X fun x y H Q=>∃w d e r,w.H=H/\TopV cl w x d/\TopV cl w y e/\g d e=some r/\∀v w',Grow w w'->Shd cl w' v r->Q v w'.H
theorem two{gg:D->D->Option D}{r2:R2}(hr:∀x y H Q,(∃w d e r,w.H=H/\TopV cl w x d/\TopV cl w y e/\gg d e=some r/\∀v w',Grow w w'->Shd cl w' v r->Q v w'.H)->r2 x y H Q)(σ:St)(H:Hp)(Q:VK)(q:tE cl E (zaf gg f h) σ H Q):tOp r2 (tH cl E f) (tH cl E h) σ H Q:=by
 obtain ⟨B,w,ρ,S,rfl,R,q⟩:=q;refine ⟨B,w,ρ,S,rfl,R,?_⟩;unfold zaf at q
 cases hf:f ρ S with
 | bad=>rw [hf] at q;exact q
 | exc c S1=>rw [hf] at q;exact q
 | ok d S1 =>
  rw [hf] at q;intro v w1 R1 F1 h1;refine ⟨B,w1,ρ,S1,rfl,R1,?_⟩;dsimp only [Out.bind] at q
  cases hh:h ρ S1 with
  | bad=>rw [hh] at q;exact q
  | exc c S2=>rw [hh] at q;exact fun w2 R2 F2=>q w2 R2 (F1.trans F2)
  | ok e S2 =>
   rw [hh] at q;intro y w2 R2 F2 h2;dsimp only at q
   cases hg:gg d e with
   | none=>rw [hg] at q;exact q.elim
   | some r =>
    rw [hg] at q;exact hr _ _ _ _ ⟨w2,d,e,r,rfl,(h1.up F2).top R2,h2.top R2,hg,fun v' w' gr sh=>q v' w' (R2.grow gr) (F1.trans (F2.trans gr.fut)) sh⟩
theorem zn2{op:Operator}{gg:D->D->Option D}(ho:OpD X cl (binaryOp op) gg)(ha:PE X a (tH cl E f))(hb:PE X b (tH cl E h)):PE X (.BinOp a op b pos) (tE cl E (zaf gg f h)) :=
 PE.imp (zrP ho ha hb) (two fun _ _ _ _ z=>z)
theorem zuo{gg:D->D->Option D}(ho:IxD X cl gg)(ha:PE X a (tH cl E f))(hb:PE X b (tH cl E h))(hs:zgP b):PE X (.Subscript a b pos) (tE cl E (zaf gg f h)) :=
 PE.imp (zkX ho ha hb hs) (two fun _ _ _ _ z=>z)
theorem zru{op:CmpOp}{gg:D->D->Option D}(ho:OpD X cl (compareOp op) gg)(ha:PE X a (tH cl E f))(hb:PE X b (tH cl E h))(hm:behindInMarks op b=false):PE X (.Compare a [op] [b] pos) (tE cl E (zaf gg f h)) :=
 PE.imp (zk0 ho ha hb hm) (two fun _ _ _ _ z=>z)
theorem zul{op:UnaryOp}{gg:D->Option D}(ho:UnD X cl (unaryOp op) gg)(ha:PE X a (tH cl E f)):PE X (.UnaryOp op a pos) (tE cl E (eUn gg f)):=by
 refine PE.imp (zuy ho ha) ?_;rintro σ H Q ⟨B,w,ρ,S,rfl,R,q⟩;refine ⟨B,w,ρ,S,rfl,R,?_⟩;unfold eUn at q
 cases hf:f ρ S with
 | bad=>rw [hf] at q;exact q
 | exc c S1=>rw [hf] at q;exact q
 | ok d S1 =>
  rw [hf] at q;intro v w1 R1 F1 h1;dsimp only [Out.bind] at q
  cases hg:gg d with
  | none=>rw [hg] at q;exact q.elim
  | some r =>
   rw [hg] at q;exact ⟨w1,d,r,rfl,h1.top R1,hg,fun v' w' gr sh=>q v' w' (R1.grow gr) (F1.trans gr.fut) sh⟩
def tTr(cl:Cf)(E:St->XK)(f:Fe):TT:=fun σ H Q=>∃B w ρ S,w.H=H/\Rel cl B σ w ρ S/\match f ρ S with
 | .ok d S'=>match isB d with
  | some b=>∀w',Rel cl B σ w' ρ S'->Fut w w'->Q b w'.H
  | none=>False
 | .exc c S'=>∀w',Rel cl B σ w' ρ S'->Fut w w'->E σ (.ref (cl c)) none w'.H
 | .bad=>False
theorem zds{d:D}{b:Bool}(h:isB d=some b):d=.bl b:=by
 cases d<;>simp [isB] at h
 subst h;rfl
theorem zg3{w:Wd}{v:V}{b:Bool}(h:Shd cl w v (.bl b)):v=.bl b:=by cases h;rfl
theorem ziF{σ:St}{H:Hp}{Q:Bool->Hp->Prop}(q:tTr cl E f σ H Q):tB (tE cl E f) σ H Q:=by
 obtain ⟨B,w,ρ,S,rfl,R,q⟩:=q;refine ⟨B,w,ρ,S,rfl,R,?_⟩
 cases hf:f ρ S with
 | bad=>rw [hf] at q;exact q
 | exc c S1=>rw [hf] at q;exact q
 | ok d S1 =>
  rw [hf] at q;intro v w1 R1 F1 h1;dsimp only at q
  cases hb:isB d with
  | none=>rw [hb] at q;exact q.elim
  | some b =>
   rw [hb] at q;rw [zds hb] at h1;exact ⟨b,zg3 h1,q w1 R1 F1⟩
theorem zbD(h:PE X e (tE cl E f))(he:∀whole,isTrue e X.env whole=(do let v ← whole;standAt e.pos;holding [v] (truthy v))):PT X e (tTr cl E f) :=
 PT.imp (zrF h he) fun _ _ _ q=>ziF q
theorem zkt{gg:D->D->Option D}{r2:R2}(hr:∀x y H Q,(∃w d e r,w.H=H/\TopV cl w x d/\TopV cl w y e/\gg d e=some r/\∀v w',Grow w w'->Shd cl w' v r->Q v w'.H)->r2 x y H Q){σ:St}{H:Hp}{Q:Bool->Hp->Prop}(q:tTr cl E (zaf gg f h) σ H Q):zoH (tOp r2 (tH cl E f) (tH cl E h)) σ H Q :=
 two hr σ H _ (ziF q)
theorem zq5{op:CmpOp}{gg:D->D->Option D}(ho:OpD X cl (compareOp op) gg)(ha:PE X a (tH cl E f))(hb:PE X b (tH cl E h))(hm:behindInMarks op b=false):PT X (.Compare a [op] [b] pos) (tTr cl E (zaf gg f h)) :=
 PT.imp (zkM ho ha hb hm) fun _ _ _ q=>zkt (fun _ _ _ _ z=>z) q
theorem PW.imp{X:Cx}{e:Expr}{t t':TT}(h:PW X e t)(i:∀σ H Q,t' σ H Q->t σ H Q):PW X e t':=fun whole pins s σ H Q I q=>h whole pins s σ H Q I (i _ _ _ q)
theorem zoG{σ:St}{H:Hp}{Q:Bool->Hp->Prop}(q:tTr cl E (zfK f h) σ H Q):zwo (tTr cl E f) (tTr cl E h) σ H Q:=by
 obtain ⟨B,w,ρ,S,rfl,R,q⟩:=q;refine ⟨B,w,ρ,S,rfl,R,?_⟩;unfold zfK at q
 cases hf:f ρ S with
 | bad=>rw [hf] at q;exact q
 | exc c S1=>rw [hf] at q;exact q
 | ok d S1 =>
  rw [hf] at q;dsimp only [Out.bind] at q ⊢
  cases hb:isB d with
  | none=>rw [hb] at q;exact q.elim
  | some b =>
   rw [hb] at q;intro w1 R1 F1
   cases b with
   | false=>exact znj (q w1 R1 F1)
   | true =>
    refine zni ⟨B,w1,ρ,S1,rfl,R1,?_⟩;dsimp only at q
    cases hh:h ρ S1 with
    | bad=>rw [hh] at q;exact q
    | exc c S2=>rw [hh] at q;exact fun w2 R2 F2=>q w2 R2 (F1.trans F2)
    | ok e S2 =>
     rw [hh] at q;dsimp only at q ⊢
     cases hb2:isB e with
     | none=>rw [hb2] at q;exact q.elim
     | some b2=>rw [hb2] at q;exact fun w2 R2 F2=>q w2 R2 (F1.trans F2)
theorem zqT{σ:St}{H:Hp}{Q:Bool->Hp->Prop}(q:tTr cl E (eOr f h) σ H Q):tOr (tTr cl E f) (tTr cl E h) σ H Q:=by
 obtain ⟨B,w,ρ,S,rfl,R,q⟩:=q;refine ⟨B,w,ρ,S,rfl,R,?_⟩;unfold eOr at q
 cases hf:f ρ S with
 | bad=>rw [hf] at q;exact q
 | exc c S1=>rw [hf] at q;exact q
 | ok d S1 =>
  rw [hf] at q;dsimp only [Out.bind] at q ⊢
  cases hb:isB d with
  | none=>rw [hb] at q;exact q.elim
  | some b =>
   rw [hb] at q;intro w1 R1 F1
   cases b with
   | true=>exact zni (q w1 R1 F1)
   | false =>
    refine znj ⟨B,w1,ρ,S1,rfl,R1,?_⟩;dsimp only at q
    cases hh:h ρ S1 with
    | bad=>rw [hh] at q;exact q
    | exc c S2=>rw [hh] at q;exact fun w2 R2 F2=>q w2 R2 (F1.trans F2)
    | ok e S2 =>
     rw [hh] at q;dsimp only at q ⊢
     cases hb2:isB e with
     | none=>rw [hb2] at q;exact q.elim
     | some b2=>rw [hb2] at q;exact fun w2 R2 F2=>q w2 R2 (F1.trans F2)
theorem zoF{σ:St}{H:Hp}{Q:Bool->Hp->Prop}(q:tTr cl E (eUn zeL f) σ H Q):zwm (tTr cl E f) σ H Q:=by
 obtain ⟨B,w,ρ,S,rfl,R,q⟩:=q;refine ⟨B,w,ρ,S,rfl,R,?_⟩;unfold eUn at q
 cases hf:f ρ S with
 | bad=>rw [hf] at q;exact q
 | exc c S1=>rw [hf] at q;exact q
 | ok d S1 =>
  rw [hf] at q;dsimp only [Out.bind] at q ⊢
  cases hb:isB d with
  | none =>
   have:zeL d=none:=by cases d<;>simp [isB] at hb<;>rfl
   rw [this] at q;exact q.elim
  | some b =>
   rw [zds hb] at q;exact q
theorem zq3(ha:PT X a (tTr cl E f)):PT X (.UnaryOp .Not a pos) (tTr cl E (eUn zeL f)):=PT.imp (zrG ha) fun _ _ _ q=>zoF q
theorem zqZ{zbS:List Expr}(ha:PT X a (tTr cl E f))(hb:PW X (.BoolOp .And (b::zbS) pos) (tTr cl E h)):PW X (.BoolOp .And (a::b::zbS) pos) (tTr cl E (zfK f h)):=PW.imp (zrE ha hb) fun _ _ _ q=>zoG q
theorem zud{zbS:List Expr}(ha:PT X a (tTr cl E f))(hb:PW X (.BoolOp .Or (b::zbS) pos) (tTr cl E h)):PW X (.BoolOp .Or (a::b::zbS) pos) (tTr cl E (eOr f h)):=PW.imp (zuv ha hb) fun _ _ _ q=>zqT q
theorem zrw{zbS:List Expr}(ha:PE X a (tE cl E f))(hb:PE X (.BoolOp .And (b::zbS) pos) (tE cl E h)):PE X (.BoolOp .And (a::b::zbS) pos) (tE cl E (zfK f h)):=by
 refine PE.imp (zrU ha hb) ?_;rintro σ H Q ⟨B,w,ρ,S,rfl,R,q⟩;refine ⟨B,w,ρ,S,rfl,R,?_⟩;unfold zfK at q
 cases hf:f ρ S with
 | bad=>rw [hf] at q;exact q
 | exc c S1=>rw [hf] at q;exact q
 | ok d S1 =>
  rw [hf] at q;intro v w1 R1 F1 h1;dsimp only [Out.bind] at q
  cases hb:isB d with
  | none=>rw [hb] at q;exact q.elim
  | some b =>
   rw [hb] at q;rw [zds hb] at h1;refine ⟨b,zg3 h1,?_⟩
   cases b with
   | false=>exact znj (q _ w1 R1 F1 (.bl false))
   | true =>
    refine zni ⟨B,w1,ρ,S1,rfl,R1,?_⟩;dsimp only at q
    cases hh:h ρ S1 with
    | bad=>rw [hh] at q;exact q
    | exc c S2=>rw [hh] at q;exact fun w2 R2 F2=>q w2 R2 (F1.trans F2)
    | ok e S2=>rw [hh] at q;exact fun v w2 R2 F2=>q v w2 R2 (F1.trans F2)
theorem zum{zbS:List Expr}(ha:PE X a (tE cl E f))(hb:PE X (.BoolOp .Or (b::zbS) pos) (tE cl E h)):PE X (.BoolOp .Or (a::b::zbS) pos) (tE cl E (eOr f h)):=by
 refine PE.imp (zuz ha hb) ?_;rintro σ H Q ⟨B,w,ρ,S,rfl,R,q⟩;refine ⟨B,w,ρ,S,rfl,R,?_⟩;unfold eOr at q
 cases hf:f ρ S with
 | bad=>rw [hf] at q;exact q
 | exc c S1=>rw [hf] at q;exact q
 | ok d S1 =>
  rw [hf] at q;intro v w1 R1 F1 h1;dsimp only [Out.bind] at q
  cases hb:isB d with
  | none=>rw [hb] at q;exact q.elim
  | some b =>
   rw [hb] at q;rw [zds hb] at h1;refine ⟨b,zg3 h1,?_⟩
   cases b with
   | true=>exact zni (q _ w1 R1 F1 (.bl true))
   | false =>
    refine znj ⟨B,w1,ρ,S1,rfl,R1,?_⟩;dsimp only at q
    cases hh:h ρ S1 with
    | bad=>rw [hh] at q;exact q
    | exc c S2=>rw [hh] at q;exact fun w2 R2 F2=>q w2 R2 (F1.trans F2)
    | ok e S2=>rw [hh] at q;exact fun v w2 R2 F2=>q v w2 R2 (F1.trans F2)
theorem zrp(ha:PE X a (tE cl E f)):PE X (.UnaryOp .Not a pos) (tE cl E (eUn zeL f)):=by
 refine PE.imp (zrR ha) ?_;rintro σ H Q ⟨B,w,ρ,S,rfl,R,q⟩;refine ⟨B,w,ρ,S,rfl,R,?_⟩;unfold eUn at q
 cases hf:f ρ S with
 | bad=>rw [hf] at q;exact q
 | exc c S1=>rw [hf] at q;exact q
 | ok d S1 =>
  rw [hf] at q;intro v w1 R1 F1 h1;dsimp only [Out.bind] at q
  cases hb:isB d with
  | none =>
   have:zeL d=none:=by cases d<;>simp [isB] at hb<;>rfl
   rw [this] at q;exact q.elim
  | some b =>
   rw [zds hb] at q h1;exact ⟨b,zg3 h1,q _ w1 R1 F1 (.bl _)⟩
theorem zt7{σ:St}{H:Hp}{Q:VK}(q:tE cl E (eIf g f h) σ H Q):tIf (tTr cl E g) (tE cl E f) (tE cl E h) σ H Q:=by
 obtain ⟨B,w,ρ,S,rfl,R,q⟩:=q;refine ⟨B,w,ρ,S,rfl,R,?_⟩;unfold eIf at q
 cases hg:g ρ S with
 | bad=>rw [hg] at q;exact q
 | exc c S1=>rw [hg] at q;exact q
 | ok d S1 =>
  rw [hg] at q;dsimp only [Out.bind] at q ⊢
  cases hb:isB d with
  | none=>rw [hb] at q;exact q.elim
  | some b =>
   rw [hb] at q;intro w1 R1 F1
   cases b with
   | true =>
    refine zni ⟨B,w1,ρ,S1,rfl,R1,?_⟩;dsimp only at q
    cases hh:f ρ S1 with
    | bad=>rw [hh] at q;exact q
    | exc c S2=>rw [hh] at q;exact fun w2 R2 F2=>q w2 R2 (F1.trans F2)
    | ok e S2=>rw [hh] at q;exact fun v w2 R2 F2=>q v w2 R2 (F1.trans F2)
   | false =>
    refine znj ⟨B,w1,ρ,S1,rfl,R1,?_⟩;dsimp only at q
    cases hh:h ρ S1 with
    | bad=>rw [hh] at q;exact q
    | exc c S2=>rw [hh] at q;exact fun w2 R2 F2=>q w2 R2 (F1.trans F2)
    | ok e S2=>rw [hh] at q;exact fun v w2 R2 F2=>q v w2 R2 (F1.trans F2)
theorem zup(hc:PT X c (tTr cl E g))(ha:PE X a (tE cl E f))(hb:PE X b (tE cl E h)):PE X (.IfExp c a b pos) (tE cl E (eIf g f h)):=PE.imp (zmR hc ha hb) fun _ _ _ q=>zt7 q
theorem zfU:PA X [] (tAs cl E []):=by
 refine PA.imp zfb ?_;rintro σ H Q ⟨B,w,ρ,S,rfl,R,q⟩;exact q [] w R (Fut.refl _) .nil
theorem zcF{es:List Expr}{fs:List Fe}(ha:PE X e (tE cl E f))(hr:PA X es (tAs cl E fs))(hs:starEach (e::es) X.env=(false,eval e X.env)::starEach es X.env):PA X (e::es) (tAs cl E (f::fs)):=by
 refine PA.imp (zcM ha hr hs) ?_;rintro σ H Q ⟨B,w,ρ,S,rfl,R,q⟩;refine ⟨B,w,ρ,S,rfl,R,?_⟩;unfold zan at q
 cases hf:f ρ S with
 | bad=>rw [hf] at q;exact q
 | exc c S1=>rw [hf] at q;exact q
 | ok d S1 =>
  rw [hf] at q;intro v w1 R1 F1 h1;refine ⟨B,w1,ρ,S1,rfl,R1,?_⟩;dsimp only [Out.bind] at q
  cases hh:zan fs ρ S1 with
  | bad=>rw [hh] at q;exact q
  | exc c S2=>rw [hh] at q;exact fun w2 R2 F2=>q w2 R2 (F1.trans F2)
  | ok ds S2 =>
   rw [hh] at q;exact fun vs w2 R2 F2 h2=>q _ w2 R2 (F1.trans F2) (.cons (h1.up F2) h2)
theorem zn0:PA X [] (tHs cl E []):=by
 refine PA.imp zfb ?_;rintro σ H Q ⟨B,w,ρ,S,rfl,R,q⟩;exact q [] w R (Fut.refl _) .nil
theorem zkz{es:List Expr}{fs:List Fe}(ha:PE X e (tH cl E f))(hr:PA X es (tHs cl E fs))(hs:starEach (e::es) X.env=(false,eval e X.env)::starEach es X.env):PA X (e::es) (tHs cl E (f::fs)):=by
 refine PA.imp (zcM ha hr hs) ?_;rintro σ H Q ⟨B,w,ρ,S,rfl,R,q⟩;refine ⟨B,w,ρ,S,rfl,R,?_⟩;unfold zan at q
 cases hf:f ρ S with
 | bad=>rw [hf] at q;exact q
 | exc c S1=>rw [hf] at q;exact q
 | ok d S1 =>
  rw [hf] at q;intro v w1 R1 F1 h1;refine ⟨B,w1,ρ,S1,rfl,R1,?_⟩;dsimp only [Out.bind] at q
  cases hh:zan fs ρ S1 with
  | bad=>rw [hh] at q;exact q
  | exc c S2=>rw [hh] at q;exact fun w2 R2 F2=>q w2 R2 (F1.trans F2)
  | ok ds S2 =>
   rw [hh] at q;exact fun vs w2 R2 F2 h2=>q _ w2 R2 (F1.trans F2) (.cons (h1.up F2) h2)
theorem zrn{es:List Expr}{fs:List Fe}{k:Nat}(h:PA X es (tAs cl E fs)):PE X (.Tuple es k pos) (tE cl E (zcv fs)):=by
 refine PE.imp (zrM h) ?_;rintro σ H Q ⟨B,w,ρ,S,rfl,R,q⟩;refine ⟨B,w,ρ,S,rfl,R,?_⟩;unfold zcv at q
 cases hf:zan fs ρ S with
 | bad=>rw [hf] at q;exact q
 | exc c S1=>rw [hf] at q;exact q
 | ok ds S1 =>
  rw [hf] at q;intro vs w1 R1 F1 h1;dsimp only [Out.bind] at q
  cases hz:small ds.length with
  | false=>rw [hz,if_neg (by decide)] at q;exact q.elim
  | true =>
   rw [hz,if_pos rfl] at q;refine ⟨by rw [h1.length];exact za7 hz,fun p hp=>?_⟩;exact q _ (w1.add p (.tup vs)) (R1.grow (zaI hp _)) (F1.trans (zaI hp _).fut) (Shd.newT hp h1)
theorem zrs{es:List Expr}{fs:List Fe}(h:PA X es (tAs cl E fs)):PE X (.List es pos) (tN cl E (zeu fs)):=by
 refine PE.imp (zrT h) ?_;rintro σ H Q ⟨B,w,ρ,S,rfl,R,q⟩;refine ⟨B,w,ρ,S,rfl,R,?_⟩;unfold zeu at q
 cases hf:zan fs ρ S with
 | bad=>rw [hf] at q;exact q
 | exc c S1=>rw [hf] at q;exact q
 | ok ds S1 =>
  rw [hf] at q;intro vs w1 R1 F1 h1;dsimp only [Out.bind] at q
  cases hz:small ds.length with
  | false=>rw [hz,if_neg (by decide)] at q;exact q.elim
  | true =>
   rw [hz,if_pos rfl] at q;refine ⟨by rw [h1.length];exact za7 hz,fun p hp=>?_⟩;exact q _ (.lst vs) w1 R1 F1 hp (.lst h1)
theorem zqW{fs:List Fe}{gg:List D->Option D}{r:List V->Hp->VK->Prop}(hr:∀xs H Q,(∃w ds r,w.H=H/\zmd cl w xs ds/\gg ds=some r/\∀v w',Grow w w'->Shd cl w' v r->Q v w'.H)->r xs H Q){σ:St}{H:Hp}{Q:VK}(q:tE cl E (zaE gg fs) σ H Q):tCB r (tHs cl E fs) σ H Q:=by
 obtain ⟨B,w,ρ,S,rfl,R,q⟩:=q;refine ⟨B,w,ρ,S,rfl,R,?_⟩;unfold zaE at q
 cases hf:zan fs ρ S with
 | bad=>rw [hf] at q;exact q
 | exc c S1=>rw [hf] at q;exact q
 | ok ds S1 =>
  rw [hf] at q;intro vs w1 R1 F1 h1;dsimp only [Out.bind] at q
  cases hg:gg ds with
  | none=>rw [hg] at q;exact q.elim
  | some d =>
   rw [hg] at q;exact hr _ _ _ ⟨w1,ds,d,rfl,h1.top R1,hg,fun v w' gr sh=>q v w' (R1.grow gr) (F1.trans gr.fut) sh⟩
theorem zub{fs:List Fe}{gg:List D->Option D}{r:List V->Hp->VK->Prop}(hr:∀xs H Q,(∃w ds r,w.H=H/\zmd cl w xs ds/\gg ds=some r/\∀p o w',Grow w w'->w'.H p=none->Top cl w' o r->Q (.ref p) (upd w'.H p o))->r xs H Q){σ:St}{H:Hp}{Q:VK}(q:tN cl E (zaE gg fs) σ H Q):tCB r (tHs cl E fs) σ H Q:=by
 obtain ⟨B,w,ρ,S,rfl,R,q⟩:=q;refine ⟨B,w,ρ,S,rfl,R,?_⟩;unfold zaE at q
 cases hf:zan fs ρ S with
 | bad=>rw [hf] at q;exact q
 | exc c S1=>rw [hf] at q;exact q
 | ok ds S1 =>
  rw [hf] at q;intro vs w1 R1 F1 h1;dsimp only [Out.bind] at q
  cases hg:gg ds with
  | none=>rw [hg] at q;exact q.elim
  | some d =>
   rw [hg] at q;exact hr _ _ _ ⟨w1,ds,d,rfl,h1.top R1,hg,fun p o w' gr hp t=>q p o w' (R1.grow gr) (F1.trans gr.fut) hp t⟩
end
end S2
namespace S2
open PySem PySem.Spec PyProof.Rows L2
def Root.out:Option Root->Option Root | some (.slot _)=>some .far | o=>o
theorem Root.out_none{o:Option Root}:Root.out o=none↔o=none:=by
 cases o with
 | none=>exact ⟨fun h=>h,fun h=>h⟩
 | some r=>cases r<;>simp [Root.out]
def zfm:Option Root->Bool | some (.fld _ _)=>true | some (.obj _)=>true | _=>false
def Wd.inn(w:Wd):Wd:=⟨w.H,fun a=>Root.out (w.ow a),w.mu⟩
def Wd.base(w:Wd):Base:=⟨fun a=>if zfm (w.ow a)=true then none else w.H a,fun a=>Root.out (w.ow a)⟩
def Wd.back(w w':Wd):Wd:=⟨w'.H,fun a=>if (w.base.Fr a).isSome=true then w.ow a else Root.out (w'.ow a),w'.mu⟩
theorem zb9(w:Wd):Fut w w.inn:=⟨fun a o h k=>⟨h,by show Root.out (w.ow a)=none;rw [k];rfl⟩,fun _ _ h=>h⟩
theorem zhK{w:Wd}{a:Addr}{o:HO}(h:w.H a=some o)(k:zfm (w.ow a)=false):w.base.Fr a=some o:=by
 show (if zfm (w.ow a)=true then none else w.H a)=_;rw [k,if_neg (by decide)];exact h
theorem zpA{w:Wd}{a:Addr}{o:HO}(h:w.base.Fr a=some o):w.H a=some o/\zfm (w.ow a)=false:=by
 have h':(if zfm (w.ow a)=true then none else w.H a)=some o:=h;split at h'
 ·cases h'
 ·rename_i z;exact ⟨h',by simpa using z⟩
section
variable{cl:Cf}{B:Base}{σ:St}{w w':Wd}{ρ:Env}{S S':Sto}
theorem World'.enter(W:World' cl B w S):World' cl w.base w.inn S where
 fr:=fun a o h=>⟨(zpA h).1,rfl⟩
 own:=fun a r h=>by
  have h':Root.out (w.ow a)=some r:=h
  cases e:w.ow a with
  | none=>rw [e] at h';cases h'
  | some q =>
   cases q with
   | slot i=>rw [e] at h';cases h';exact .inl rfl
   | far=>rw [e] at h';cases h';exact .inl rfl
   | fld n f=>exact .inr (by show (if zfm (w.ow a)=true then none else w.H a)=none;rw [e];rfl)
   | obj n=>exact .inr (by show (if zfm (w.ow a)=true then none else w.H a)=none;rw [e];rfl)
 len:=W.len
 obj:=fun n ob h=>by
  obtain ⟨a,e,x⟩:=W.obj n ob h;refine ⟨a,e,x.keep (zb9 w) fun a o ha hn=>⟨ha,?_⟩⟩;show Root.out (w.ow a)=w.ow a
  cases e:w.ow a with
  | none=>rfl
  | some q=>cases q with
   | slot i=>rw [e] at hn;exact hn.elim
   | _=>rfl
theorem zdn(W:World' cl B w S){a:Addr}{o:HO}(h:B.Fr a=some o):w.base.Fr a=some o:=by
 refine zhK (W.fr a o h).1 ?_
 cases e:w.ow a with
 | none=>rfl
 | some q =>
  rcases W.own a q e with rfl | z
  ·rfl
  ·rw [h] at z;cases z
theorem zcO(W':World' cl w.base w' S'):Fut w' (w.back w') where
 keep:=fun a o h k=>by
  refine ⟨h,?_⟩;show (if (w.base.Fr a).isSome=true then w.ow a else Root.out (w'.ow a))=none;split
  ·rename_i z;obtain ⟨u,hu⟩:=Option.isSome_iff_exists.mp z;have:=(W'.fr a u hu).2;rw [k] at this;exact Root.out_none.mp this.symm
  ·rw [k];rfl
 mu:=fun _ _ h=>h
theorem Rel.leave(R:Rel cl B σ w ρ S)(W':World' cl w.base w' S')(F:Fut w.inn w'):Rel cl B σ (w.back w') ρ S'/\Fut w (w.back w'):=by
 have fb:=zcO W';have ff:Fut w (w.back w'):=(zb9 w).trans (F.trans fb)
 have in_:∀a o,w.base.Fr a=some o->(w.back w').H a=some o/\(w.back w').ow a=w.ow a:=fun a o h=>by
  refine ⟨(W'.fr a o h).1,?_⟩;show (if (w.base.Fr a).isSome=true then w.ow a else _)=_;rw [h];rfl
 refine ⟨⟨⟨fun a o h=>?_,fun a r h=>?_,W'.len,fun n ob h=>?_⟩,R.len,fun i o d h=>?_⟩,ff⟩
 ·have:=in_ a o (zdn R.wd h);exact ⟨this.1,this.2.trans (R.wd.fr a o h).2⟩
 ·cases hb:B.Fr a with
  | none=>exact .inr rfl
  | some o =>
   have:=(in_ a o (zdn R.wd hb)).2;rw [h] at this
   rcases R.wd.own a r this.symm with z | z
   ·exact .inl z
   ·rw [hb] at z;cases z
 ·obtain ⟨a,e,x⟩:=W'.obj n ob h;refine ⟨a,e,x.keep fb fun a o ha hn=>⟨ha,?_⟩⟩;show (if (w.base.Fr a).isSome=true then w.ow a else Root.out (w'.ow a))=_
  cases e:w'.ow a with
  | none=>rw [e] at hn;exact hn.elim
  | some q =>
   rcases W'.own a q e with rfl | z
   ·rw [e] at hn;exact hn.elim
   ·rw [z]
    cases q with
    | slot i=>rw [e] at hn;exact hn.elim
    | _=>rfl
 ·obtain ⟨v,e,x⟩:=R.slots i o d h;refine ⟨v,e,x.keep ff fun a u ha hr=>?_⟩;have:=in_ a u (zhK ha (by rw [hr];rfl));exact ⟨this.1,this.2.trans hr⟩
def Wd.del(w:Wd)(a:Addr):Wd:=⟨fun b=>if b=a then none else w.H b,w.ow,w.mu⟩
theorem zif{a:Addr}(k:w.ow a≠none):Fut w (w.del a) where
 keep:=fun b o h e=>⟨by
  show (if b=a then none else w.H b)=_
  rw [if_neg (fun z=>k (by rw [<-z];exact e))];exact h,e⟩
 mu:=fun _ _ h=>h
theorem zkg{a:Addr}{o:HO}(h:w.H a=some o):upd (w.del a).H a o=w.H:=by
 funext b
 by_cases e:b=a
 ·rw [e,zaH,h]
 ·rw [zam e];show (if b=a then none else w.H b)=_;rw [if_neg e]
theorem Rel.del{a:Addr}(R:Rel cl B σ w ρ S)(k:w.ow a=some .far)(hb:B.Fr a=none):Rel cl B σ (w.del a) ρ S:=by
 have fd:Fut w (w.del a):=zif (by rw [k];exact Option.some_ne_none _)
 have kp:∀b o,w.H b=some o->b≠a->(w.del a).H b=some o:=fun b o h n=>by
  show (if b=a then none else w.H b)=_;rw [if_neg n];exact h
 refine ⟨⟨fun b o h=>⟨kp b o (R.wd.fr b o h).1 (fun z=>by rw [z,hb] at h;cases h),(R.wd.fr b o h).2⟩,R.wd.own,R.wd.len,fun n ob h=>?_⟩,R.len,fun i o d h=>?_⟩
 ·obtain ⟨c,e,x⟩:=R.wd.obj n ob h;exact ⟨c,e,x.keep fd fun b o hb' hn=>⟨kp b o hb' (fun z=>by rw [z,k] at hn;exact hn.elim),rfl⟩⟩
 ·obtain ⟨v,e,x⟩:=R.slots i o d h;exact ⟨v,e,x.keep fd fun b o hb' hr=>⟨kp b o hb' (fun z=>by rw [z,k] at hr;cases hr),hr⟩⟩
end
def zxy(cl:Cf)(w:Wd):Bool->V->D->Prop
 | false,v,d=>Shd cl w v d
 | true,v,d=>∃a o i,v=.ref a/\w.ow a=some (.slot i)/\w.H a=some o/\Top cl w o d
def zg1(cl:Cf)(n:Nat)(own:Bool)(G:List D->Sto->Out D):Sp:=fun vs H Q E=>vs.length=n/\∃B w ds S,w.H=H/\World' cl B w S/\Shds cl w vs ds/\match G ds S with
 | .ok d S'=>∀v w',World' cl B w' S'->Fut w w'->zxy cl w' own v d->Q v w'.H
 | .exc c S'=>∀w',World' cl B w' S'->Fut w w'->E (.ref (cl c)) none w'.H
 | .bad=>False
def zdo(CX:CXT)(X:Cx)(E:St->XK):Prop:=∀(pins:Z3) (σ:St) (H:Hp) (s:Shared) (e:Value) (s':Shared),Inv X pins σ H s->CX X.stack H s (E σ) e s'->X.xe e s'
def zgZ(sp:Sp)(dvs:List V)(E:St->XK)(t:TA):TE:=fun σ H Q=>t σ H fun vs H1=>sp (vs++dvs) H1 Q (E σ)
section
variable{X:Cx}{CX:CXT}{k:Nat}{f C:Addr}{fd:FuncData}{ps:List Str}{sp:Sp}{dvs:List V}{ds:List Value}{E:St->XK}{x m:Str}{p pos apos:Pos}{e o:Expr}{es:List Expr}{ta:TE}{t:TA}
theorem zgt{pins:Z3}{σ:St}{H:Hp}{s:Shared}{Q:VK}{us:List Value}{vs:List V}(F:FnOk X.prog X.w X.K X.mg X.base CX k f fd ps sp)(hr:Room k X.A)(hb:zch X.K fd ps ds)(hd:Vals dvs ds)(hx:zdo CX X E)
  (I:Inv X pins σ H s) (r:Vals vs us) (h:sp (vs++dvs) H Q (E σ)):wpAny (model X.prog X.w) X.A (call (.ref f) us) (EP X pins σ Q) X.xe s:=by
 have r2:Vals (vs++dvs) (us++ds):=r.append hd
 have hl:(us++ds).length=ps.length:=by rw [<-r2.length];exact F.len _ _ _ _ h
 refine wpAny_call (codeAny_mono (F.run X.A X.stack s H ⟨us,[]⟩ (us++ds) (vs++dvs) Q (E σ) hr I.env0 (hb s us I.kIn hl) r2 h) fun r s' hq=>?_)
 cases r with
 | error e=>exact hx pins σ H s e s' I hq
 | ok fl =>
  cases fl with
  | ret u=>exact I.after hq
  | next=>exact False.elim hq
  | brk=>exact False.elim hq
  | cont=>exact False.elim hq
theorem zmT(F:FnOk X.prog X.w X.K X.mg X.base CX k f fd ps sp)(hr:Room k X.A)(hg:Gl X x)(hm:X.mg x=some (.ref f))(hk:PySem.W.keepIn X.K (.ref f)=true)(hb:zch X.K fd ps ds)(hd:Vals dvs ds)(hx:zdo CX X E)
  (ha:PA X (e::es) t) (hdb:(x == ("__debug__":Str))=false) (he:starEach (e::es) X.env=(false,eval e X.env)::starEach es X.env) (hpl:(backTo pos (starEach es X.env)).any (·.1)=false) :
  PE X (.Call (.Name x p) (e::es) [] pos) (zgZ sp dvs E t):=by
 intro pins s σ H Q I h;refine wpAny_Call_Name_kw (zen I hg hm ?_ hdb);refine PySem.W.callWith_K (h₀:=X.base) I.ok.mod.kin hk (thn (ha pos pins s σ H _ I h) fun us s1 ⟨vs,H1,I1,r,q⟩=>⟨I1.kIn,?_⟩) he hpl;exact zgt F hr hb hd hx I1 r q
theorem zk1(F:FnOk X.prog X.w X.K X.mg X.base CX k f fd ps sp)(hr:Room k X.A)(hg:Gl X x)(hm:X.mg x=some (.ref f))(hk:PySem.W.keepIn X.K (.ref f)=true)(hb:zch X.K fd ps ds)(hd:Vals dvs ds)(hx:zdo CX X E)
  (hdb:(x == ("__debug__":Str))=false):PE X (.Call (.Name x p) [] [] pos) (zgZ sp dvs E zt4):=by
 intro pins s σ H Q I h;refine wpAny_Call_Name_kw (zen I hg hm ?_ hdb);exact PySem.W.callWith_K0 I.kIn hk (zgt (us:=[]) F hr hb hd hx I .nil h)
end
def eFn(G:List D->Sto->Out D)(fs:List Fe):Fe:=fun ρ S=>(zan fs ρ S).bind fun ds S1=>G ds S1
section
variable{cl:Cf}{E:St->XK}{fs:List Fe}{G:List D->Sto->Out D}{σ:St}{H:Hp}{Q:VK}{n:Nat}
theorem zs0(q:tE cl E (eFn G fs) σ H Q)(hn:fs.length=n):zgZ (zg1 cl n false G) [] E (tAs cl E fs) σ H Q:=by
 obtain ⟨B,w,ρ,S,rfl,R,q⟩:=q;refine ⟨B,w,ρ,S,rfl,R,?_⟩;unfold eFn at q
 cases hf:zan fs ρ S with
 | bad=>rw [hf] at q;exact q
 | exc c S1=>rw [hf] at q;exact q
 | ok ds S1 =>
  rw [hf] at q;intro vs w1 R1 F1 h1;dsimp only [Out.bind] at q
  have hl:∀(fs:List Fe) (S S1:Sto) (ds:List D),zan fs ρ S=.ok ds S1->ds.length=fs.length:=by
   intro fs
   induction fs with
   | nil=>intro S S1 ds h;cases h;rfl
   | cons f fs ih =>
    intro S S1 ds h;unfold zan at h
    cases h1:f ρ S with
    | bad=>rw [h1] at h;cases h
    | exc c S2=>rw [h1] at h;cases h
    | ok d S2 =>
     rw [h1] at h;dsimp only [Out.bind] at h
     cases h2:zan fs ρ S2 with
     | bad=>rw [h2] at h;cases h
     | exc c S3=>rw [h2] at h;cases h
     | ok es S3=>rw [h2] at h;cases h;rw [List.length_cons,List.length_cons,ih S2 _ es h2]
  refine ⟨by rw [List.append_nil,h1.length,hl fs S S1 ds hf];exact hn,w1.base,w1.inn,ds,S1,rfl,R1.wd.enter,by rw [List.append_nil];exact h1.up (zb9 w1),?_⟩
  cases hg:G ds S1 with
  | bad=>rw [hg] at q;exact q
  | exc c S2 =>
   rw [hg] at q;intro w2 W2 F2;obtain ⟨R3,F3⟩:=R1.leave W2 F2;exact q (w1.back w2) R3 (F1.trans F3)
  | ok d S2 =>
   rw [hg] at q;intro v w2 W2 F2 r2;obtain ⟨R3,F3⟩:=R1.leave W2 F2;exact q v (w1.back w2) R3 (F1.trans F3) (Shd.up (zcO W2) r2)
theorem zsZ(q:tN cl E (eFn G fs) σ H Q)(hn:fs.length=n):zgZ (zg1 cl n true G) [] E (tAs cl E fs) σ H Q:=by
 obtain ⟨B,w,ρ,S,rfl,R,q⟩:=q;refine ⟨B,w,ρ,S,rfl,R,?_⟩;unfold eFn at q
 cases hf:zan fs ρ S with
 | bad=>rw [hf] at q;exact q
 | exc c S1=>rw [hf] at q;exact q
 | ok ds S1 =>
  rw [hf] at q;intro vs w1 R1 F1 h1;dsimp only [Out.bind] at q
  have hl:∀(fs:List Fe) (S S1:Sto) (ds:List D),zan fs ρ S=.ok ds S1->ds.length=fs.length:=by
   intro fs
   induction fs with
   | nil=>intro S S1 ds h;cases h;rfl
   | cons f fs ih =>
    intro S S1 ds h;unfold zan at h
    cases h1:f ρ S with
    | bad=>rw [h1] at h;cases h
    | exc c S2=>rw [h1] at h;cases h
    | ok d S2 =>
     rw [h1] at h;dsimp only [Out.bind] at h
     cases h2:zan fs ρ S2 with
     | bad=>rw [h2] at h;cases h
     | exc c S3=>rw [h2] at h;cases h
     | ok es S3=>rw [h2] at h;cases h;rw [List.length_cons,List.length_cons,ih S2 _ es h2]
  refine ⟨by rw [List.append_nil,h1.length,hl fs S S1 ds hf];exact hn,w1.base,w1.inn,ds,S1,rfl,R1.wd.enter,by rw [List.append_nil];exact h1.up (zb9 w1),?_⟩
  cases hg:G ds S1 with
  | bad=>rw [hg] at q;exact q
  | exc c S2 =>
   rw [hg] at q;intro w2 W2 F2;obtain ⟨R3,F3⟩:=R1.leave W2 F2;exact q (w1.back w2) R3 (F1.trans F3)
  | ok d S2 =>
   rw [hg] at q;intro v w2 W2 F2 r2;obtain ⟨R3,F3⟩:=R1.leave W2 F2;obtain ⟨a,o,i,rfl,k1,k2,t⟩:=r2;have hfr:w1.base.Fr a=none:=(W2.own a _ k1).elim (fun z=>by cases z) fun z=>z
   have k3:(w1.back w2).ow a=some .far:=by
    show (if (w1.base.Fr a).isSome=true then w1.ow a else Root.out (w2.ow a))=_;rw [hfr,k1];rfl
   have hb:B.Fr a=none:=by
    cases z:B.Fr a with
    | none=>rfl
    | some u=>rw [zdn R1.wd z] at hfr;cases hfr
   have hd:=zif (w:=w1.back w2) (a:=a) (by rw [k3];exact Option.some_ne_none _);have:=q a o ((w1.back w2).del a) (R3.del k3 hb) (F1.trans (F3.trans hd)) (if_pos rfl) ((t.up (zcO W2)).up hd);rw [zkg (w:=w1.back w2) k2] at this;exact this
end
end S2
namespace S2
open PySem PySem.Spec PyProof.Rows L2
def frz1(ρ:Env)(i:Nat):Env:=match ρ[i]? with | some (some (true,d))=>ρ.set i (some (false,unW d)) | _=>ρ
def frz(is:List Nat)(ρ:Env):Env:=is.foldl frz1 ρ
def sFz(is:List Nat)(f:Fs):Fs:=fun ρ S=>f (frz is ρ) S
def sNx:Fs:=fun ρ S=>.nx ρ S
def sBk:Fs:=fun ρ S=>.bk ρ S
def zag(f g:Fs):Fs:=fun ρ S=>match f ρ S with | .nx ρ' S'=>g ρ' S' | o=>o
def zaW(i:Nat)(own:Bool)(f:Fe):Fs:=fun ρ S=>match f ρ S with | .ok d S'=>.nx (ρ.set i (some (own,d))) S' | .exc c S'=>.ex c ρ S' | .bad=>.bad
def zo7(f:Fe):Fs:=fun ρ S=>match f ρ S with | .ok _ S'=>.nx ρ S' | .exc c S'=>.ex c ρ S' | .bad=>.bad
def zbp(f:Fe):Fs:=fun ρ S=>match f ρ S with | .ok d S'=>.rt d S' | .exc c S'=>.ex c ρ S' | .bad=>.bad
def zmx:Fs:=fun _ S=>.rt .non S
def zgo(i:Nat):Fs:=fun ρ S=>match ρ[i]? with | some (some (true,.lst l))=>.rt (.lst l) S | _=>.bad
def sIf(c:Fe)(f g:Fs):Fs:=fun ρ S=>match c ρ S with | .ok d S'=>(match isB d with | some true=>f ρ S' | some false=>g ρ S' | none=>.bad) | .exc x S'=>.ex x ρ S' | .bad=>.bad
def zjt(cl:Cf)(E:St->XK)(own:Bool)(B:Base)(w:Wd)(De:Ends):Fo->Prop
 | .nx ρ' S'=>∀σ' w',Rel cl B σ' w' ρ' S'->Fut w w'->De.nx σ' w'.H
 | .bk ρ' S'=>∀σ' w',Rel cl B σ' w' ρ' S'->Fut w w'->De.bk σ' w'.H
 | .ct ρ' S'=>∀σ' w',Rel cl B σ' w' ρ' S'->Fut w w'->De.ct σ' w'.H
 | .rt d S'=>∀v w',World' cl B w' S'->Fut w w'->zxy cl w' own v d->De.rt v w'.H
 | .ex c ρ' S'=>∀σ' w',Rel cl B σ' w' ρ' S'->Fut w w'->E σ' (.ref (cl c)) none w'.H
 | .bad=>False
theorem zjt.up{cl:Cf}{E:St->XK}{own:Bool}{B:Base}{w w1:Wd}{De:Ends}(f:Fut w w1):∀{o:Fo},zjt cl E own B w De o->zjt cl E own B w1 De o
 | .nx _ _,h=>fun σ' w' R F=>h σ' w' R (f.trans F)
 | .bk _ _,h=>fun σ' w' R F=>h σ' w' R (f.trans F)
 | .ct _ _,h=>fun σ' w' R F=>h σ' w' R (f.trans F)
 | .rt _ _,h=>fun v w' R F=>h v w' R (f.trans F)
 | .ex _ _ _,h=>fun σ' w' R F=>h σ' w' R (f.trans F)
 | .bad,h=>h
def tS(cl:Cf)(E:St->XK)(own:Bool)(f:Fs):TS:=fun De σ H=>∃B w ρ S,w.H=H/\Rel cl B σ w ρ S/\zjt cl E own B w De (f ρ S)
theorem PS.imp{X:Cx}{st:Stmt}{t t':TS}(h:PS X st t)(i:∀De σ H,t' De σ H->t De σ H):PS X st t':=fun pins s σ H De I q=>h pins s σ H De I (i _ _ _ q)
theorem PSs.imp{X:Cx}{st:List Stmt}{t t':TS}(h:PSs X st t)(i:∀De σ H,t' De σ H->t De σ H):PSs X st t':=fun pins s σ H De I q=>h pins s σ H De I (i _ _ _ q)
section
variable{cl:Cf}{B:Base}{σ:St}{w:Wd}{ρ:Env}{S:Sto}
theorem Rel.put{i:Nat}{v:V}{d:D}(R:Rel cl B σ w ρ S)(h:Shd cl w v d):Rel cl B (σ.set i (some v)) w (ρ.set i (some (false,d))) S where
 wd:=R.wd
 len:=by rw [List.length_set,List.length_set];exact R.len
 slots:=fun j o e hj=>by
  by_cases hij:i=j
  ·subst hij
   have hlt:i<ρ.length:=by
    have:=(List.getElem?_eq_some_iff.mp hj).1;rw [List.length_set] at this;exact this
   rw [List.getElem?_set_self hlt] at hj;cases hj;exact ⟨v,by rw [List.getElem?_set_self (by rw [R.len];exact hlt)],h⟩
  ·rw [List.getElem?_set_ne hij] at hj ⊢;exact R.slots j o e hj
def Wd.addAs(w:Wd)(p:Addr)(o:HO)(r:Root):Wd:=⟨upd w.H p o,fun a=>if a=p then some r else if w.ow a=some r then some .far else w.ow a,w.mu⟩
theorem zfq{p:Addr}{o:HO}{r:Root}(h:w.H p=none):Fut w (w.addAs p o r) where
 keep:=fun a u ha hk=>by
  have n:a≠p:=zau ha h;refine ⟨?_,?_⟩
  ·show upd w.H p o a=_;rw [zam n];exact ha
  ·show (if a=p then some r else if w.ow a=some r then some Root.far else w.ow a)=none;rw [if_neg n,if_neg (by rw [hk];exact fun z=>by cases z)];exact hk
 mu:=fun _ _ h=>h
theorem Rel.own{i:Nat}{p:Addr}{o:HO}{d:D}(R:Rel cl B σ w ρ S)(hp:w.H p=none)(t:Top cl w o d):Rel cl B (σ.set i (some (.ref p))) (w.addAs p o (.slot i)) (ρ.set i (some (true,d))) S:=by
 have ff:=zfq (w:=w) (p:=p) (o:=o) (r:=.slot i) hp
 have kp:∀a u,w.H a=some u->w.ow a≠some (.slot i)->(w.addAs p o (.slot i)).H a=some u/\(w.addAs p o (.slot i)).ow a=w.ow a:=fun a u ha hk=>by
  have n:a≠p:=zau ha hp;refine ⟨?_,?_⟩
  ·show upd w.H p o a=_;rw [zam n];exact ha
  ·show (if a=p then _ else if w.ow a=some (Root.slot i) then some Root.far else w.ow a)=_;rw [if_neg n,if_neg hk]
 have hBp:B.Fr p=none:=by
  cases z:B.Fr p with
  | none=>rfl
  | some u=>have:=(R.wd.fr p u z).1;rw [hp] at this;cases this
 refine ⟨⟨fun a u h=>?_,fun a r h=>?_,R.wd.len,fun n ob h=>?_⟩,by rw [List.length_set,List.length_set];exact R.len,fun j b e hj=>?_⟩
 ·have hne:w.ow a≠some (.slot i):=fun z=>by
   rcases R.wd.own a _ z with y | y
   ·cases y
   ·rw [h] at y;cases y
  have:=kp a u (R.wd.fr a u h).1 hne;exact ⟨this.1,this.2.trans (R.wd.fr a u h).2⟩
 ·have h':(if a=p then some (Root.slot i) else if w.ow a=some (Root.slot i) then some Root.far else w.ow a)=some r:=h;split at h'
  ·rename_i e;rw [e];exact .inr hBp
  ·split at h'
   ·cases h';exact .inl rfl
   ·exact R.wd.own a r h'
 ·obtain ⟨a,e,x⟩:=R.wd.obj n ob h;exact ⟨a,e,x.keep ff fun b u hb hn=>kp b u hb fun z=>by rw [z] at hn;exact hn⟩
 ·by_cases hij:i=j
  ·subst hij
   have hlt:i<ρ.length:=by
    have:=(List.getElem?_eq_some_iff.mp hj).1;rw [List.length_set] at this;exact this
   rw [List.getElem?_set_self hlt] at hj;cases hj;exact ⟨.ref p,by rw [List.getElem?_set_self (by rw [R.len];exact hlt)],.inl ⟨p,o,rfl,if_pos rfl,zaH,t.up ff⟩⟩
  ·rw [List.getElem?_set_ne hij] at hj ⊢;obtain ⟨v,e1,x⟩:=R.slots j b e hj;refine ⟨v,e1,x.keep ff fun a u ha hr=>?_⟩;have:=kp a u ha (by rw [hr];exact fun z=>hij (by cases z;rfl));exact ⟨this.1,this.2.trans hr⟩
def Wd.mut(w:Wd)(p:Addr)(o:HO):Wd:=⟨upd w.H p o,w.ow,w.mu⟩
theorem zer{p:Addr}{o:HO}(h:w.ow p≠none):Fut w (w.mut p o) where
 keep:=fun a u ha hk=>⟨by
  show upd w.H p o a=_
  rw [zam (fun z=>h (by rw [<-z];exact hk))];exact ha,hk⟩
 mu:=fun _ _ h=>h
theorem Rel.mut{i:Nat}{p:Addr}{o:HO}{d d0:D}(R:Rel cl B σ w ρ S)(hs:σ[i]?=some (some (.ref p)))(hk:w.ow p=some (.slot i))(t:Top cl w o d):Rel cl B σ (w.mut p o) (ρ.set i (some (true,d))) S:=by
 have ff:=zer (w:=w) (p:=p) (o:=o) (by rw [hk];exact Option.some_ne_none _)
 have kp:∀a u,w.H a=some u->w.ow a≠some (.slot i)->(w.mut p o).H a=some u/\(w.mut p o).ow a=w.ow a:=fun a u ha hn=>⟨by
  show upd w.H p o a=_
  rw [zam (fun z=>hn (by rw [z];exact hk))];exact ha,rfl⟩
 have hBp:B.Fr p=none:=(R.wd.own p _ hk).elim (fun z=>by cases z) fun z=>z
 refine ⟨⟨fun a u h=>?_,R.wd.own,R.wd.len,fun n ob h=>?_⟩,by rw [List.length_set];exact R.len,fun j b e hj=>?_⟩
 ·have hne:w.ow a≠some (.slot i):=fun z=>by
   rcases R.wd.own a _ z with y | y
   ·cases y
   ·rw [h] at y;cases y
  have:=kp a u (R.wd.fr a u h).1 hne;exact ⟨this.1,(R.wd.fr a u h).2⟩
 ·obtain ⟨a,e,x⟩:=R.wd.obj n ob h;exact ⟨a,e,x.keep ff fun b u hb hn=>kp b u hb fun z=>by rw [z] at hn;exact hn⟩
 ·by_cases hij:i=j
  ·subst hij
   have hlt:i<ρ.length:=by
    have:=(List.getElem?_eq_some_iff.mp hj).1;rw [List.length_set] at this;exact this
   rw [List.getElem?_set_self hlt] at hj;cases hj;exact ⟨.ref p,hs,.inl ⟨p,o,rfl,hk,zaH,t.up ff⟩⟩
  ·rw [List.getElem?_set_ne hij] at hj;obtain ⟨v,e1,x⟩:=R.slots j b e hj;refine ⟨v,e1,x.keep ff fun a u ha hr=>?_⟩;have:=kp a u ha (by rw [hr];exact fun z=>hij (by cases z;rfl));exact ⟨this.1,this.2.trans hr⟩
def Wd.free(w:Wd)(r:Root):Wd:=⟨w.H,fun a=>if w.ow a=some r then none else w.ow a,w.mu⟩
theorem zi5{r:Root}:Fut w (w.free r) where
 keep:=fun a u ha hk=>⟨ha,by
  show (if w.ow a=some r then none else w.ow a)=none
  rw [hk];rfl⟩
 mu:=fun _ _ h=>h
theorem Top.shd{o:HO}{d:D}{a:Addr}(h:w.H a=some o)(k:w.ow a=none):Top cl w o d->Shd cl w (.ref a) d
 | .lst t=>.lst h k t
 | .dicK t=>.dicK h k t
theorem Top.unW{o:HO}{d:D}(t:Top cl w o d):unW d=d:=by
 cases t with
 | lst _=>rfl
 | dicK h =>
  cases h with
  | nil=>rfl
  | consI _ _=>rfl
  | consS _ _=>rfl
theorem zfL.free{r:Root}:∀{bs:List Addr} {rows:List (List D)},zfL cl w r bs rows->Shds cl (w.free r) (bs.map V.ref) (rows.map D.lst)
 | _,_,.nil=>.nil
 | _,_,.cons ⟨h1,xs,h2,h3⟩ t=>.cons (.lst (w:=w.free r) h2 (by show (if w.ow _=some r then none else w.ow _)=none;rw [if_pos h1]) (h3.up zi5)) (zfL.free t)
theorem Rel.frz1(R:Rel cl B σ w ρ S)(i:Nat):∃w',w'.H=w.H/\Fut w w'/\Rel cl B σ w' (frz1 ρ i) S:=by
 unfold S2.frz1;split
 ·rename_i d hd;have ff:=zi5 (w:=w) (r:=.slot i);have kp:∀a u,w.H a=some u->w.ow a≠some (.slot i)->(w.free (.slot i)).H a=some u/\(w.free (.slot i)).ow a=w.ow a:=fun a u ha hn=>⟨ha,if_neg hn⟩
  refine ⟨w.free (.slot i),rfl,ff,⟨fun a u h=>?_,fun a r h=>?_,R.wd.len,fun n ob h=>?_⟩,by rw [List.length_set];exact R.len,fun j b e hj=>?_⟩
  ·have hne:w.ow a≠some (.slot i):=fun z=>by
    rcases R.wd.own a _ z with y | y
    ·cases y
    ·rw [h] at y;cases y
   have:=kp a u (R.wd.fr a u h).1 hne;exact ⟨this.1,this.2.trans (R.wd.fr a u h).2⟩
  ·have h':(if w.ow a=some (Root.slot i) then none else w.ow a)=some r:=h;split at h'
   ·cases h'
   ·exact R.wd.own a r h'
  ·obtain ⟨a,e,x⟩:=R.wd.obj n ob h;exact ⟨a,e,x.keep ff fun b u hb hn=>kp b u hb fun z=>by rw [z] at hn;exact hn⟩
  ·by_cases hij:i=j
   ·subst hij;have hlt:i<ρ.length:=(List.getElem?_eq_some_iff.mp hd).1;rw [List.getElem?_set_self hlt] at hj;cases hj;obtain ⟨v,e1,⟨a,o,rfl,h1,h2,t⟩ | h⟩:=R.slots i true d hd
    ·refine ⟨.ref a,e1,?_⟩;rw [t.unW];refine (t.up ff).shd h2 ?_;show (if w.ow a=some (Root.slot i) then none else w.ow a)=none;rw [if_pos h1]
    ·obtain ⟨a,bs,rows,rfl,rfl,h1,h2,_,_,h3⟩:=h.ex;refine ⟨.ref a,e1,?_⟩;show Shd cl (w.free (.slot i)) (.ref a) (.lst (rows.map D.lst));refine .lst (w:=w.free (.slot i)) h2 ?_ h3.free;show (if w.ow a=some (Root.slot i) then none else w.ow a)=none;rw [if_pos h1]
   ·rw [List.getElem?_set_ne hij] at hj;obtain ⟨v,e1,x⟩:=R.slots j b e hj;refine ⟨v,e1,x.keep ff fun a u ha hr=>?_⟩;have:=kp a u ha (by rw [hr];exact fun z=>hij (by cases z;rfl));exact ⟨this.1,this.2.trans hr⟩
 ·exact ⟨w,rfl,Fut.refl _,R⟩
theorem Rel.frz:∀(is:List Nat) {w:Wd} {ρ:Env},Rel cl B σ w ρ S->∃w',w'.H=w.H/\Fut w w'/\Rel cl B σ w' (frz is ρ) S
 | [],w,ρ,R=>⟨w,rfl,Fut.refl _,R⟩
 | i::is,w,ρ,R=>by
  obtain ⟨w1,e1,f1,R1⟩:=R.frz1 i;obtain ⟨w2,e2,f2,R2⟩:=Rel.frz is R1;exact ⟨w2,e2.trans e1,f1.trans f2,R2⟩
end
section
variable{X:Cx}{cl:Cf}{E:St->XK}{own:Bool}{st:Stmt}{zbS:List Stmt}{f g:Fs}{e:Expr}{fe:Fe}{pos pos':Pos}
theorem zui(is:List Nat)(h:PS X st (tS cl E own f)):PS X st (tS cl E own (sFz is f)):=by
 refine PS.imp h ?_;rintro De σ H ⟨B,w,ρ,S,rfl,R,q⟩;obtain ⟨w',e',f',R'⟩:=R.frz is;exact ⟨B,w',frz is ρ,S,e',R',zjt.up f' q⟩
theorem zq7:PSs X [] (tS cl E own sNx):=by
 refine PSs.imp zpg ?_;rintro De σ H ⟨B,w,ρ,S,rfl,R,q⟩;exact q σ w R (Fut.refl _)
theorem zoT(h1:PS X st (tS cl E own f))(h2:PSs X zbS (tS cl E own g)):PSs X (st::zbS) (tS cl E own (zag f g)):=by
 refine PSs.imp (zmI h1 h2) ?_;rintro De σ H ⟨B,w,ρ,S,rfl,R,q⟩;refine ⟨B,w,ρ,S,rfl,R,?_⟩;unfold zag at q
 cases hf:f ρ S with
 | nx ρ' S' =>
  rw [hf] at q;intro σ' w' R' F';exact ⟨B,w',ρ',S',rfl,R',zjt.up F' q⟩
 | bk ρ' S'=>rw [hf] at q;exact q
 | ct ρ' S'=>rw [hf] at q;exact q
 | rt d S'=>rw [hf] at q;exact q
 | ex c ρ' S'=>rw [hf] at q;exact q
 | bad=>rw [hf] at q;exact q
theorem zoQ:PS X (.Pass pos) (tS cl E own sNx):=by
 refine PS.imp zpj ?_;rintro De σ H ⟨B,w,ρ,S,rfl,R,q⟩;exact q σ w R (Fut.refl _)
theorem zra:PS X (.Break pos) (tS cl E own sBk):=by
 refine PS.imp zmJ ?_;rintro De σ H ⟨B,w,ρ,S,rfl,R,q⟩;exact q σ w R (Fut.refl _)
theorem zvq{i:Nat}{De:Ends}{σ:St}{H:Hp}(q:tS cl E own (zaW i false fe) De σ H):znU (tE cl E fe) (zie i) De σ H:=by
 obtain ⟨B,w,ρ,S,rfl,R,q⟩:=q;refine ⟨B,w,ρ,S,rfl,R,?_⟩;unfold zaW at q
 cases hf:fe ρ S with
 | bad=>rw [hf] at q;exact q
 | exc c S1=>rw [hf] at q;exact fun w' R' F'=>q σ w' R' F'
 | ok d S1 =>
  rw [hf] at q;intro v w' R' F' h';exact q _ w' (R'.put h') F'
theorem zs6{i:Nat}{De:Ends}{σ:St}{H:Hp}(q:tS cl E own (zaW i true fe) De σ H):znU (tN cl E fe) (zie i) De σ H:=by
 obtain ⟨B,w,ρ,S,rfl,R,q⟩:=q;refine ⟨B,w,ρ,S,rfl,R,?_⟩;unfold zaW at q
 cases hf:fe ρ S with
 | bad=>rw [hf] at q;exact q
 | exc c S1=>rw [hf] at q;exact fun w' R' F'=>q σ w' R' F'
 | ok d S1 =>
  rw [hf] at q;intro p o w' R' F' hp t;exact q _ (w'.addAs p o (.slot i)) (R'.own hp t) (F'.trans (zfq hp))
theorem zrc{i:Nat}{x:Str}(hN:X.N.Nodup)(hi:X.N[i]?=some x)(hx:Loc X.env.scope x)(he:PE X e (tE cl E fe))(hs:swapsWith e (some (.Name x pos')) pos.line X.env=pure false)(hf:X.fn x=true\/X.env.scope.names.lookup x=some .local):PS X (.Assign [.Name x pos'] e pos) (tS cl E own (zaW i false fe)) :=
 PS.imp (ziN hN hi hx he hs hf) fun _ _ _ q=>zvq q
theorem zkw{i:Nat}{x:Str}(hN:X.N.Nodup)(hi:X.N[i]?=some x)(hx:Loc X.env.scope x)(he:PE X e (tN cl E fe))(hs:swapsWith e (some (.Name x pos')) pos.line X.env=pure false)(hf:X.fn x=true\/X.env.scope.names.lookup x=some .local):PS X (.Assign [.Name x pos'] e pos) (tS cl E own (zaW i true fe)) :=
 PS.imp (ziN hN hi hx he hs hf) fun _ _ _ q=>zs6 q
theorem znY(he:PE X e (tE cl E fe))(hs:swapsWith e none pos.line X.env=pure false):PS X (.Expr e pos) (tS cl E own (zo7 fe)):=by
 refine PS.imp (zh1 he hs) ?_;rintro De σ H ⟨B,w,ρ,S,rfl,R,q⟩;refine ⟨B,w,ρ,S,rfl,R,?_⟩;unfold zo7 at q
 cases hf:fe ρ S with
 | bad=>rw [hf] at q;exact q
 | exc c S1=>rw [hf] at q;exact fun w' R' F'=>q σ w' R' F'
 | ok d S1=>rw [hf] at q;exact fun v w' R' F' _=>q σ w' R' F'
theorem zq6(he:PE X e (tE cl E fe)):PS X (.Return (some e) pos) (tS cl E false (zbp fe)):=by
 refine PS.imp (zkN he) ?_;rintro De σ H ⟨B,w,ρ,S,rfl,R,q⟩;refine ⟨B,w,ρ,S,rfl,R,?_⟩;unfold zbp at q
 cases hf:fe ρ S with
 | bad=>rw [hf] at q;exact q
 | exc c S1=>rw [hf] at q;exact fun w' R' F'=>q σ w' R' F'
 | ok d S1=>rw [hf] at q;exact fun v w' R' F' h'=>q v w' R'.wd F' h'
theorem zoN(he:PE X e (tN cl E fe)):PS X (.Return (some e) pos) (tS cl E true (zbp fe)):=by
 refine PS.imp (zkN he) ?_;rintro De σ H ⟨B,w,ρ,S,rfl,R,q⟩;refine ⟨B,w,ρ,S,rfl,R,?_⟩;unfold zbp at q
 cases hf:fe ρ S with
 | bad=>rw [hf] at q;exact q
 | exc c S1=>rw [hf] at q;exact fun w' R' F'=>q σ w' R' F'
 | ok d S1 =>
  rw [hf] at q;intro p o w' R' F' hp t;have ff:=zfq (w:=w') (p:=p) (o:=o) (r:=.slot 0) hp;exact q (.ref p) (w'.addAs p o (.slot 0)) (Rel.own (i:=0) R' hp t).wd (F'.trans ff) ⟨p,o,0,rfl,if_pos rfl,zaH,t.up ff⟩
theorem zoM{i:Nat}{x:Str}(hN:X.N[i]?=some x)(hv:Vis X.env.scope x)(hd:(x == ("__debug__":Str))=false)(hcd:(x == ("__classdict__":Str))=false):PS X (.Return (some (.Name x pos')) pos) (tS cl E true (zgo i)):=by
 refine PS.imp (zkN (zcz hN hv hd hcd)) ?_;rintro De σ H ⟨B,w,ρ,S,rfl,R,q⟩;unfold zgo at q;split at q
 ·rename_i l hd;obtain ⟨v,e1,⟨a,o,rfl,h1,h2,t⟩ | h⟩:=R.slots i true _ hd
  ·exact ⟨_,e1,q _ w R.wd (Fut.refl _) ⟨a,o,i,rfl,h1,h2,t⟩⟩
  ·obtain ⟨_,_,_,_,z,_⟩:=h.ex;cases z
 ·exact q.elim
theorem zoO:PS X (.Return none pos) (tS cl E false zmx):=by
 refine PS.imp zpi ?_;rintro De σ H ⟨B,w,ρ,S,rfl,R,q⟩;exact q .non w R.wd (Fut.refl _) .non
theorem zuh{c:Expr}{a b:List Stmt}{fc:Fe}(hc:PT X c (tTr cl E fc))(ha:PSs X a (tS cl E own f))(hb:PSs X b (tS cl E own g)):PS X (.If c a b pos) (tS cl E own (sIf fc f g)):=by
 refine PS.imp (zux hc ha hb) ?_;rintro De σ H ⟨B,w,ρ,S,rfl,R,q⟩;refine ⟨B,w,ρ,S,rfl,R,?_⟩;unfold sIf at q
 cases hg:fc ρ S with
 | bad=>rw [hg] at q;exact q
 | exc c S1=>rw [hg] at q;exact fun w' R' F'=>q σ w' R' F'
 | ok d S1 =>
  rw [hg] at q;dsimp only at q ⊢
  cases hb:isB d with
  | none=>rw [hb] at q;exact q.elim
  | some b =>
   rw [hb] at q;intro w1 R1 F1
   cases b with
   | true=>exact zni ⟨B,w1,ρ,S1,rfl,R1,zjt.up F1 q⟩
   | false=>exact znj ⟨B,w1,ρ,S1,rfl,R1,zjt.up F1 q⟩
end
def zg6(i:Nat)(fe:Fe):Fs:=fun ρ S=>match ρ[i]? with
 | some (some (true,.lst l))=>(match fe ρ S with
  | .ok d S'=>if small l.length then .nx (ρ.set i (some (true,.lst (l++[d])))) S' else .bad
  | .exc c S'=>.ex c ρ S' | .bad=>.bad)
 | _=>.bad
section
variable{X:Cx}{cl:Cf}{E:St->XK}{own:Bool}{e:Expr}{fe:Fe}{pos pos':Pos}
theorem zms{n:Nat}(h:small n=true):n<sizeLine:=Nat.lt_of_le_of_lt (of_decide_eq_true h) (by decide)
theorem Rel.list{B:Base}{σ:St}{w:Wd}{ρ:Env}{S:Sto}{i:Nat}{l:List D}(R:Rel cl B σ w ρ S)(h:ρ[i]?=some (some (true,.lst l))):∃a xs,σ[i]?=some (some (.ref a))/\w.ow a=some (.slot i)/\w.H a=some (.lst xs)/\Shds cl w xs l:=by
 obtain ⟨v,e1,⟨a,o,rfl,h1,h2,t⟩ | z⟩:=R.slots i true _ h
 ·cases t with
  | lst t=>exact ⟨a,_,e1,h1,h2,t⟩
 ·obtain ⟨_,_,_,_,z,_⟩:=z.ex;cases z
theorem zrd{i:Nat}{x:Str}{ap cp:Pos}(hN:X.N[i]?=some x)(hv:Vis X.env.scope x)(hd:(x == ("__debug__":Str))=false)(hcd:(x == ("__classdict__":Str))=false)(he:PE X e (tE cl E fe))
  (hpl:zcm e=true) (hln:(ap.endLine == cp.line)=true):PS X (.Expr (.Call (.Attribute (.Name x pos') "append" ap) [e] [] cp) pos) (tS cl E own (zg6 i fe)):=by
 refine PS.imp (zh1 (zps (es:=[]) PySem.F.plainAttrs_list PySem.F.slot_list_append PySem.F.type_list_append zlc (zcz hN hv hd hcd) (zcM he zfb (zbv hpl)) (hfew:=zlL (by simp [hpl]) (by simp)) (hline:=hln) (hs:=zbv hpl) (hplain:=rfl))) ?_;rintro De σ H ⟨B,w,ρ,S,rfl,R,q⟩;unfold zg6 at q;split at q
 ·rename_i l hl;obtain ⟨a,xs,e1,h1,h2,t⟩:=R.list hl;refine ⟨_,e1,.inl ⟨rfl,_,SqL.of h2⟩,B,w,ρ,S,rfl,R,?_⟩
  cases hf:fe ρ S with
  | bad=>rw [hf] at q;exact q
  | exc c S1=>rw [hf] at q;exact fun w' R' F'=>q σ w' R' F'
  | ok d S1 =>
   rw [hf] at q;intro v w' R' F' h';dsimp only at q
   cases hz:small l.length with
   | false=>rw [hz,if_neg (by decide)] at q;exact q.elim
   | true =>
    rw [hz,if_pos rfl] at q;obtain ⟨a',xs',e1',h1',h2',t'⟩:=R'.list hl;rw [e1] at e1';cases e1';refine ⟨a,xs',v,rfl,rfl,h2',by rw [t'.length];exact zms hz,?_⟩;exact q σ (w'.mut a (.lst (xs'++[v]))) (R'.mut (d0:=.non) e1 h1' (.lst (t'.append (.cons h' .nil)))) (F'.trans (zer (by rw [h1'];exact Option.some_ne_none _)))
 ·exact q.elim
end
end S2
namespace L2
open PySem PySem.Spec PyProof.Rows
section
variable{prog:Program}{w:World}{A:Around}{E:Z5}{s:Shared}
theorem zmk{it t:Addr}{j:Nat}{vs:Array Value}{v:Value}{Q:Z5}(st:s.heap.IsTupleIter it t j)(tp:s.heap.IsTuple t vs)(e:vs[j]?=some v)
  (q:∀h',h'.IsTupleIter it t (j+1)->Heap.SameBut it s.heap h'->Q v { s with heap:=h' }):wpAny (model prog w) A (Builtin.SmallTypes.nextOf (.ref it)) Q E s:=by
 obtain ⟨o1,g1,c1,d1⟩:=id st;obtain ⟨o2,g2,_,n2,d2⟩:=tp;unfold Builtin.SmallTypes.nextOf;refine wpAny_bind (wpAny_callSpecial?_slot (name:=Str.ofString "__next__") st.typeIs F.slot_tuple_iterator_next (wpAny_call_entry F.slot_tuple_iterator_next st.typeIs F.entry_tuple_iterator_next ?_ (F.args_tuple_iterator_next_1 _)));show wpAny _ _ (field (.ref it) 0 >>= _) _ _ s;refine wpAny_bind (wpAny_field g1 d1 (x:=.ref t) rfl ?_);show wpAny _ _ (if (Value.ref t == Value.none)=true then _ else _) _ _ s;rw [if_neg (show ¬ ((Value.ref t == Value.none)=true) from fun z=>Bool.false_ne_true z)];show wpAny _ _ (field (.ref it) 1 >>= _) _ _ s;refine wpAny_bind (wpAny_field g1 d1 (x:=.int j 0) rfl ?_);show wpAny _ _ (seqItems? (.ref t) >>= _) _ _ s;refine wpAny_bind (wpAny_seqItems g2 d2 ?_);simp only [Int.toNat_natCast,e];refine wpAny_bind (wpAny_setField g1 d1 (by simp) (wpAny_pure ⟨v,rfl,wpAny_pure (q _ ?_ (Heap.SameBut.update ..))⟩));refine ⟨_,Heap.get?_update_self _ g1 (Obj.isFreed_of_fields (Obj.data_mapFields d1 _)),(Obj.cls_mapFields ..).trans c1,?_⟩;rw [Obj.data_mapFields d1];simp [rawInt]
theorem zki{it t:Addr}{j:Nat}{vs:Array Value}{Q:Z5}(hh:A.handled=none)(st:s.heap.IsTupleIter it t j)(tp:s.heap.IsTuple t vs)(e:vs[j]?=none)
  (q:∀h' x,Heap.ExtBut it s.heap h'->(∃o,h'.get? x=some o/\o.cls=.type "StopIteration")->E (.ref x) { s with heap:=h' }):wpAny (model prog w) A (Builtin.SmallTypes.nextOf (.ref it)) Q E s:=by
 obtain ⟨o1,g1,c1,d1⟩:=id st;obtain ⟨o2,g2,_,n2,d2⟩:=tp;unfold Builtin.SmallTypes.nextOf;refine wpAny_bind (wpAny_callSpecial?_slot (name:=Str.ofString "__next__") st.typeIs F.slot_tuple_iterator_next (wpAny_call_entry F.slot_tuple_iterator_next st.typeIs F.entry_tuple_iterator_next ?_ (F.args_tuple_iterator_next_1 _)));show wpAny _ _ (field (.ref it) 0 >>= _) _ _ s;refine wpAny_bind (wpAny_field g1 d1 (x:=.ref t) rfl ?_);show wpAny _ _ (if (Value.ref t == Value.none)=true then _ else _) _ _ s;rw [if_neg (show ¬ ((Value.ref t == Value.none)=true) from fun z=>Bool.false_ne_true z)];show wpAny _ _ (field (.ref it) 1 >>= _) _ _ s;refine wpAny_bind (wpAny_field g1 d1 (x:=.int j 0) rfl ?_);show wpAny _ _ (seqItems? (.ref t) >>= _) _ _ s;refine wpAny_bind (wpAny_seqItems g2 d2 ?_);simp only [Int.toNat_natCast,e];refine wpAny_bind (wpAny_rule (wpAny_bind (wpAny_setField g1 d1 (by simp) ?_)));show wpAny _ _ (newExc (.type "StopIteration") [] >>= _) _ _ _;refine wpAny_bind ?_;simp only [newExc,newTuple];refine wpAny_bind (wpAny_newObj_type ?_ (by size_fits));refine wpAny_bind (m:=firstArgMember _ _) (wpAny_of_eq (a:=Value.none) ?_ ?_)
 ·first | rfl | (simp only [firstArgMember];rfl)
 refine wpAny_newObj_type ?_ (by size_fits);simp only [raiseNew];refine wpAny_bind (wpAny_handled ?_)
 first | rw [show A.in1.handled=none from hh] | rw [hh]
 refine wpAny_bind (wpAny_pure (wpAny_throw (q _ _ (((Heap.SameBut.update ..).extBut.push _).push _) ⟨_,Heap.get?_push_size _ rfl,rfl⟩)))
theorem zlQ(hh:A.handled=none)(it t:Addr)(ne:t≠it)(vs:Array Value):Draws prog w A it [it,t] vs.size (fun j v=>vs[j]?=some v) (fun j h=>h.IsTupleIter it t j/\h.IsTuple t vs) where
 live:=fun _ _ st=>by obtain ⟨⟨o,ho,_⟩,_⟩:=st;exact ⟨o,ho⟩
 frame:=fun _ _ _ st hk=>⟨st.1.at fun o e=>hk it (by simp) o e,by obtain ⟨o,ho,r⟩:=st.2;exact ⟨o,hk t (by simp) o ho,r⟩⟩
 item:=fun j s Q E hj st hQ=>zmk st.1 st.2 (v:=vs[j]) (by simp [hj]) fun h' st' sb=>hQ _ h' s.toks (by simp [hj]) ⟨st',by obtain ⟨o,ho,r⟩:=st.2;exact ⟨o,(sb.2 t ne).trans ho,r⟩⟩ sb
 done:=fun s Q E st hE=>zki hh st.1 st.2 (by simp) hE
theorem zhz(l:Addr)(items:Array Value)(n:Nat)(dct:Option Addr)(sl:Array (Option Value)) :
  Meets (Builtin.«enumerate.__new__» ⟨[.type "enumerate",.ref l],[]⟩) (fun _ R s=>s.heap.get? l=some { cls:=.type "tuple",dict:=dct,data:=.seq items n,slots:=sl } ∧
   R (.ok (.ret (.ref (s.heap.push { cls:=.type "tuple_iterator",data:=.fields #[.ref l,.int 0 0] }).objs.size)))
    { s with heap:=(s.heap.push { cls:=.type "tuple_iterator",data:=.fields #[.ref l,.int 0 0] }).push { cls:=.type "enumerate",data:=.fields #[.none,.bool false,.ref s.heap.objs.size,rawInt 0,.none,.none] } }) :=
 .of_wp fun prog w A R s h=>by
  obtain ⟨hp,g,d,tk,os⟩:=s;obtain ⟨hl,h⟩:=h;have hsub:=sub_enumerate;have hT:Heap.IsTuple (Shared.heap ⟨hp,g,d,tk,os⟩) l items:=⟨_,hl,rfl,n,rfl⟩
  wp_walk using AutoSeq1.wpAny_loadPart' hl
  refine wpAny_stack_any fun st=>wpAny_pure ?_
  split
  ·rename_i c _ _ _ _ _
   cases (c == Value.type "enumerate")<;>(wp_walk using AutoSeq1.wpAny_loadPart' hl,wpAny_pyIter_tuple hT;exact ⟨_,rfl,h⟩)
  ·wp_walk using AutoSeq1.wpAny_loadPart' hl,wpAny_pyIter_tuple hT;exact ⟨_,rfl,h⟩
theorem zgL{l:Addr}{items:Array Value}{Q:Z5}(hL:s.heap.IsTuple l items)
  (h:∀h',IsEnum h' (s.heap.objs.size+1) s.heap.objs.size 0 .none->h'.IsTupleIter s.heap.objs.size l 0->h'.objs.size=s.heap.objs.size+2->(∀b o,s.heap.get? b=some o->h'.get? b=some o)->Q (.ref (s.heap.objs.size+1)) { s with heap:=h' }) :
  wpAny (model prog w) A (call (.type "enumerate") [.ref l]) Q E s:=by
 obtain ⟨⟨c,dct,dt,sl⟩,hl,hc,n,hd⟩:=hL;simp only at hc hd;subst hc hd;refine callType_new F.called_enumerate (by decide) (F.typeCall_enumerate_1 _) (F.newCall_enumerate_1 _) (fun obj=>F.args_object_init_2 obj _) F.entry_enumerate_new (zhz l items n dct sl) ⟨hl,?_⟩;generalize hp1:s.heap.push { cls:=.type "tuple_iterator",data:=.fields #[.ref l,.int 0 0] }=h1
 have hz:h1.objs.size=s.heap.objs.size+1:=by rw [<-hp1];exact Heap.size_push ..
 have k1:∀b o,s.heap.get? b=some o->h1.get? b=some o:=fun b o x=>by rw [<-hp1];exact Heap.get?_push_of_some _ x
 have i1:h1.get? s.heap.objs.size=some { cls:=.type "tuple_iterator",data:=.fields #[.ref l,.int 0 0] }:=by rw [<-hp1];exact Heap.get?_push_size _ rfl
 show _/\_;rw [hz]
 have he:IsEnum (h1.push { cls:=.type "enumerate",data:=.fields #[.none,.bool false,.ref s.heap.objs.size,rawInt 0,.none,.none] }) (s.heap.objs.size+1) s.heap.objs.size 0 .none:=by
  rw [<-hz];exact Heap.get?_push_size _ rfl
 exact ⟨⟨_,he,rfl⟩,h _ he ⟨_,Heap.get?_push_of_some _ i1,rfl,rfl⟩ (by rw [Heap.size_push,hz]) fun b o x=>Heap.get?_push_of_some _ (k1 b o x)⟩
end
section
variable{X:Cx}{pins:Z3}{σ:St}{H:Hp}{s:Shared}
theorem Inv.turnedL{t':Nat}{h':Heap}{ch:List Addr}(I:Inv X pins σ H s)(k:∀b o,b ∉ ch->s.heap.get? b=some o->h'.get? b=some o)(hf:∀b∈ch,zmi X pins H b):Inv X pins σ H { s with heap:=h',toks:=t' }:=by
 have nit:∀b u,H b=some u->b ∉ ch:=fun b u e z=>by rw [(hf b z).1] at e;cases e
 refine I.step (g':=s.gens) (d':=s.drawn) (ch:=ch) (fun b hb=>?_) (fun b o _ _ hc e _=>k b o hc e) (fun b o _ _ hc e _=>⟨o.slots,k b o hc e⟩) (fun _ _ _ _ n=>n) (fun b o hc e=>⟨o,k b o hc e⟩) (fun _ _ e=>e) (fun _ _ _ e=>e) (fun b ps e=>⟨#[],by rw [e];simp⟩) (fun m hm=>?_) (fun b u e=>?_) I.bare
 ·obtain ⟨f0,f1,f2,f3,f4,f5⟩:=hf b hb;exact ⟨f3,f1,f4,f5⟩
 ·obtain ⟨o,es,ep,ho,r⟩:=hm;exact ⟨o,es,ep,k _ o (fun z=>(hf _ z).2.1 rfl) ho,r⟩
 ·refine (I.hok b u e).stay (fun c v hc q=>k c v ?_ q) (fun _ q=>q) fun _ _ q=>q
  rcases hc with z | z
  ·rw [z];exact nit b u e
  ·exact nit c _ z
def ItE(S:Hp->Addr->List V->Prop)(a:Addr):It :=
 ⟨fun i H=>∃xs x,S H a xs/\xs[i]?=some x,fun i H x H'=>∃t y,x=.ref t/\H t=none/\H'=upd H t (.tup [.int (i:Int),y])/\∀xs,S H a xs->xs[i]?=some y,fun i H=>∃xs,S H a xs/\xs.length<=i⟩
theorem zjg{i:Nat}{e it T:Addr}{h1 h2:Heap}{tk:Nat}{x:Value}{y:V}(I:Inv X pins σ H s)(hf:∀b∈[e,it],zmi X pins H b)(hT:T=s.heap.objs.size)(te:h1.get? T=some { cls:=.type "tuple",data:=.seq #[.int i tk,x] })
  (k:∀b o,b≠e->b≠it->s.heap.get? b=some o->h1.get? b=some o) (sb:Heap.SameBut e h1 h2) (ne:T≠e) (ry:zbx y x):Inv X pins σ (upd H T (.tup [.int (i:Int),y])) { s with heap:=h2,toks:=tk+1 }/\H T=none:=by
 have fr:H T=none:=by rw [hT];exact I.hok.fresh (Nat.le_refl _)
 refine ⟨?_,fr⟩
 have I1:Inv X pins σ H { s with heap:=h2,toks:=tk+1 }:=I.turnedL (ch:=[e,it]) (fun b o hb q=>by
  simp only [List.mem_cons,List.not_mem_nil,or_false,not_or] at hb
  exact (sb.2 b hb.1).trans (k b o hb.1 hb.2 q)) hf
 refine I1.track fr (by rw [hT];exact I.sz) (by rw [hT];exact Nat.ne_of_gt I.lt) (fun z c q=>?_) (fun p hp=>?_) ?_
 ·obtain ⟨v,cq⟩:=I.cell z c q;rw [hT];exact Nat.ne_of_lt cq.lt
 ·rw [hT];exact Nat.ne_of_lt (Heap.lt_size (I.pin p hp).1)
 ·refine ⟨by show 2<=sizeLine;decide,[.int i tk,x],.cons ⟨tk,rfl⟩ (.cons ry .nil),?_⟩;exact ⟨_,(sb.2 T ne).trans te,rfl,_,rfl⟩
theorem zjz{P:Program}{w:World}{K:PySem.W.Frag}{elts:List Expr}{x1:Nat}{pos:Pos}(a it e:Addr)(hei:e≠it):Turn P w K (.Tuple elts x1 pos) (ItE (SqL K) a) [e,it] e (fun i h=>(∃old,IsEnum h e it (i:Int) old)/\h.IsListIter it a i) where
 mem:=by simp
 obj:=fun i h st b hb=>by
  obtain ⟨⟨old,he⟩,o,ho,c,d⟩:=st;simp only [List.mem_cons,List.not_mem_nil,or_false] at hb
  rcases hb with rfl | rfl
  ·exact ⟨_,he,fun v z=>by cases z⟩
  ·exact ⟨o,ho,fun v z=>by rw [d] at z;cases z⟩
 keep:=fun i h h' st k=>by
  obtain ⟨⟨old,he⟩,hi⟩:=st;exact ⟨⟨old,k e (by simp) _ he⟩,hi.at fun o q=>k it (by simp) o q⟩
 item:=by
  intro X hP hw hK hc i pins s σ H E I hf st hg;subst hP hw hK;obtain ⟨xs,x,hq,hx⟩:=hg;obtain ⟨⟨old,he⟩,hi⟩:=st;obtain ⟨its,rv,p,hz⟩:=I.list hq;obtain ⟨u,hu,ru⟩:=rv.get hx;refine wpAny_pyNext_enum_item he hi p.isList (x:=u) (by simpa using hu) hei fun h1 ho hi1 ht1 hz1 k1=>?_
  have neT:s.heap.objs.size≠e:=Nat.ne_of_gt (Heap.lt_size he);refine ⟨_,rfl,wpAny_letOwnedTupleGo_enum ho fun h2 he2 sb=>?_⟩;obtain ⟨I2,fr⟩:=zjg (h2:=h2) (y:=x) I hf rfl ht1 k1 sb neT ru;refine ⟨.ref s.heap.objs.size,_,I2,rfl,⟨_,x,rfl,fr,rfl,fun ys hy=>by rw [I.list_inj hy hq];exact hx⟩,⟨⟨u,by simpa using he2⟩,hi1.at fun o q=>(sb.2 it (Ne.symm hei)).trans q⟩,fun b hb=>?_⟩;rw [zam]
  ·exact (hf b hb).1
  ·rintro rfl;simp only [List.mem_cons,List.not_mem_nil,or_false] at hb
   rcases hb with z | z
   ·exact neT z
   ·obtain ⟨o,q,_⟩:=hi;exact absurd (Heap.lt_size q) (by rw [<-z];exact Nat.lt_irrefl _)
 done:=by
  intro X hP hw hK hc i pins s σ H E I hf st hg;subst hP hw hK;obtain ⟨xs,hq,hx⟩:=hg;obtain ⟨⟨old,he⟩,hi⟩:=st;obtain ⟨its,rv,p,hz⟩:=I.list hq;have hl:=rv.length;obtain ⟨f0,f1,f2,f3,f4,f5⟩:=hf it (by simp);exact wpAny_pyNext_enum_end (I.ok.hd hc) he hi p.isList (by simp;omega) fun h' eb=>⟨rfl,I.turned (t':=s.toks) (fun b o hb q=>eb b o hb q) f0 f1 f3 f4 f5⟩
 self:=fun _ _ _ _ _ st h=>by
  obtain ⟨⟨old,he⟩,_⟩:=st;exact wpAny_pyIter_enum he h
theorem zjy{P:Program}{w:World}{K:PySem.W.Frag}{elts:List Expr}{x1:Nat}{pos:Pos}(a it e:Addr)(hei:e≠it):Turn P w K (.Tuple elts x1 pos) (ItE (SqT K) a) [e,it] e (fun i h=>(∃old,IsEnum h e it (i:Int) old)/\h.IsTupleIter it a i) where
 mem:=by simp
 obj:=fun i h st b hb=>by
  obtain ⟨⟨old,he⟩,o,ho,c,d⟩:=st;simp only [List.mem_cons,List.not_mem_nil,or_false] at hb
  rcases hb with rfl | rfl
  ·exact ⟨_,he,fun v z=>by cases z⟩
  ·exact ⟨o,ho,fun v z=>by rw [d] at z;cases z⟩
 keep:=fun i h h' st k=>by
  obtain ⟨⟨old,he⟩,hi⟩:=st;exact ⟨⟨old,k e (by simp) _ he⟩,hi.at fun o q=>k it (by simp) o q⟩
 item:=by
  intro X hP hw hK hc i pins s σ H E I hf st hg;subst hP hw hK;obtain ⟨xs,x,hq,hx⟩:=hg;obtain ⟨⟨old,he⟩,hi⟩:=st;obtain ⟨its,rv,p,hz⟩:=I.tuple hq;obtain ⟨u,hu,ru⟩:=rv.get hx
  have hlt:i<its.toArray.size:=by
   have:=(List.getElem?_eq_some_iff.mp hu).1;simpa using this
  have nat':a≠it:=by
   rintro rfl;obtain ⟨o,q,c,_⟩:=hi;obtain ⟨o2,q2,c2,_⟩:=id p;rw [q] at q2;cases q2;rw [c] at c2;simp at c2
  have nae:e ∉ [it,a]:=by
   simp only [List.mem_cons,List.not_mem_nil,or_false,not_or];refine ⟨hei,?_⟩;rintro rfl;obtain ⟨o2,q2,c2,_⟩:=id p;rw [he] at q2;cases q2;simp at c2
  refine wpAny_pyNext_enum_itemD (D:=zlQ (A:=X.A.in1) (I.ok.hd hc) it a nat' its.toArray) he ⟨hi,show s.heap.IsTuple a its.toArray from p⟩ hlt hei nae fun u' h1 tk hu' ho hi1 ht1 hz1 k1=>?_
  have eu:u'=u:=by
   have:its[i]?=some u':=by simpa using hu'
   rw [hu] at this;exact (Option.some.inj this).symm
  subst eu;have neT:s.heap.objs.size≠e:=Nat.ne_of_gt (Heap.lt_size he);refine ⟨_,rfl,wpAny_letOwnedTupleGo_enum ho fun h2 he2 sb=>?_⟩;obtain ⟨I2,fr⟩:=zjg (h2:=h2) (y:=x) I hf rfl ht1 k1 sb neT ru;refine ⟨.ref s.heap.objs.size,_,I2,rfl,⟨_,x,rfl,fr,rfl,fun ys hy=>by rw [I.tuple_inj hy hq];exact hx⟩,⟨⟨u',by simpa using he2⟩,hi1.1.at fun o q=>(sb.2 it (Ne.symm hei)).trans q⟩,fun b hb=>?_⟩;rw [zam]
  ·exact (hf b hb).1
  ·rintro rfl;simp only [List.mem_cons,List.not_mem_nil,or_false] at hb
   rcases hb with z | z
   ·exact neT z
   ·obtain ⟨o,q,_⟩:=hi;exact absurd (Heap.lt_size q) (by rw [<-z];exact Nat.lt_irrefl _)
 done:=by
  intro X hP hw hK hc i pins s σ H E I hf st hg;subst hP hw hK;obtain ⟨xs,hq,hx⟩:=hg;obtain ⟨⟨old,he⟩,hi⟩:=st;obtain ⟨its,rv,p,hz⟩:=I.tuple hq;have hl:=rv.length;obtain ⟨f0,f1,f2,f3,f4,f5⟩:=hf it (by simp);have ty:s.TypeIs (.ref e) "enumerate":=⟨_,he,rfl⟩;unfold pyNext;refine wpAny_bind (wpAny_attempt (wpAny_callSpecial?_slot (name:=Str.ofString "__next__") ty F.slot_enumerate_next (wpAny_call_entry F.slot_enumerate_next ty F.entry_enumerate_next ?_ (F.args_enumerate_next_1 _))));show wpAny _ _ (field (.ref e) 2 >>= _) _ _ _;refine wpAny_bind (wpAny_field he rfl (x:=.ref it) rfl ?_);refine wpAny_bind (zki (I.ok.hd hc) hi (show s.heap.IsTuple a its.toArray from p) (by simp;omega) fun h' x eb hx'=>?_);obtain ⟨o,ho,hcl⟩:=hx';refine wpAny_bind (wpAny_isInstance (T:="StopIteration") (b:=true) ⟨o,ho,hcl⟩ isSubtype_stop ?_);exact wpAny_pure ⟨rfl,I.turned (t':=s.toks) (fun b o hb q=>eb b o hb q) f0 f1 f3 f4 f5⟩
 self:=fun _ _ _ _ _ st h=>by
  obtain ⟨⟨old,he⟩,_⟩:=st;exact wpAny_pyIter_enum he h
theorem zhF:bootBuiltins "enumerate" = some (.type "enumerate"):=by decide +kernel
def zxt(S:Hp->Addr->List V->Prop)(ta:TA):TI:=fun σ H R=>ta σ H fun vs H1=>∃a,vs=[.ref a]/\(∃xs,S H1 a xs)/\R (ItE S a) H1
theorem zmN{K:PySem.W.Frag}{elts:List Expr}{x1:Nat}{tp:Pos}{a:Expr}{ta:TA}{p pos:Pos}(hg:Gl X "enumerate")(hm:X.mg "enumerate" = none)(ha:PA X [a] ta)(hK:X.K=K:=by rfl)(hs:starEach [a] X.env=[(false,eval a X.env)]:=by rfl) :
  PI X (.Tuple elts x1 tp) (.Call (.Name "enumerate" p) [a] [] pos) (zxt (SqL K) ta):=by
 subst hK;intro pins s σ H R I h;refine Call_ (zd3 I hg hm zhF (PyProof.Rows.callWith_type1 (thn (ha pos pins s σ H _ I h) fun us s1 ⟨vs,H1,I1,r1,q1⟩=>?_) hs rfl));obtain ⟨b,e,⟨xs,hq⟩,q⟩:=q1;subst e
 cases r1 with
 | cons r rr =>
  cases rr;cases r;obtain ⟨its,rv,pl,hz⟩:=I1.list hq;refine call_enumerate_list pl.isList fun h' he hi hz' k=>wpAny_pyIter_enum he ?_
  refine ⟨s1.heap.objs.size+1,[s1.heap.objs.size+1,s1.heap.objs.size],_,_,H1,rfl,I1.kept (t':=s1.toks) k,zjz b _ _ (Nat.succ_ne_self _),⟨⟨_,he⟩,hi⟩,fun c hb=>?_,q⟩;simp only [List.mem_cons,List.not_mem_nil,or_false] at hb
  have hc:s1.heap.objs.size<=c:=by rcases hb with rfl | rfl<;>omega
  exact I1.fpOk hc (I1.hok.fresh hc)
theorem zmM{K:PySem.W.Frag}{elts:List Expr}{x1:Nat}{tp:Pos}{a:Expr}{ta:TA}{p pos:Pos}(hg:Gl X "enumerate")(hm:X.mg "enumerate" = none)(ha:PA X [a] ta)(hK:X.K=K:=by rfl)(hs:starEach [a] X.env=[(false,eval a X.env)]:=by rfl) :
  PI X (.Tuple elts x1 tp) (.Call (.Name "enumerate" p) [a] [] pos) (zxt (SqT K) ta):=by
 subst hK;intro pins s σ H R I h;refine Call_ (zd3 I hg hm zhF (PyProof.Rows.callWith_type1 (thn (ha pos pins s σ H _ I h) fun us s1 ⟨vs,H1,I1,r1,q1⟩=>?_) hs rfl));obtain ⟨b,e,⟨xs,hq⟩,q⟩:=q1;subst e
 cases r1 with
 | cons r rr =>
  cases rr;cases r;obtain ⟨its,rv,pl,hz⟩:=I1.tuple hq;refine zgL (show s1.heap.IsTuple b its.toArray from pl) fun h' he hi hz' k=>wpAny_pyIter_enum he ?_
  refine ⟨s1.heap.objs.size+1,[s1.heap.objs.size+1,s1.heap.objs.size],_,_,H1,rfl,I1.kept (t':=s1.toks) k,zjy b _ _ (Nat.succ_ne_self _),⟨⟨_,he⟩,hi⟩,fun c hb=>?_,q⟩;simp only [List.mem_cons,List.not_mem_nil,or_false] at hb
  have hc:s1.heap.objs.size<=c:=by rcases hb with rfl | rfl<;>omega
  exact I1.fpOk hc (I1.hok.fresh hc)
def Itq(lo c:Int)(n:Nat):It:=⟨fun i _=>i<n,fun i H x H'=>H'=H/\x=.int (lo+i*c),fun i _=>n<=i⟩
theorem zhO{P:Program}{w:World}{K:PySem.W.Frag}{tg:Expr}(it:Addr)(lo c:Int)(n:Nat):Turn P w K tg (Itq lo c n) [it] it (fun i h=>IsRangeIter h it (lo+(i:Nat)*c) ((n:Int)-(i:Nat)) c) where
 mem:=by simp
 obj:=fun i h st b hb=>by
  have e:b=it:=by simpa using hb
  subst e;exact ⟨_,st,fun v z=>by cases z⟩
 keep:=fun i h h' st k=>k it (by simp) _ st
 item:=by
  intro X hP hw hK hc i pins s σ H E I hf st hg;subst hP hw hK;obtain ⟨f0,f1,f2,f3,f4,f5⟩:=hf it (by simp);have W:=Walks.range (prog:=X.prog) (w:=X.w) (I.ok.hd hc) it lo c n;refine W.item i s _ _ hg st fun v h' tk hv st' kk=>?_
  obtain ⟨t,rfl⟩:=hv;have I1:Inv X pins σ H { s with heap:=h',toks:=tk }:=I.turned (fun b o hb e=>kk b o (by simpa using hb) e) f0 f1 f3 f4 f5;exact ⟨_,rfl,zno (s:={ s with heap:=h',toks:=tk }) (n:="range_iterator") st' rfl rfl (by decide) ⟨.int (lo+i*c),H,I1,⟨t,rfl⟩,⟨rfl,rfl⟩,st',fun b hb=>(hf b hb).1⟩⟩
 done:=by
  intro X hP hw hK hc i pins s σ H E I hf st hg;subst hP hw hK;obtain ⟨f0,f1,f2,f3,f4,f5⟩:=hf it (by simp);exact wpAny_pyNext_range_end (I.ok.hd hc) st (by have:n<=i:=hg;omega) fun h' eb=>⟨rfl,I.turned (t':=s.toks) (fun b o hb e=>eb b o hb e) f0 f1 f3 f4 f5⟩
 self:=fun _ _ _ _ _ st h=>wpAny_pyIter_rangeiter st h
def zu6(ta:TA):TI:=fun σ H R=>ta σ H fun vs H1=>∃j c:Int,vs=[.int 0,.int j,.int c]/\0<=j/\j<=1000/\1<=c/\c<=1000/\R (Itq 0 c ((j+c-1) / c).toNat) H1
theorem zkS{tg a b c:Expr}{ta:TA}{p pos:Pos}(hg:Gl X "range")(hm:X.mg "range" = none)(ha:PA X [a,b,c] ta)(hs:starEach [a,b,c] X.env=(false,eval a X.env)::starEach [b,c] X.env:=by rfl)(hs2:(backTo pos (starEach [b,c] X.env)).any (·.1)=false:=by rfl) :
  PI X tg (.Call (.Name "range" p) [a,b,c] [] pos) (zu6 ta):=by
 intro pins s σ H R I h;refine Call_ (zd3 I hg hm boot_range (PyProof.Rows.callWith_type1 (thn (ha pos pins s σ H _ I h) fun us s1 ⟨vs,H1,I1,r1,q1⟩=>?_) hs hs2));obtain ⟨j,k,e,j0,j1,k0,k1,q⟩:=q1;subst e
 cases r1 with
 | cons r rr =>
  cases rr with
  | cons r' rr =>
   cases rr with
   | cons r'' rr =>
    cases rr;obtain ⟨t,rfl⟩:=r;obtain ⟨t',rfl⟩:=r';obtain ⟨t'',rfl⟩:=r'';have hsz:=rangeSize_pos (len:=j) k0 j0
    have hsm:Builtin.Range.small 0 j k=true:=by
     have h1:(j+k-1) / k<=j+k-1:=Int.ediv_le_self _ (by omega);have h2:0<=(j+k-1) / k:=Int.ediv_nonneg (by omega) (by omega);unfold Builtin.Range.small;rw [hsz];simp only [Builtin.Range.rangeFitsLong,Bool.and_eq_true,Bool.or_eq_true,decide_eq_true_eq,beq_iff_eq];refine ⟨by omega,.inr ?_⟩;rw [if_pos (by omega)];simp only [Bool.and_eq_true,decide_eq_true_eq];omega
    refine call_range_3 (by omega) ?_ (Or.inl (PyProof.noPylong_small (by omega)));generalize hp1:s1.heap.push { cls:=.type "range",data:=.fields #[.int 0 t,.int j t',.int k t''] }=h1
    have hr:IsRange h1 s1.heap.objs.size 0 j k t t' t'':=by rw [<-hp1];exact IsRange.new ..
    have k1':∀b o,s1.heap.get? b=some o->h1.get? b=some o:=fun b o x=>by rw [<-hp1];exact Heap.get?_push_of_some _ x
    have I2:Inv X pins σ H1 { s1 with heap:=h1,toks:=s1.toks }:=I1.kept k1';refine wpAny_pyIter_range hr hsm ?_;refine ⟨h1.objs.size,[h1.objs.size],_,_,H1,rfl,I2.kept (t':=s1.toks) fun b o e=>Heap.get?_push_of_some _ e,zhO _ 0 k ((j+k-1) / k).toNat,?_,fun b hb=>?_,q⟩
    ·rw [hsz];have h2:0<=(j+k-1) / k:=Int.ediv_nonneg (by omega) (by omega)
     have e2:((((j+k-1) / k).toNat:Nat):Int)-((0:Nat):Int)=(j+k-1) / k:=by omega
     have e1:(0:Int)+((0:Nat):Int)*k=0:=by simp
     show IsRangeIter _ _ (0+((0:Nat):Int)*k) ((((j+k-1) / k).toNat:Int)-((0:Nat):Int)) k;rw [e1,e2];exact Heap.get?_push_size _ rfl
    ·have e:b=h1.objs.size:=by simpa using hb
     subst e;exact I2.fpOk (Nat.le_refl _) (I2.hok.fresh (Nat.le_refl _))
end
end L2
namespace S2
open PySem PySem.Spec PyProof.Rows L2
structure ItOk(cl:Cf)(w:Wd)(J:It)(ds:List D):Prop where
 go:∀w',Fut w w'->∀i,i<ds.length->J.go i w'.H
 stop:∀w',Fut w w'->J.stop ds.length w'.H
 yld:∀w',Fut w w'->∀i d x H',ds[i]?=some d->J.yld i w'.H x H'->∃w'',w''.H=H'/\Grow w' w''/\Shd cl w'' x d
abbrev Fi:=Env->Sto->Out (List D)
def tI(cl:Cf)(E:St->XK)(f:Fi):TI:=fun σ H R'=>∃B w ρ S,w.H=H/\Rel cl B σ w ρ S/\match f ρ S with
 | .ok ds S'=>∀J w',Rel cl B σ w' ρ S'->Fut w w'->ItOk cl w' J ds->R' J w'.H
 | .exc c S'=>∀w',Rel cl B σ w' ρ S'->Fut w w'->E σ (.ref (cl c)) none w'.H
 | .bad=>False
theorem PI.imp{X:Cx}{tg it:Expr}{t t':TI}(h:PI X tg it t)(i:∀σ H Q,t' σ H Q->t σ H Q):PI X tg it t':=fun pins s σ H Q I q=>h pins s σ H Q I (i _ _ _ q)
inductive Tg where | one (i:Nat) | tup (is:List Nat)
def zeC:List Nat->List D->Env->Option Env
 | [],[],ρ=>some ρ
 | i::is,d::ds,ρ=>zeC is ds (ρ.set i (some (false,d)))
 | _,_,_=>none
def Tg.put:Tg->Env->D->Option Env
 | .one i,ρ,d=>some (ρ.set i (some (false,d)))
 | .tup is,ρ,.tup ds=>zeC is ds ρ
 | .tup _,_,_=>none
def tG(cl:Cf)(n:Nat)(tg:Tg):TG:=fun v σ H Q=>∃B w ρ S d ρ',w.H=H/\Rel cl B σ w ρ S/\Shd cl w v d/\tg.put ρ d=some ρ'/\∀σ',σ'.length=σ.length->σ'.drop n=σ.drop n->Rel cl B σ' w ρ' S->Q σ' w.H
theorem PG.imp{X:Cx}{tg:Expr}{t t':TG}(h:PG X tg t)(i:∀v σ H Q,t' v σ H Q->t v σ H Q):PG X tg t':=fun pins s σ H v u Q I r q=>h pins s σ H v u Q I r (i _ _ _ _ q)
def zfr(tg:Tg)(body:Fs):List D->Env->Sto->Fo
 | [],ρ,S=>.nx ρ S
 | d::ds,ρ,S=>match tg.put ρ d with
  | none=>.bad
  | some ρ1=>match body ρ1 S with
   | .nx ρ' S'=>zfr tg body ds ρ' S'
   | .ct ρ' S'=>zfr tg body ds ρ' S'
   | .bk ρ' S'=>.nx ρ' S'
   | o=>o
def zeX(tg:Tg)(it:Fi)(body:Fs):Fs:=fun ρ S=>match it ρ S with
 | .ok ds S'=>zfr tg body ds ρ S'
 | .exc c S'=>.ex c ρ S'
 | .bad=>.bad
section
variable{X:Cx}{cl:Cf}{E:St->XK}{own:Bool}{e iter tg:Expr}{body:List Stmt}{fb:Fs}{fi:Fi}{fc:Fe}{t:Tg}{pos:Pos}
theorem zji{α:Type}{n i:Nat}{l:List α}{a:α}(h:i<n):(l.set i a).drop n=l.drop n:=by
 refine List.ext_getElem? fun k=>?_
 rw [List.getElem?_drop,List.getElem?_drop,List.getElem?_set_ne (by omega)]
theorem zrj{n i:Nat}{x:Str}(hin:i<n)(hN:X.N.Nodup)(hi:X.N[i]?=some x)(hx:Loc X.env.scope x)(hf:X.fn x=true\/X.env.scope.names.lookup x=some .local):PG X (.Name x pos) (tG cl n (.one i)):=by
 refine PG.imp (zkV hN hi hx hf) ?_;rintro v σ H Q ⟨B,w,ρ,S,d,ρ',rfl,R,h,hp,q⟩;cases hp;exact q _ (List.length_set ..) (zji hin) (R.put h)
def tGs(cl:Cf)(n:Nat)(is:List Nat):TGs:=fun vs σ H Q=>∃B w ρ S ds ρ',w.H=H/\Rel cl B σ w ρ S/\Shds cl w vs ds/\zeC is ds ρ=some ρ'/\∀σ',σ'.length=σ.length->σ'.drop n=σ.drop n->Rel cl B σ' w ρ' S->Q σ' w.H
theorem zo0{n:Nat}:PGs X [] (tGs cl n []):=by
 intro pins s σ H vs us Q I r h;obtain ⟨B,w,ρ,S,ds,ρ',rfl,R,hs,hp,q⟩:=h
 cases hs with
 | nil =>
  cases hp;exact zpq pins s σ w.H [] us Q I r ⟨rfl,q σ rfl rfl R⟩
 | cons _ _=>cases hp
theorem zmt{n i:Nat}{is:List Nat}{x:Str}{es:List Expr}(hin:i<n)(hN:X.N.Nodup)(hi:X.N[i]?=some x)(hx:Loc X.env.scope x)(hf:X.fn x=true\/X.env.scope.names.lookup x=some .local)(h2:PGs X es (tGs cl n is)):PGs X (.Name x pos::es) (tGs cl n (i::is)):=by
 intro pins s σ H vs us Q I r h;obtain ⟨B,w,ρ,S,ds,ρ',rfl,R,hs,hp,q⟩:=h;refine zmO (zkV hN hi hx hf) h2 rfl pins s σ w.H vs us Q I r ?_
 cases hs with
 | nil=>cases hp
 | cons h t =>
  rename_i v d vs ds;exact ⟨v,vs,rfl,B,w,_,S,ds,ρ',rfl,R.put h,t,hp,fun σ' e1 e2=>q σ' (e1.trans (List.length_set ..)) (e2.trans (zji hin))⟩
theorem zri{es:List Expr}{n k:Nat}{is:List Nat}(hc:X.calm=true)(h:PGs X es (tGs cl n is))(hn:(assignEach es X.env).length=is.length)(hst:(assignEach es X.env).findIdx? (·.1)=none):PG X (.Tuple es k pos) (tG cl n (.tup is)):=by
 refine PG.imp (zrL hc h hn hst) ?_;rintro v σ H Q ⟨B,w,ρ,S,d,ρ',rfl,R,h,hp,q⟩
 cases h with
 | tup e k r =>
  have hl:∀(is:List Nat) (ds:List D) (ρ ρ':Env),zeC is ds ρ=some ρ'->ds.length=is.length:=by
   intro is
   induction is with
   | nil=>intro ds ρ ρ' h;cases ds with
    | nil=>rfl
    | cons _ _=>cases h
   | cons i is ih=>intro ds ρ ρ' h;cases ds with
    | nil=>cases h
    | cons d ds=>rw [List.length_cons,List.length_cons,ih ds _ _ h]
  rename_i a xs ds;refine ⟨a,xs,rfl,SqT.of e,by rw [r.length];exact hl is ds ρ ρ' hp,B,w,ρ,S,ds,ρ',rfl,R,r,hp,q⟩
 | _=>cases hp
theorem zq8{n:Nat}(hp:PassesOwn (model X.prog X.w) X.A X.env X.xe)(hc:X.calm=true)(hi:PI X tg iter (tI cl E fi))(hg:PG X tg (tG cl n t))(hb:PSs X body (tS cl E own fb))(hs:∀x,foldedSetIterable iter X.env x=pure x):PS X (.For tg iter body [] pos) (tS cl E own (zeX t fi fb)):=by
 refine PS.imp (zrH hp hc hi hg hb hs) ?_;rintro De σ H ⟨B,w,ρ,S,rfl,R,q⟩;refine ⟨B,w,ρ,S,rfl,R,?_⟩;unfold zeX at q
 cases hf:fi ρ S with
 | bad=>rw [hf] at q;exact q
 | exc c S1=>rw [hf] at q;exact fun w' R' F'=>q σ w' R' F'
 | ok ds S1 =>
  rw [hf] at q;intro J w0 R0 F0 hJ;dsimp only at q;refine ⟨fun i m σ' H'=>m=ds.length-i/\i<=ds.length/\∃w1 ρ1 S2,w1.H=H'/\Fut w0 w1/\Rel cl B σ' w1 ρ1 S2/\zjt cl E own B w1 De (zfr t fb (ds.drop i) ρ1 S2),⟨ds.length,by simp,Nat.zero_le _,w0,ρ,S1,rfl,Fut.refl _,R0,by rw [List.drop_zero];exact zjt.up F0 q⟩,?_⟩;rintro i m σ1 H1 ⟨rfl,hi,w1,ρ1,S2,rfl,F1,R1,q1⟩
  by_cases hlt:i<ds.length
  ·obtain ⟨d,hd⟩:∃d,ds[i]?=some d:=⟨ds[i],List.getElem?_eq_getElem hlt⟩
   have hdr:ds.drop i=d::ds.drop (i+1):=by
    rw [List.drop_eq_getElem_cons hlt];rw [List.getElem?_eq_getElem hlt] at hd;cases hd;rfl
   rw [hdr] at q1;unfold zfr at q1
   cases hp1:t.put ρ1 d with
   | none=>rw [hp1] at q1;exact q1.elim
   | some ρ2 =>
    rw [hp1] at q1;dsimp only at q1;refine .inr ⟨hJ.go w1 F1 i hlt,fun σ' H'=>i+1<=ds.length/\∃w1 ρ1 S2,w1.H=H'/\Fut w0 w1/\Rel cl B σ' w1 ρ1 S2/\zjt cl E own B w1 De (zfr t fb (ds.drop (i+1)) ρ1 S2),fun σ' H' h'=>⟨ds.length-(i+1),by omega,rfl,h'.1,h'.2⟩,fun x H' y=>?_⟩;obtain ⟨w2,rfl,g2,s2⟩:=hJ.yld w1 F1 i d x H' hd y;refine ⟨B,w2,ρ1,S2,d,ρ2,rfl,R1.grow g2,s2,hp1,fun σ2 _ _ R2=>⟨B,w2,ρ2,S2,rfl,R2,?_⟩⟩;have q2:=zjt.up g2.fut q1
    cases hb:fb ρ2 S2 with
    | bad=>rw [hb] at q2;exact q2
    | rt d S3=>rw [hb] at q2;exact q2
    | ex c ρ3 S3=>rw [hb] at q2;exact q2
    | bk ρ3 S3=>rw [hb] at q2;exact fun σ3 w3 R3 F3=>q2 σ3 w3 R3 F3
    | nx ρ3 S3=>rw [hb] at q2;exact fun σ3 w3 R3 F3=>⟨hlt,w3,ρ3,S3,rfl,F1.trans (g2.fut.trans F3),R3,zjt.up F3 q2⟩
    | ct ρ3 S3=>rw [hb] at q2;exact fun σ3 w3 R3 F3=>⟨hlt,w3,ρ3,S3,rfl,F1.trans (g2.fut.trans F3),R3,zjt.up F3 q2⟩
  ·have e:i=ds.length:=by omega
   subst e;rw [List.drop_length] at q1;exact .inl ⟨hJ.stop w1 F1,q1 σ1 w1 R1 (Fut.refl _)⟩
def zjh(f:Fe):Fi:=fun ρ S=>(f ρ S).bind fun d S1=>match d with | .lst l=>.ok l S1 | _=>.bad
def zim(f:Fe):Fi:=fun ρ S=>(f ρ S).bind fun d S1=>match d with | .tup l=>.ok l S1 | _=>.bad
theorem zky(he:PE X e (tE cl E fc)):PI X tg e (tI cl E (zjh fc)):=by
 refine PI.imp (zpp he) ?_;rintro σ H Q ⟨B,w,ρ,S,rfl,R,q⟩;refine ⟨B,w,ρ,S,rfl,R,?_⟩;unfold zjh at q
 cases hf:fc ρ S with
 | bad=>rw [hf] at q;exact q
 | exc c S1=>rw [hf] at q;exact q
 | ok d S1 =>
  rw [hf] at q;intro v w' R' F' h';dsimp only [Out.bind] at q
  cases h' with
  | lst e k r =>
   rename_i a xs ds;refine ⟨a,rfl,⟨xs,SqL.of e⟩,q _ w' R' F' ?_⟩;have hl:=r.length;refine ⟨fun w1 F1 i hi=>⟨xs,xs[i]'(by omega),SqL.of (F1.keep _ _ e k).1,List.getElem?_eq_getElem (by omega)⟩,fun w1 F1=>⟨xs,SqL.of (F1.keep _ _ e k).1,by omega⟩,fun w1 F1 i d x H1 hd y=>?_⟩;obtain ⟨rfl,hy⟩:=y;have hx:=hy xs (SqL.of (F1.keep _ _ e k).1);obtain ⟨d',e1,e2⟩:=r.get hx;rw [hd] at e1;cases e1;exact ⟨w1,rfl,Grow.refl _,e2.up F1⟩
  | _=>exact q.elim
theorem zrg(he:PE X e (tE cl E fc)):PI X tg e (tI cl E (zim fc)):=by
 refine PI.imp (zrK he) ?_;rintro σ H Q ⟨B,w,ρ,S,rfl,R,q⟩;refine ⟨B,w,ρ,S,rfl,R,?_⟩;unfold zim at q
 cases hf:fc ρ S with
 | bad=>rw [hf] at q;exact q
 | exc c S1=>rw [hf] at q;exact q
 | ok d S1 =>
  rw [hf] at q;intro v w' R' F' h';dsimp only [Out.bind] at q
  cases h' with
  | tup e k r =>
   rename_i a xs ds;refine ⟨a,rfl,⟨xs,SqT.of e⟩,q _ w' R' F' ?_⟩;have hl:=r.length;refine ⟨fun w1 F1 i hi=>⟨xs,xs[i]'(by omega),SqT.of (F1.keep _ _ e k).1,List.getElem?_eq_getElem (by omega)⟩,fun w1 F1=>⟨xs,SqT.of (F1.keep _ _ e k).1,by omega⟩,fun w1 F1 i d x H1 hd y=>?_⟩;obtain ⟨rfl,hy⟩:=y;have hx:=hy xs (SqT.of (F1.keep _ _ e k).1);obtain ⟨d',e1,e2⟩:=r.get hx;rw [hd] at e1;cases e1;exact ⟨w1,rfl,Grow.refl _,e2.up F1⟩
  | _=>exact q.elim
def zas(lo hi:Int):List D:=(List.range (hi-lo).toNat).map fun (i:Nat)=>.int (lo+i)
def zc7(f:Fe):Fi:=fun ρ S=>(zan [f] ρ S).bind fun ds S1=>match ds with | [.int j]=>if -1000000<=j/\j<=1000000 then .ok (zas 0 j) S1 else .bad | _=>.bad
def zlP(f g:Fe):Fi:=fun ρ S=>(zan [f,g] ρ S).bind fun ds S1=>match ds with | [.int i,.int j]=>if (-1000000<=i/\i<=1000000)/\-1000000<=j/\j<=1000000 then .ok (zas i j) S1 else .bad | _=>.bad
theorem zok{w:Wd}{lo hi:Int}{n:Nat}(hn:n=(hi-lo).toNat):ItOk cl w (Itr lo n) (zas lo hi):=by
 subst hn
 have hl:(zas lo hi).length=(hi-lo).toNat:=by unfold zas;rw [List.length_map,List.length_range]
 refine ⟨fun w1 F1 i h=>by rw [hl] at h;exact h,fun w1 F1=>by rw [hl];exact Nat.le_refl _,fun w1 F1 i d x H1 hd y=>?_⟩;obtain ⟨rfl,rfl⟩:=y;unfold zas at hd;rw [List.getElem?_map] at hd
 cases hr:(List.range (hi-lo).toNat)[i]? with
 | none=>rw [hr] at hd;cases hd
 | some j =>
  rw [hr] at hd;have:=(List.getElem?_eq_some_iff.mp hr).2;rw [List.getElem_range] at this;subst this;cases hd;exact ⟨w1,rfl,Grow.refl _,.int _⟩
theorem zoY{p:Pos}(hg:Gl X "range")(hm:X.mg "range" = none)(ha:PA X [e] (tAs cl E [fc]))(hs:starEach [e] X.env=[(false,eval e X.env)]):PI X tg (.Call (.Name "range" p) [e] [] pos) (tI cl E (zc7 fc)):=by
 refine PI.imp (zkU hg hm ha hs) ?_;rintro σ H Q ⟨B,w,ρ,S,rfl,R,q⟩;refine ⟨B,w,ρ,S,rfl,R,?_⟩;unfold zc7 at q
 cases hf:zan [fc] ρ S with
 | bad=>rw [hf] at q;exact q
 | exc c S1=>rw [hf] at q;exact q
 | ok ds S1 =>
  rw [hf] at q;intro vs w' R' F' h';dsimp only [Out.bind] at q;split at q
  ·rename_i ds' S' hm';split at hm'
   ·rename_i j;split at hm'
    ·rename_i hb;cases hm'
     cases h' with
     | cons h1 h2 =>
      cases h1;cases h2;exact ⟨j,rfl,by omega,by omega,q _ w' R' F' (zok (by omega))⟩
    ·cases hm'
   ·cases hm'
  ·rename_i hm';split at hm'<;>first | (split at hm'<;>cases hm') | cases hm'
  ·exact q.elim
theorem zoX{a:Expr}{fa:Fe}{p:Pos}(hg:Gl X "range")(hm:X.mg "range" = none)(ha:PA X [a,e] (tAs cl E [fa,fc]))(hs:starEach [a,e] X.env=[(false,eval a X.env),(false,eval e X.env)])(hs2:starEach [e] X.env=[(false,eval e X.env)]):PI X tg (.Call (.Name "range" p) [a,e] [] pos) (tI cl E (zlP fa fc)):=by
 refine PI.imp (zkT hg hm ha hs hs2) ?_;rintro σ H Q ⟨B,w,ρ,S,rfl,R,q⟩;refine ⟨B,w,ρ,S,rfl,R,?_⟩;unfold zlP at q
 cases hf:zan [fa,fc] ρ S with
 | bad=>rw [hf] at q;exact q
 | exc c S1=>rw [hf] at q;exact q
 | ok ds S1 =>
  rw [hf] at q;intro vs w' R' F' h';dsimp only [Out.bind] at q;split at q
  ·rename_i ds' S' hm';split at hm'
   ·rename_i i j;split at hm'
    ·rename_i hb;cases hm'
     cases h' with
     | cons h1 h2 =>
      cases h1
      cases h2 with
      | cons h2 h3 =>
       cases h2;cases h3;exact ⟨i,j,rfl,by omega,q _ w' R' F' (zok rfl)⟩
    ·cases hm'
   ·cases hm'
  ·rename_i hm';split at hm'<;>first | (split at hm'<;>cases hm') | cases hm'
  ·exact q.elim
end
end S2
namespace S2
open PySem PySem.Spec PyProof.Rows L2
def zsY(ρ:Env)(i:Nat):Option (Bool×D):=match ρ[i]? with | some (some (false,d))=>some (false,d) | _=>none
def zaF(n:Nat)(caps:List Nat)(ρ:Env):Env:=List.replicate n none++caps.map (zsY ρ)
def zfI:Fe:=zah (.bl true)
def zbh(tg:Tg)(c elt:Fe)(ρ0:Env):List D->Sto->Out (List D)
 | [],S=>.ok [] S
 | d::ds,S=>match tg.put ρ0 d with
  | none=>.bad
  | some ρ1=>(c ρ1 S).bind fun b S1=>match isB b with
   | some true=>(elt ρ1 S1).bind fun y S2=>(zbh tg c elt ρ0 ds S2).bind fun ys S3=>.ok (y::ys) S3
   | some false=>zbh tg c elt ρ0 ds S1
   | none=>.bad
def zcZ(n:Nat)(tg:Tg)(it:Fi)(c elt:Fe)(caps:List Nat):Fe:=fun ρ S=>(it ρ S).bind fun ds S1=>match zbh tg c elt (zaF n caps ρ) ds S1 with
 | .ok ys S2=>if small ys.length then .ok (.lst ys) S2 else .bad
 | _=>.bad
abbrev noE:St->XK:=fun _ _ _ _=>False
section
variable{cl:Cf}
theorem zht{B:Base}{σ:St}{w w1:Wd}{ρ:Env}{S S1:Sto}{n:Nat}{caps:List (Str×Nat)}(R:Rel cl B σ w ρ S){B1:Base}(W1:World' cl B1 w1 S1)(F1:Fut w w1){σ':St}(hσ:σ'.length=n+caps.length)(hc:σ'.drop n=caps.map fun p=>(σ[p.2]?).join) :
  Rel cl B1 σ' w1 (zaF n (caps.map (·.2)) ρ) S1 where
 wd:=W1
 len:=by unfold zaF;rw [hσ,List.length_append,List.length_replicate,List.length_map,List.length_map]
 slots:=fun i o d h=>by
  unfold zaF at h
  by_cases hi:i<n
  ·rw [List.getElem?_append_left (by rw [List.length_replicate];exact hi),List.getElem?_replicate] at h
   split at h<;>cases h
  ·rw [List.getElem?_append_right (by rw [List.length_replicate];omega),List.length_replicate,List.map_map,List.getElem?_map] at h
   cases hp:caps[i-n]? with
   | none=>rw [hp] at h;cases h
   | some p =>
    rw [hp] at h;have h':zsY ρ p.2=some (o,d):=Option.some.inj h;unfold zsY at h';split at h'
    ·rename_i d' hd;cases h';obtain ⟨v,e,x⟩:=R.slots p.2 false d hd;refine ⟨v,?_,Shd.up F1 x⟩;have:=congrArg (fun l=>l[i-n]?) hc;rw [List.getElem?_drop,List.getElem?_map,hp] at this;rw [show n+(i-n)=i by omega] at this;rw [this];show some ((σ[p.2]?).join)=_;rw [e];rfl
    ·cases h'
end
section
variable{X:Cx}{cl:Cf}{E:St->XK}
theorem zot{fi:Fi}{t:Tg}{fc fe:Fe}{n:Nat}{caps:List (Str×Nat)}{σ:St}{H:Hp}{Q:VK}(q:tN cl E (zcZ n t fi fc fe (caps.map (·.2))) σ H Q) :
  zgY (tI cl E fi) (tG cl n t) (tTr cl noE fc) (tE cl noE fe) n caps σ H Q:=by
 obtain ⟨B,w,ρ,S,rfl,R,q⟩:=q;refine ⟨B,w,ρ,S,rfl,R,?_⟩;unfold zcZ at q
 cases hf:fi ρ S with
 | bad=>rw [hf] at q;exact q
 | exc c S1=>rw [hf] at q;exact q
 | ok ds S1 =>
  rw [hf] at q;dsimp only [Out.bind] at q;intro J w0 R0 F0 hJ
  cases hcd:zbh t fc fe (zaF n (caps.map (·.2)) ρ) ds S1 with
  | bad=>rw [hcd] at q;exact q.elim
  | exc _ _=>rw [hcd] at q;exact q.elim
  | ok all Sf =>
   rw [hcd] at q;dsimp only at q
   cases hz:small all.length with
   | false=>rw [hz,if_neg (by decide)] at q;exact q.elim
   | true =>
    rw [hz,if_pos rfl] at q;dsimp only at q;refine ⟨fun i m ys σ' H'=>m=ds.length-i/\i<=ds.length/\σ'.length=n+caps.length/\σ'.drop n=(caps.map fun p=>(σ[p.2]?).join)/\∃w1 S2 es zbS,w1.H=H'/\Fut w0.inn w1/\World' cl w0.base w1 S2/\Shds cl w1 ys es/\zbh t fc fe (zaF n (caps.map (·.2)) ρ) (ds.drop i) S2=.ok zbS Sf/\es++zbS=all,⟨ds.length,by simp,Nat.zero_le _,by simp [capσ],by simp [capσ],w0.inn,S1,[],all,rfl,Fut.refl _,R0.wd.enter,.nil,by rw [List.drop_zero];exact hcd,rfl⟩,?_⟩;rintro i m ys σ1 H1 ⟨rfl,hi,hl1,hd1,w1,S2,es,zbS,rfl,F1,W1,sh,hrest,hall⟩;refine ⟨?_,?_⟩
    ·rw [sh.length];refine Nat.le_trans ?_ (za7 hz);rw [<-hall,List.length_append];omega
    have F1':Fut w0 w1:=(zb9 w0).trans F1
    by_cases hlt:i<ds.length
    ·obtain ⟨d,hdi⟩:∃d,ds[i]?=some d:=⟨ds[i],List.getElem?_eq_getElem hlt⟩
     have hdr:ds.drop i=d::ds.drop (i+1):=by
      rw [List.drop_eq_getElem_cons hlt];rw [List.getElem?_eq_getElem hlt] at hdi;cases hdi;rfl
     rw [hdr] at hrest;unfold zbh at hrest;refine .inr ⟨hJ.go w1 F1' i hlt,fun x H' y=>?_⟩;obtain ⟨w2,rfl,g2,s2⟩:=hJ.yld w1 F1' i d x H' hdi y;have R1:Rel cl w0.base σ1 w2 (zaF n (caps.map (·.2)) ρ) S2:=zht R0 (W1.grow g2) (F1'.trans g2.fut) hl1 hd1
     cases hp:t.put (zaF n (caps.map (·.2)) ρ) d with
     | none=>rw [hp] at hrest;cases hrest
     | some ρ1 =>
      rw [hp] at hrest;dsimp only at hrest;refine ⟨w0.base,w2,_,S2,d,ρ1,rfl,R1,s2,hp,fun σ2 hk1 hk2 R2=>⟨w0.base,w2,ρ1,S2,rfl,R2,?_⟩⟩
      cases hc:fc ρ1 S2 with
      | bad=>rw [hc] at hrest;cases hrest
      | exc _ _=>rw [hc] at hrest;cases hrest
      | ok b S3 =>
       rw [hc] at hrest;dsimp only [Out.bind] at hrest ⊢
       cases hb:isB b with
       | none=>rw [hb] at hrest;cases hrest
       | some bb =>
        rw [hb] at hrest;intro w3 R3 F3
        cases bb with
        | false=>exact znj ⟨ds.length-(i+1),by omega,rfl,hlt,hk1.trans hl1,hk2.trans hd1,w3,S3,es,zbS,rfl,F1.trans (g2.fut.trans F3),R3.wd,sh.up (g2.fut.trans F3),hrest,hall⟩
        | true =>
         refine zni ⟨w0.base,w3,ρ1,S3,rfl,R3,?_⟩;dsimp only at hrest
         cases he:fe ρ1 S3 with
         | bad=>rw [he] at hrest;cases hrest
         | exc _ _=>rw [he] at hrest;cases hrest
         | ok yv S4 =>
          rw [he] at hrest;dsimp only at hrest
          cases hr:zbh t fc fe (zaF n (caps.map (·.2)) ρ) (ds.drop (i+1)) S4 with
          | bad=>rw [hr] at hrest;cases hrest
          | exc _ _=>rw [hr] at hrest;cases hrest
          | ok zs S5 =>
           rw [hr] at hrest;cases hrest;intro v w4 R4 F4 h4;have ff:=g2.fut.trans (F3.trans F4);exact ⟨ds.length-(i+1),by omega,rfl,hlt,hk1.trans hl1,hk2.trans hd1,w4,S4,es++[yv],zs,rfl,F1.trans ff,R4.wd,(sh.up ff).append (.cons h4 .nil),hr,by rw [<-hall,List.append_assoc];rfl⟩
    ·have e:i=ds.length:=by omega
     subst e;rw [List.drop_length] at hrest;cases hrest;rw [List.append_nil] at hall;subst hall;refine .inl ⟨hJ.stop w1 F1',fun p hp=>?_⟩;obtain ⟨Rb,Fb⟩:=R0.leave W1 F1;exact q p (.lst ys) (w0.back w1) Rb (F0.trans Fb) hp (.lst (sh.up (zcO W1)))
end
end S2
namespace L2
open PySem PySem.Spec PyProof.Rows
section
variable{X:Cx}
end
end L2
namespace L2
open PySem PySem.Spec PyProof.Rows
def CXE(P:Program)(w:World):CXT:=fun outer H s E e s'=>∃(a:Addr) (cls a0:Value) (H':Hp) (B:Heap),e=.ref a/\Heap.FlyingW B outer a cls a0 s'.heap ∧
 (∀b o,s'.heap.get? b=some o->H' b≠none->B.get? b=some o)/\(∀b o,s.heap.get? b=some o->H b=none->b ∉ frs outer->B.get? b=some o) ∧
 (∀b o,s.heap.get? b=some o->b ∉ frs outer->∃o',B.get? b=some o') ∧
 s'.os=s.os/\AllBare s'.gens/\Un (frs outer) [] H H' s.heap s'.heap/\HOk P w H' s'.heap/\E cls none H'
theorem zbQ.has{P:Program}{w:World}{H:Hp}{h:Heap}{a:Addr}{o:HO}(x:zbQ P w H h a o):∃ob,h.get? a=some ob:=by
 cases o with
 | lst xs=>obtain ⟨_,_,_,_,e⟩:=x;exact ⟨_,e⟩
 | tup xs=>obtain ⟨_,_,_,ob,e,_⟩:=x;exact ⟨_,e⟩
 | dK kvs=>obtain ⟨_,_,_,_,o,_,_,e,_⟩:=x;exact ⟨_,e⟩
 | dT kvs=>obtain ⟨_,_,_,_,o,_,_,e,_⟩:=x;exact ⟨_,e⟩
 | set S n=>obtain ⟨o,_,_,_,e,_⟩:=x;exact ⟨_,e⟩
 | ins C dx fs=>obtain ⟨_,_,_,e,_⟩:=x;exact ⟨_,e⟩
 | own y=>exact x
 | xd fs=>obtain ⟨_,⟨_,_,_,e,_⟩,_⟩:=x;exact ⟨_,e⟩
 | rng lo hi=>obtain ⟨_,_,_,e⟩:=x;exact ⟨_,e⟩
 | frz ob u=>obtain ⟨e,_⟩:=x;exact ⟨_,e⟩
 | tbl ps=>exact ⟨_,(show h.get? a=some _ from x)⟩
 | met f y=>exact ⟨_,(show h.get? a=some _ from x)⟩
 | ext φ=>obtain ⟨_,e,_⟩:=x;exact e
theorem HOk.same{P:Program}{w:World}{H:Hp}{h h':Heap}(x:HOk P w H h)(k:∀b u,h.get? b=some u->H b≠none->h'.get? b=some u):HOk P w H h':=fun a o e =>
 (x a o e).stay (fun b u hb q=>k b u q (hb.elim (fun z=>by rw [z,e];exact Option.some_ne_none _) (fun z=>by rw [z];exact Option.some_ne_none _))) (fun _ q=>q) fun _ _ q=>q
section
variable{X:Cx}{pins:Z3}{σ:St}{H:Hp}{s:Shared}{M:Model}
theorem znq(l:List Env):∀env∈l,∀b,env.frame=some b->b∈frs l:=fun env he b hb=>List.mem_filterMap.mpr ⟨env,he,hb⟩
theorem zjQ{h':Heap}{e:Addr}{cls:Value}{vs:List Value}{E:XK}{Er:Z5}(I:Inv X pins σ H s)(hx:X.ex=[])(hs:X.stack=X.env::X.outer)(hf:X.env.frame=some X.env.locals)(mk:Heap.MadeExcOf s.heap h' e cls vs)(q:E cls none H) :
  wpAny M X.A (leaving X.env (.ref e)) (fun _ s''=>CXE X.prog X.w X.outer X.H₀ X.s₀ E (.ref e) s'') Er { s with heap:=h' }:=by
 have hfr:X.A.frames=some (X.env::X.outer):=by rw [<-hs];exact I.ok.frames
 have hst:s.heap.FunFrames X.base (X.env::X.outer):=by rw [<-hs];exact I.stack
 refine wpAny_leaves_madeW (base:=PySem.W.hideAll s.heap (frs (X.env::X.outer))) hfr hf (fun b o z=>PySem.W.of_hideAll _ z) (PySem.W.funFrames_hide hst (znq _)) mk fun h2 t fl tup _ up=>?_
 have inB:∀b o,s.heap.get? b=some o->b ∉ frs (X.env::X.outer)->(PySem.W.hideAll s.heap (frs (X.env::X.outer))).get? b=some o:=fun b o z n=>PySem.W.hideAll_get _ z n
 have sub:∀b,b∈frs (X.env::X.outer)->b=X.env.locals\/b∈X.fs:=fun b hb=>by
  rw [<-hs] at hb;exact List.mem_cons.mp (I.stkSub b hb)
 have fre:∀b,b∈frs (X.env::X.outer)->H b=none:=fun b hb=>by rw [<-hs] at hb;exact I.stkFree b hb
 have old:∀b o,X.s₀.heap.get? b=some o->b ∉ frs X.outer->b ∉ frs (X.env::X.outer):=fun b o z n hb=>by
  rcases sub b hb with r | r
  ·exact absurd (Nat.lt_of_lt_of_le (Heap.lt_size z) I.ok.above) (by rw [r];exact Nat.lt_irrefl _)
  ·exact n r
 have nx:∀b:Addr,b ∉ X.ex:=fun b z=>by rw [hx] at z;cases z
 have trk:∀b o,s.heap.get? b=some o->H b≠none->h2.get? b=some o:=fun b o z n=>fl.1 b o (inB b o z fun hb=>n (fre b hb))
 have hok2:HOk X.prog X.w H h2:=I.hok.same trk
 have slt:∀b o,s.heap.get? b=some o->b∈frs X.stack->∃sl,h2.get? b=some { o with slots:=sl }:=fun b o z hb=>by
  obtain ⟨_,o',z',hd⟩:=I.stack.mem hb;rw [z] at z';cases z';exact up b o (mk.keeps b o z) hd
 have un2:Un (frs X.stack) [] H H s.heap h2:=⟨fun b o z n hb _=>fl.1 b o (inB b o z (by rw [<-hs];exact hb)),fun b o z n hb _=>slt b o z hb,fun b o z n _=>n,
  fun b o z _=>by
   by_cases hb:b∈frs X.stack
   ·obtain ⟨sl,r⟩:=slt b o z hb;exact ⟨_,r⟩
   ·exact ⟨o,fl.1 b o (inB b o z (by rw [<-hs];exact hb))⟩,
  fun _ _ z=>z,fun _ _ _ z=>z,fun _ ps z=>⟨#[],by rw [z,Array.append_empty]⟩⟩
 have J:=I.call (g':=s.gens) (t':=s.toks) (d':=s.drawn) (ch:=[]) un2 hok2 I.bare (fun b z=>absurd z (by simp));refine ⟨e,cls,.ref t,H,_,rfl,fl,fun b o z n=>?_,fun b o z n hb=>?_,fun b o z hb=>?_,J.os,J.bare,?_,J.hok,q⟩
 ·cases k:H b with
  | none=>exact absurd k n
  | some u =>
   obtain ⟨o',z'⟩:=(I.hok b u k).has;have:=trk b o' z' n;rw [show h2.get? b=some o from z] at this;cases this;exact inB b o z' fun hb=>n (fre b hb)
 ·exact inB b o (I.base.keep b o z n hb (nx b)) (old b o z hb)
 ·obtain ⟨o',z'⟩:=I.base.there b o z (nx b);exact ⟨o',inB b o' z' (old b o z hb)⟩
 ·have:=J.base;rw [hx] at this;exact this
theorem zm8{e:Value}{s':Shared}{E:XK}{Er:Z5}(I:Inv X pins σ H s)(hx:X.ex=[])(hs:X.stack=X.env::X.outer)(hf:X.env.frame=some X.env.locals)(q:CXE X.prog X.w X.stack H s E e s') :
  wpAny M X.A (leaving X.env e) (fun _ s''=>CXE X.prog X.w X.outer X.H₀ X.s₀ E e s'') Er s':=by
 have hfr:X.A.frames=some (X.env::X.outer):=by rw [<-hs];exact I.ok.frames
 obtain ⟨a,cls,a0,H',B,rfl,fl,c1,c2,c3,os,bare,un,hok,q⟩:=q
 have fl':Heap.FlyingW B (X.env::X.outer) a cls a0 s'.heap:=by rw [<-hs];exact fl
 refine wpAny_leaves_onW hfr hf fl' fun h2 fl2 up=>?_
 have sub:∀b,b∈frs X.stack->b=X.env.locals\/b∈X.fs:=fun b hb=>List.mem_cons.mp (I.stkSub b hb)
 have old:∀b o,X.s₀.heap.get? b=some o->b ∉ frs X.outer->b ∉ frs X.stack:=fun b o z n hb=>by
  rcases sub b hb with r | r
  ·exact absurd (Nat.lt_of_lt_of_le (Heap.lt_size z) I.ok.above) (by rw [r];exact Nat.lt_irrefl _)
  ·exact n r
 have nx:∀b:Addr,b ∉ X.ex:=fun b z=>by rw [hx] at z;cases z
 have trk:∀b o,s'.heap.get? b=some o->H' b≠none->h2.get? b=some o:=fun b o z n=>fl2.1 b o (c1 b o z n)
 have hok2:HOk X.prog X.w H' h2:=hok.same trk
 have slt:∀b o,s.heap.get? b=some o->H b=none->b∈frs X.stack->∃sl,h2.get? b=some { o with slots:=sl }:=fun b o z n hb=>by
  obtain ⟨_,o',z',hd⟩:=I.stack.mem hb;rw [z] at z';cases z';obtain ⟨sl,r⟩:=un.slot b o z n hb (by simp);obtain ⟨sl',r'⟩:=up b ({ o with slots:=sl }:Obj) r hd;exact ⟨sl',r'⟩
 have un2:Un (frs X.stack) [] H H' s.heap h2:=⟨fun b o z n hb _=>fl2.1 b o (c2 b o z n hb),fun b o z n hb _=>slt b o z n hb,un.free,
  fun b o z _=>by
   by_cases hb:b∈frs X.stack
   ·obtain ⟨sl,r⟩:=slt b o z (I.stkFree b hb) hb;exact ⟨_,r⟩
   ·obtain ⟨o',r⟩:=c3 b o z hb
    exact ⟨o',fl2.1 b o' r⟩,
  un.tups,un.frzs,un.tbls⟩
 have J:=I.call (g':=s'.gens) (t':=s'.toks) (d':=s'.drawn) (ch:=[]) un2 hok2 bare (fun b z=>absurd z (by simp));refine ⟨a,cls,a0,H',B,rfl,fl2,fun b o z n=>?_,fun b o z n hb=>?_,fun b o z hb=>?_,os.trans I.os,bare,?_,J.hok,q⟩
 ·cases k:H' b with
  | none=>exact absurd k n
  | some u =>
   obtain ⟨o',z'⟩:=(hok b u k).has;have:=trk b o' z' n;rw [show h2.get? b=some o from z] at this;cases this;exact c1 b o z' n
 ·exact c2 b o (I.base.keep b o z n hb (nx b)) (I.base.free b o z n (nx b)) (old b o z hb)
 ·obtain ⟨o',z'⟩:=I.base.there b o z (nx b);exact c3 b o' z' (old b o z hb)
 ·have:=J.base;rw [hx] at this;exact this
end
theorem zrV{P:Program}{w:World}{K:PySem.W.Frag}{mg:Z6}{base:Heap}{N:List Str}{qual:Str}{scope:Scope}{f:Addr}{cd:Value}{A:Around}{outer:List Env}{s:Shared}{H:Hp}{E:XK} :
  ztb (CXE P w) (zlR (CXE P w) P w K mg base N qual scope f cd A outer s H E) E:=fun pins σ H1 s1 e s' I q =>
 zm8 (X:=zlR (CXE P w) P w K mg base N qual scope f cd A outer s H E) I rfl rfl rfl q
theorem zik{K:PySem.W.Frag}{h:Heap}{C:Addr}{bmB:List Value}{nid:String}(k:K.In h)(z:PySem.W.excIn K C bmB nid=true) :
  ∃bm N nm qn bs hd sn sub ab col dd c0 c1 c2 c3 c5 mN,h.get? C=some (excClassObj nm qn C N bs bm hd sn sub ab col dd c0 c1 c2 c3 c5 nid)/\h.Ns N mN/\mN "__init__" = none/\OwnTail h bmB bm:=by
 unfold PySem.W.excIn at z;split at z
 case h_2=>cases z
 case h_1 dd cd sl ho =>
  split at z
  case h_2=>cases z
  case h_1 D bm c0 c1 c2 c3 n c5 e1 e2 =>
   simp only [Bool.and_eq_true,beq_iff_eq,Bool.not_eq_true'] at z;obtain ⟨⟨⟨⟨⟨z1,z2⟩,z3⟩,z4⟩,z5⟩,z6⟩:=z;subst z1 z2
   have hsl:sl=#[c0,c1,c2,c3,some (.builtin n),c5]:=by
    cases sl with
    | mk l=>exact congrArg Array.mk e2
   have hcd:cd={ cd with mro:=.ref D::bm,hasDel:=false }:=by
    cases cd;simp only at e1 z3;simp only [e1,z3]
   rw [hsl,hcd] at ho;exact ⟨bm,cd.ns,cd.name,_,cd.bases,_,_,_,_,_,dd,c0,c1,c2,c3,c5,_,k _ _ ho,.of_isNs (PySem.W.isNs_of_in k z5),PySem.W.nsMap_none_of_in k z5 z6,PySem.W.tail_of_in k z4⟩
def zta(X:Cx)(E:XK):Prop:=∀(C:Addr) (pins:Z3) (σ:St) (H:Hp) (s:Shared) (e:Addr) (h':Heap) (vs:List Value),Inv X pins σ H s->Heap.MadeExcOf s.heap h' e (.ref C) vs->E (.ref C) none H->X.xe (.ref e) { s with heap:=h' }
theorem zkK{P:Program}{w:World}{K:PySem.W.Frag}{mg:Z6}{base:Heap}{N:List Str}{qual:Str}{scope:Scope}{f:Addr}{cd:Value}{A:Around}{outer:List Env}{s:Shared}{H:Hp}{E:XK} :
  zta (zlR (CXE P w) P w K mg base N qual scope f cd A outer s H E) E:=fun C pins σ H1 s1 e h' vs I mk q =>
 zjQ (X:=zlR (CXE P w) P w K mg base N qual scope f cd A outer s H E) I rfl rfl rfl mk q
end L2
namespace L2
open PySem PySem.Spec PyProof.Rows
def XP(X:Cx)(pins:Z3)(σ:St)(E:XK)(e:Value)(s':Shared):Prop:=∃H1 s1,Inv X pins σ H1 s1/\CXE X.prog X.w X.stack H1 s1 E e s'
section
variable{X:Cx}{k:Nat}{f C:Addr}{fd:FuncData}{ps:List Str}{sp:Sp}{dvs:List V}{ds:List Value}{x m:Str}{p pos apos:Pos}{e o:Expr}{es:List Expr}{ta:TE}{t:TA}
end
theorem zgA{M:Model}{A:Around}{E:Z5}{K:PySem.W.Frag}{s:Shared}{C D e:Addr}{oe:Obj}{bC bD:List Value}{iC iD:String}{Q:Bool->Shared->Prop}(k:K.In s.heap)(zC:PySem.W.excIn K C bC iC=true)(zD:PySem.W.excIn K D bD iD=true)
  (he:s.heap.get? e=some oe) (hc:oe.cls=.ref C) (hb:bD.contains (.type "BaseException")=true) (up:∃cd d cl sl,K.lookup C=some ⟨cl,d,.cls cd,sl⟩/\cd.mro.contains (.ref D)=true) (q:Q true s):wpAny M A (excMatches (.ref e) (.ref D)) Q E s:=by
 obtain ⟨bm,N,nm,qn,bs,hd,sn,sub,ab,col,dd,c0,c1,c2,c3,c5,mN,o1,o2,o3,o4⟩:=zik k zC;obtain ⟨bm',N',nm',qn',bs',hd',sn',sub',ab',col',dd',d0,d1,d2,d3,d5,mN',p1,p2,p3,p4⟩:=zik k zD;obtain ⟨cd,d,cl,sl,lk,ct⟩:=up;have o1':=k _ _ lk;rw [o1] at o1';have hcd:=congrArg Obj.data (Option.some.inj o1')
 have hcC:(Value.ref C::bm).contains (.ref D)=true:=by
  injection hcd with h
  rw [<-h] at ct;exact ct
 have hcB:(Value.ref D::bm').contains (.type "BaseException")=true:=by rw [List.contains_cons,p4.hasType hb,Bool.or_true]
 have f:=tc_notTuple;obtain ⟨h,g,dr,t,os⟩:=s;unfold excMatches
 repeat (first | (with_reducible refine wpAny_loadPart_at he ?_;rw [hc]) | with_reducible refine wpAny_loadPart_at p1 ?_ | (with_reducible refine wpAny_isSubtype_exc p1 ?_;rw [hcB]) | (with_reducible refine wpAny_isSubtype_exc o1 ?_;rw [hcC]) | wp_step)
 exact q
end L2
namespace L2
open PySem PySem.Spec PyProof.Rows
section
variable{X:Cx}{pins:Z3}{σ:St}{H:Hp}{s:Shared}
theorem zp3{M:Model}{A:Around}{E:Z5}{i:Nat}{x:Str}{Q:Unit->Shared->Prop}(I:Inv X pins σ H s)(hN:X.N.Nodup)(hi:X.N[i]?=some x)(hk:X.env.scope.names.lookup x=some .local)(hv:∃v,σ[i]?=some (some v))
  (h:∀s',Inv X pins (σ.set i none) H s'->Q () s'):wpAny M A (unbindName X.env x) Q E s:=by
 obtain ⟨m,hn,hl⟩:=id I.loc
 have hcls:(X.env.scope.kind == .class||(X.env.scope.kind == .module&&X.env.locals != X.env.globals))=false:=by rw [I.ok.kind];rfl
 obtain ⟨v,hv⟩:=hv;obtain ⟨u,r,lk⟩:=hl i x v hi hv (.inl hk)
 have hm:m x=some u:=by
  rcases lk with ⟨_,z⟩ | ⟨z,_⟩
  ·exact z
  ·have z:X.env.scope.names.lookup x=some .cell\/X.env.scope.names.lookup x=some .free:=z;rw [hk] at z
   rcases z with z | z<;>cases z
 refine wpAny_unbindName_local hk hn hm hcls fun h' u' hn' hs=>h _ ?_
 have far:∀b o,X.s₀.heap.get? b=some o->b≠X.env.locals:=fun b o z=>Nat.ne_of_lt (Nat.lt_of_lt_of_le (Heap.lt_size z) I.ok.above)
 refine ⟨I.ok,I.os,I.bare,⟨?_,?_,I.base.free,?_,I.base.tups,I.base.frzs,I.base.tbls⟩,⟨_,hn',?_⟩,?_,I.free,I.freeC,?_,?_,by simpa using I.len⟩
 ·exact fun b o z n hb hx=>(hs.2 b (far b o z)).trans (I.base.keep b o z n hb hx)
 ·exact fun b o z n hb hx=>let ⟨sl,z1⟩:=I.base.slot b o z n hb hx;⟨sl,(hs.2 b (far b o z)).trans z1⟩
 ·exact fun b o z hx=>let ⟨o',z1⟩:=I.base.there b o z hx;⟨o',(hs.2 b (far b o z)).trans z1⟩
 ·intro j y w e1 e2 e3
  have hj:j≠i:=fun z=>by
   subst z;have l1:j<σ.length:=(List.getElem?_eq_some_iff.mp hv).1;rw [List.getElem?_set_self l1] at e2;cases e2
  rw [List.getElem?_set_ne (Ne.symm hj)] at e2;obtain ⟨u1,r1,q⟩:=hl j y w e1 e2 e3;refine ⟨u1,r1,?_⟩
  rcases q with ⟨k1,z⟩ | ⟨k1,c,z,z1⟩
  ·have ny:y≠x:=fun e=>hj (zgz hN e1 (e ▸ hi))
   exact .inl ⟨k1,by simp [ny,z]⟩
  ·exact .inr ⟨k1,c,z,z1.sameBut hs (I.cne y c z)⟩
 ·exact fun y c z=>let ⟨w,z1⟩:=I.cell y c z;⟨w,z1.sameBut hs (I.cne y c z)⟩
 ·exact fun p hp=>let ⟨z,n,ne,nf,d⟩:=I.pin p hp;⟨(hs.2 p.1 ne).trans z,n,ne,nf,d⟩
 ·exact I.hok.same fun b o z n=>(hs.2 b fun e=>n (by rw [e];exact I.free)).trans z
theorem zgE{M:Model}{A:Around}{E:Z5}{i:Nat}{x:Str}{pos:Pos}{Q:Unit->Shared->Prop}(I:Inv X pins σ H s)(hN:X.N.Nodup)(hi:X.N[i]?=some x)(hk:X.env.scope.names.lookup x=some .local)
  (h:∀s',Inv X pins (σ.set i none) H s'->Q () s'):wpAny M A (do bindName X.env x .none;unbindBehindTheSuite X.env x pos) Q E s:=by
 refine wpAny_bind (wpAny_bindName (zdS (v:=.non) I hN hi (.inl hk) rfl (fun s2 I2=>?_) (.inr hk)));unfold unbindBehindTheSuite;refine wpAny_onRaise ?_
 have l1:i<σ.length:=by rw [I.len];exact (List.getElem?_eq_some_iff.mp hi).1
 refine zp3 I2 hN hi hk ⟨.non,List.getElem?_set_self l1⟩ fun s3 I3=>h s3 ?_
 rw [List.set_set] at I3;exact I3
end
end L2
namespace L2
open PySem PySem.Spec PyProof.Rows
section
variable{X:Cx}{pins:Z3}{σ:St}{H H':Hp}{s s':Shared}{B h2:Heap}{a:Addr}{cls a0:Value}
abbrev Cx.inH(X:Cx)(a:Addr):Cx:={ X with A:=X.A.mark (some (.ref a)),calm:=false,xe:=fun _ _=>False }
theorem Inv.inH(I:Inv X pins σ H s)(a:Addr):Inv (X.inH a) pins σ H s :=
 ⟨⟨I.ok.mod,I.ok.kind,I.ok.glob,I.ok.blt,I.ok.above,I.ok.inj,I.ok.has,I.ok.cab,(fun z=>nomatch z),I.ok.frames,I.ok.stk,I.ok.exf,I.ok.bs,I.ok.bsz,I.ok.noex,I.ok.exfs,I.ok.funs,I.ok.frf⟩,I.os,I.bare,I.base,I.loc,I.cell,I.free,I.freeC,I.pin,I.hok,I.len⟩
theorem Inv.outH(J:X.Ok)(I:Inv (X.inH a) pins σ H s):Inv X pins σ H s:=⟨J,I.os,I.bare,I.base,I.loc,I.cell,I.free,I.freeC,I.pin,I.hok,I.len⟩
theorem zgg(I:Inv X pins σ H s)(fl:Heap.FlyingW B X.stack a cls a0 h2)(up:s'.heap.UpToSlots h2)(c1:∀b o,s'.heap.get? b=some o->H' b≠none->B.get? b=some o)
  (c2:∀b o,s.heap.get? b=some o->H b=none->b ∉ frs X.stack->B.get? b=some o) (c3:∀b o,s.heap.get? b=some o->b ∉ frs X.stack->∃o',B.get? b=some o')
  (os:s'.os=s.os) (bare:AllBare s'.gens) (un:Un (frs X.stack) [] H H' s.heap s'.heap) (hok:HOk X.prog X.w H' s'.heap) :
  Inv X pins σ H' { s' with heap:=h2 }/\∃ob,ob.cls=cls/\h2.get? a=some ob/\H' a=none/\Inv X pins σ (upd H' a (.frz ob (.own a))) { s' with heap:=h2 }:=by
 have trk:∀b o,s'.heap.get? b=some o->H' b≠none->h2.get? b=some o:=fun b o z n=>fl.1 b o (c1 b o z n)
 have hok2:HOk X.prog X.w H' h2:=hok.same trk
 have slt:∀b o,s.heap.get? b=some o->H b=none->b∈frs X.stack->∃sl,h2.get? b=some { o with slots:=sl }:=fun b o z n hb=>by
  obtain ⟨_,o',z',hd⟩:=I.stack.mem hb;rw [z] at z';cases z';obtain ⟨sl,r⟩:=un.slot b o z n hb (by simp);obtain ⟨sl',r'⟩:=up b ({ o with slots:=sl }:Obj) r hd;exact ⟨sl',r'⟩
 have th:∀b o,s.heap.get? b=some o->b ∉ ([]:List Addr)->∃o',h2.get? b=some o':=fun b o z _=>by
  by_cases hb:b∈frs X.stack
  ·obtain ⟨sl,r⟩:=slt b o z (I.stkFree b hb) hb;exact ⟨_,r⟩
  ·obtain ⟨o',r⟩:=c3 b o z hb;exact ⟨o',fl.1 b o' r⟩
 have un2:Un (frs X.stack) [] H H' s.heap h2:=⟨fun b o z n hb _=>fl.1 b o (c2 b o z n hb),fun b o z n hb _=>slt b o z n hb,un.free,th,un.tups,un.frzs,un.tbls⟩;refine ⟨I.call' (s':={ s' with heap:=h2 }) (ch:=[]) os un2 hok2 bare (fun b z=>absurd z (by simp)),?_⟩;obtain ⟨oe,vs,he,hc,hd,_⟩:=fl.first
 have na:H' a=none:=by
  cases k:H' a with
  | none=>rfl
  | some u =>
   obtain ⟨o',z'⟩:=(hok a u k).has;have:=c1 a o' z' (by rw [k];exact Option.some_ne_none _);rw [fl.2.1] at this;cases this
 have ns:∀o,s.heap.get? a=some o->False:=fun o z=>by
  by_cases hb:a∈frs X.stack
  ·obtain ⟨_,o',z',hd'⟩:=fl.2.2.1.mem hb;rw [he] at z';cases z';exact hd' _ hd
  ·obtain ⟨o',r⟩:=c3 a o z hb;rw [fl.2.1] at r;cases r
 have ne:∀{b:Addr} {u:HO},H' b=some u->b≠a:=fun {b u} z e=>by rw [e,na] at z;cases z
 refine ⟨oe,hc,he,na,I.call' (s':={ s' with heap:=h2 }) (ch:=[]) os ⟨un2.keep,un2.slot,fun b o z n hx=>?_,th,fun b xs z=>?_,fun b o u z=>?_,fun b ps z=>?_⟩ (fun b u z=>?_) bare (fun b z=>absurd z (by simp))⟩
 ·rw [zam (a:=a) (b:=b) fun e=>ns o (by rw [<-e];exact z)];exact un.free b o z n hx
 ·have:=un.tups b xs z;rw [zam (ne this)];exact this
 ·have:=un.frzs b o u z;rw [zam (ne this)];exact this
 ·obtain ⟨more,this⟩:=un.tbls b ps z;exact ⟨more,by rw [zam (ne this)];exact this⟩
 ·by_cases e:b=a
  ·subst e;unfold upd at z;rw [if_pos rfl] at z;cases z;exact ⟨he,oe,he⟩
  ·rw [zam e] at z;exact (hok2 b u z).stay (fun _ _ _ q=>q) (fun c q=>by rw [zam (ne q)];exact q) (fun c xs q=>by rw [zam (ne q)];exact q)
end
def znN(K:PySem.W.Frag)(C D:Addr):Prop:=(∃bC iC,PySem.W.excIn K C bC iC=true)/\∃cd d cl sl,K.lookup C=some ⟨cl,d,.cls cd,sl⟩/\cd.mro.contains (.ref D)=true
def Ends.goes(D:Ends)(i:Nat):Ends:={ nx:=fun σ H=>D.nx (σ.set i none) H,rt:=D.rt,bk:=fun σ H=>D.bk (σ.set i none) H,ct:=fun σ H=>D.ct (σ.set i none) H }
theorem zoU{X:Cx}{a:Addr}{pins:Z3}{D:Ends}{i:Nat}{n:Str}{pos:Pos}{f:Flow}{s:Shared}{E:Z5}(J:X.Ok)(hN:X.N.Nodup)(hi:X.N[i]?=some n)(hk:X.env.scope.names.lookup n=some .local)(h:SP (X.inH a) pins (D.goes i) f s) :
  wpAny (model X.prog X.w) X.A (do bindName X.env n .none;unbindBehindTheSuite X.env n pos) (fun _ s3=>SP X pins D f s3) E s:=by
 cases f with
 | next =>
  obtain ⟨σ',H',I,q⟩:=h;exact zgE (I.outH J) hN hi hk fun s' I'=>⟨_,H',I',q⟩
 | brk =>
  obtain ⟨σ',H',I,q⟩:=h;exact zgE (I.outH J) hN hi hk fun s' I'=>⟨_,H',I',q⟩
 | cont =>
  obtain ⟨σ',H',I,q⟩:=h;exact zgE (I.outH J) hN hi hk fun s' I'=>⟨_,H',I',q⟩
 | ret u =>
  obtain ⟨v,σ',H',I,r,q⟩:=h;exact zgE (I.outH J) hN hi hk fun s' I'=>⟨v,_,H',I',r,q⟩
end L2
namespace PySem.W
open PySem
structure ExcCls(K:Frag)(C:Addr):Prop where
 ga:findIn K (.ref C) "__getattribute__" = some (some (.builtin "BaseException.__getattribute__"))
 gt:findIn K (.ref C) "__getattr__" = some none
 cl:findIn K (.ref C) "__class__" = some (some (.builtin "object.__class__"))
 ob:subIn K (.ref C) (.type "object")=some true
 be:subIn K (.ref C) (.type "BaseException")=some true
 is:∃c d cd sl,K.lookup C=some ⟨c,d,.cls cd,sl⟩
section
variable{prog:Program}{w:World}{A:Around}{E:Z5}{h:Heap}{g:Array GenState}{d:Drawn}{t:Nat}{os:OsState}{a C:Addr}{o:Obj}{K:Frag}
theorem zgF{R:Result->Shared->Prop}(k:K.In h)(X:ExcCls K C)(hx:h.get? a=some o)(hc:o.cls=.ref C)(hq:R (.ok (.ret (.ref C))) ⟨h,g,d,t,os⟩) :
  codeAny (model prog w) A (.call (.builtin "getset_descriptor.__get__") ⟨[.builtin "object.__class__",.ref a,.ref C],[]⟩) R ⟨h,g,d,t,os⟩:=by
 have isGs:Shared.TypeIs ⟨h,g,d,t,os⟩ (.builtin "object.__class__") "getset_descriptor":=F.typeOf_object_class
 have f8:subIn K (.ref C) (.type (".".intercalate ("object.__class__".cutAt '.').dropLast))=some true:=by rw [F.owner_object_class];exact X.ob
 refine codeAny_call_builtin F.slot_gs_get.plain F.entry_gs_get ?_;refine F.slot_gs_get.check _ _ _ _ _ _ _ _ isGs (F.args_gs_get _ _ _) ?_
 repeat (any_goals (first | assumption | (with_reducible refine wpAny_loadPart_at hx ?_;rw [hc]) | with_reducible refine Looks.at (looks_subIn k f8) ?_ | wp_step))
 refine And.intro (Code.quiet_builtin _ (by decide +kernel)) ?_;refine codeAny_builtin F.entry_object_class ?_
 repeat (any_goals (first | assumption | (with_reducible refine wpAny_loadPart_at hx ?_;rw [hc]) | wp_step))
theorem zfz{tk:Tok}{Q:Fin->Shared->Prop}(k:K.In h)(X:ExcCls K C)(hx:h.get? a=some o)(hc:o.cls=.ref C)(hq:Q (.done (.ret (.ref C))) ⟨h,g,d,t,os⟩) :
  wpAny (model prog w) A (Builtin.«object.__getattribute__» { pos:=[.ref a,.str "__class__" tk],kw:=[] }) Q E ⟨h,g,d,t,os⟩:=by
 have isGs:Shared.TypeIs ⟨h,g,d,t,os⟩ (.builtin "object.__class__") "getset_descriptor":=F.typeOf_object_class;have known:=And.intro F.typeOf_object_class (And.intro F.slot_gs_get.lookup F.slot_gs_set.lookup);obtain ⟨p5,p6,p7⟩:=known
 repeat (any_goals (first | assumption | (with_reducible refine wpAny_loadPart_at hx ?_;rw [hc]) | with_reducible refine Looks.at (looks_findIn k X.cl) ?_ | wp_step))
 refine zgF k X hx hc ?_
 repeat any_goals first | assumption | wp_step
end
end PySem.W
namespace PySem.W
open PySem
section
variable{prog:Program}{w:World}{A:Around}{E:Z5}{h:Heap}{g:Array GenState}{d:Drawn}{t:Nat}{os:OsState}{a C:Addr}{o:Obj}{K:Frag}
theorem zfA{M:Model}{nameV:Value}{Q:Unit->Shared->Prop}(k:K.In h)(X:ExcCls K C)(hx:h.get? a=some o)(hc:o.cls=.ref C)(hq:Q () ⟨h,g,d,t,os⟩) :
  wpAny M A (checkBuiltinCall "BaseException.__getattribute__" ⟨[.ref a,nameV],[]⟩) Q E ⟨h,g,d,t,os⟩:=by
 have k1:builtinKind "BaseException.__getattribute__" = some .slot:=by decide +kernel
 have k2:splitId "BaseException.__getattribute__" = some ("BaseException","__getattribute__"):=by decide +kernel
 have fits:=F.args_bexc_ga (.ref a) nameV;simp only [checkBuiltinCall,k1,k2];refine wpAny_bind ?_;unfold isInstance
 repeat (first | (with_reducible refine wpAny_loadPart_at hx ?_;rw [hc]) | with_reducible refine Looks.at (looks_subIn k X.be) ?_ | wp_step)
 exact hq
theorem zfP{tk:Tok}{R:Result->Shared->Prop}(k:K.In h)(X:ExcCls K C)(hx:h.get? a=some o)(hc:o.cls=.ref C)(hq:R (.ok (.ret (.ref C))) ⟨h,g,d,t,os⟩) :
  codeAny (model prog w) A (.call (.builtin "BaseException.__getattribute__") ⟨[.ref a,.str "__class__" tk],[]⟩) R ⟨h,g,d,t,os⟩ :=
 codeAny_call_builtin F.attr_ValueError.ga.plain F.entry_bexc_ga (zfA k X hx hc (zfz k X hx hc hq))
theorem zhx{tk:Tok}{fill expr:Bool}{Q:Z5}(k:K.In h)(X:ExcCls K C)(hx:h.get? a=some o)(hc:o.cls=.ref C)(hq:Q (.ref C) ⟨h,g,d,t,os⟩) :
  wpAny (model prog w) A (getAttrBy (.ref a) (.str "__class__" tk) fill expr) Q E ⟨h,g,d,t,os⟩:=by
 have f3:=F.attr_ValueError.ga.bind (.ref a)
 have n0:(expr&&onTheHeap (Value.builtin "BaseException.__getattribute__"))=false:=by cases expr<;>rfl
 have n2:(Value.builtin "BaseException.__getattribute__" == Value.builtin "object.__getattribute__")=false:=by decide +kernel
 have n1:(onTheHeap (Value.ref C)&&Value.builtin "BaseException.__getattribute__" == Value.builtin "object.__getattribute__")=false:=by rw [n2];rfl
 repeat (any_goals (first | assumption | (with_reducible refine wpAny_loadPart_at hx ?_;rw [hc]) | with_reducible refine Looks.at (looks_findIn k X.ga) ?_ | with_reducible refine Looks.at (looks_findIn k X.gt) ?_ | wp_step))
 refine zfP k X hx hc ?_
 repeat any_goals first | assumption | wp_step
theorem zfQ{Q:Option Value->Shared->Prop}(k:K.In h)(X:ExcCls K C)(hx:h.get? a=some o)(hc:o.cls=.ref C)(hq:Q (some (.ref C)) ⟨h,g,d,t+1,os⟩):wpAny (model prog w) A (getAttr? (.ref a) "__class__") Q E ⟨h,g,d,t,os⟩:=by
 unfold getAttr? getAttrBy?
 repeat (any_goals (first | assumption | with_reducible apply zhx k X hx hc | wp_step))
end
theorem znc{K:Frag}{a C:Addr}(X:ExcCls K C):KitX K (.ref a) (.ref C) (fun h=>∃o,h.get? a=some o/\o.cls=.ref C) where
 ty:=fun M h _ p=>by
  obtain ⟨o,h1,h2⟩:=p;rw [<-h2];exact Looks.andThen (Looks.ld h1) .now
 it:=fun _ _ k _=>by
  obtain ⟨c,d,cd,sl,lk⟩:=X.is;intro A' Q' E' s' kk q;unfold isType loadHead;exact wpAny_bind (wpAny_loadPart (kk _ _ (k _ _ lk)) (wpAny_pure q))
 ne:=fun h tp dd its n sl k htp=>by
  obtain ⟨c,d,cd,sl',lk⟩:=X.is;refine Bool.eq_false_iff.mpr fun q=>?_
  have e:C=tp:=Value.ref.inj (beq_iff_eq.mp q);have z:=k _ _ lk;rw [e,htp] at z;cases z
 ca:=fun {_ _ _ _ _ s} k p q=>by
  obtain ⟨o,h1,h2⟩:=p;obtain ⟨h,g,d,t,os⟩:=s;exact zfQ k X h1 h2 q
end PySem.W
namespace L2
open PySem PySem.Spec PyProof.Rows
theorem zj3{X:Cx}:zez X (.builtin "isinstance") (fun xs H Q=>∃(a C:Addr) (ob:Obj) (c:V) (cv:Value) (k:Bool),xs=[.ref a,c]/\H a=some (.frz ob (.own a))/\ob.cls=.ref C/\PySem.W.ExcCls X.K C/\(∀u,zbx c u->u=cv)/\PySem.W.kitOne X.K (.ref C) cv=some k/\Q (.bl k) H):=by
 intro pins s σ H xs us Q I r h;obtain ⟨a,C,ob,c,cv,k,rfl,ha,hc,Z,hv,e,q⟩:=h
 cases r with
 | cons r1 rr =>
  cases rr with
  | cons r2 r3 =>
   cases r3;cases (show _=Value.ref a from r1);rw [hv _ r2];obtain ⟨h1,_⟩:=(show zbQ X.prog X.w H s.heap a (.frz ob (.own a)) from I.hok a _ ha);exact PySem.W.kia_one (PySem.W.znc Z) I.kIn ⟨ob,h1,hc⟩ e (fun z=>nomatch z) fun tk=>⟨.bl k,H,I.tok tk,rfl,q⟩
end L2
namespace L2
open PySem PySem.Spec PyProof.Rows PySem.SeqAt
section
variable{X:Cx}
end
end L2
namespace L2
open PySem PySem.Spec PyProof.Rows
theorem ziP(ns:List Int):∀j,j<=ns.length->preSum (fun i=>ns.getD i 0) j=(ns.take j).sum
 | 0,_=>by rw [List.take_zero];rfl
 | j+1,h=>by
  have ih:=ziP ns j (by omega);show preSum _ j+ns.getD j 0=_
  have e:ns.take (j+1)=ns.take j++[ns[j]]:=by rw [List.take_add_one,List.getElem?_eq_getElem (by omega)];rfl
  have e2:ns.getD j 0=ns[j]:=by simp [List.getD,show j<ns.length by omega]
  rw [ih,e,e2,List.sum_append];simp
theorem zhd(ns:List Int)(h:∀n∈ns,0<=n/\n<=1000000):∀j,j<=ns.length->0<=preSum (fun i=>ns.getD i 0) j/\preSum (fun i=>ns.getD i 0) j<=1000000*(j:Int)
 | 0,_=>⟨Int.le_refl _,Int.le_refl _⟩
 | j+1,hj=>by
  have ih:=zhd ns h j (by omega)
  have e:ns.getD j 0=ns[j]:=by simp [List.getD,show j<ns.length by omega]
  have hb:=h ns[j] (List.getElem_mem (by omega));show 0<=preSum _ j+ns.getD j 0/\preSum _ j+ns.getD j 0<=_;rw [e]
  push_cast
  omega
section
variable{X:Cx}
theorem znH(hc:X.calm=true):zez X (.builtin "sum") (fun xs H Q=>∃(p:Addr) (ns:List Int),xs=[.ref p]/\SqL X.K H p (ns.map V.int)/\ns.length<=1000/\(∀n∈ns,0<=n/\n<=1000000)/\Q (.int ns.sum) H):=by
 intro pins s σ H xs us Q I r h;obtain ⟨p,ns,rfl,hq,hl1000,hb,q⟩:=h;obtain ⟨u,rfl,rx⟩:=zhN r;cases rx;obtain ⟨its,rv,pl,hz⟩:=I.list hq;have hl:=pl.isList
 have hlt:p<s.heap.objs.size:=by obtain ⟨_,e,_⟩:=hl;exact Heap.lt_size e
 have hn:its.length=ns.length:=by have:=rv.length;rw [List.length_map] at this;exact this.symm
 refine call_sum_walk (wpAny_pyIter_list hl ?_);refine ⟨s.heap.objs.size,[s.heap.objs.size,p],[s.heap.objs.size],its.toArray.size,_,_,fun i=>ns.getD i 0,rfl,Walks.list (A:=X.A.in1) (I.ok.hd hc) _ p (Nat.ne_of_lt hlt) its.toArray,⟨⟨_,Heap.get?_push_size _ rfl,rfl,rfl⟩,hl.push _⟩,fun b hm=>?_,fun i v hP=>?_,fun j hj=>?_,fun h' tk t' hk=>?_⟩
 ·show b<(s.heap.push _).objs.size;rw [Heap.size_push];simp only [List.mem_cons,List.not_mem_nil,or_false] at hm
  rcases hm with z | z
  ·rw [z];exact Nat.lt_succ_self _
  ·rw [z];exact Nat.lt_succ_of_lt hlt
 ·have hv:its[i]?=some v:=by simpa using hP
  have hi:i<ns.length:=by rw [<-hn];exact (List.getElem?_eq_some_iff.mp hv).1
  obtain ⟨u,hu,ru⟩:=rv.get (i:=i) (x:=.int ns[i]) (by rw [List.getElem?_map,List.getElem?_eq_getElem hi];rfl);rw [hv] at hu;cases hu;obtain ⟨t,rfl⟩:=ru;exact ⟨t,by simp [List.getD,hi]⟩
 ·rw [List.size_toArray,hn] at hj;have h1:=zhd ns hb (j+1) hj
  have e:ns.getD j 0=ns[j]:=by simp [List.getD,hj]
  have h2:=hb ns[j] (List.getElem_mem hj);refine ⟨?_,?_⟩
  ·show InLong (ns.getD j 0);rw [e];exact ⟨by omega,by omega⟩
  ·have:((j+1:Nat):Int)<=1000:=by omega
   exact ⟨by omega,by omega⟩
 ·rw [List.size_toArray,hn,ziP ns ns.length (Nat.le_refl _),List.take_length];refine ⟨.int _,H,I.kept (t':=tk) fun b o e=>?_,⟨t',rfl⟩,q⟩;exact hk b o (fun hm=>by rw [List.mem_singleton.mp hm] at e;exact Nat.lt_irrefl _ (Heap.lt_size e)) (Heap.get?_push_of_some _ e)
end
end L2
namespace S2
open PySem PySem.Spec PyProof.Rows L2
mutual
def D.py:D->PyData
 | .non=>.none
 | .bl b=>.bool b
 | .int i=>.int i
 | .str x=>.str x
 | .tup l=>.tuple (D.pys l)
 | .lst l=>.list (D.pys l)
 | .scr l=>.list (l.map PyData.int)
 | .dic _=>.none
 | .ref _=>.none
 | .exc _=>.none
def D.pys:List D->List PyData
 | []=>[]
 | d::l=>d.py::D.pys l
end
mutual
def D.fit:Nat->D->Bool
 | _,.non=>true
 | _,.bl _=>true
 | _,.int _=>true
 | _,.str x=>PyData.strOk x
 | 0,.tup _=>false
 | n+1,.tup l=>D.fits n l
 | 0,.lst _=>false
 | n+1,.lst l=>D.fits n l
 | 0,.scr _=>false
 | _+1,.scr _=>true
 | _,.dic _=>false
 | _,.ref _=>false
 | _,.exc _=>false
def D.fits:Nat->List D->Bool
 | _,[]=>true
 | n,d::l=>d.fit n&&D.fits n l
end
theorem D.fits_iff{n:Nat}:∀{l:List D},D.fits n l=true↔∀d∈l,d.fit n=true
 | []=>by simp [D.fits]
 | d::l=>by simp [D.fits,D.fits_iff (l:=l)]
theorem zi2:∀(l:List Int),PyData.canLayAll0 (l.map PyData.int)=true/\PyData.depthAll (l.map PyData.int)=0
 | []=>⟨rfl,rfl⟩
 | i::l=>by
  obtain ⟨a,b⟩:=zi2 l;exact ⟨by simp [PyData.canLayAll0,PyData.canLay0,a],by simp [PyData.depthAll,PyData.depth,b]⟩
mutual
theorem D.lay:∀{n:Nat} {d:D},d.fit n=true->d.py.canLay0=true/\d.py.depth<=n
 | _,.non,_=>⟨rfl,Nat.zero_le _⟩
 | _,.bl _,h=>⟨rfl,Nat.zero_le _⟩
 | _,.int _,_=>⟨rfl,Nat.zero_le _⟩
 | _,.str x,h=>⟨by simpa [D.fit,D.py,PyData.canLay0] using h,Nat.zero_le _⟩
 | 0,.tup _,h=>by simp [D.fit] at h
 | 0,.lst _,h=>by simp [D.fit] at h
 | 0,.scr _,h=>by simp [D.fit] at h
 | n+1,.scr l,h=>by
  obtain ⟨a,b⟩:=zi2 l;exact ⟨by simpa [D.py,PyData.canLay0] using a,by simp only [D.py,PyData.depth];omega⟩
 | _,.dic _,h=>by simp [D.fit] at h
 | _,.ref _,h=>by simp [D.fit] at h
 | _,.exc _,h=>by simp [D.fit] at h
 | n+1,.tup l,h=>by
  have h':D.fits n l=true:=by simpa [D.fit] using h
  obtain ⟨a,b⟩:=D.lays h';exact ⟨by simpa [D.py,PyData.canLay0] using a,by simp only [D.py,PyData.depth];omega⟩
 | n+1,.lst l,h=>by
  have h':D.fits n l=true:=by simpa [D.fit] using h
  obtain ⟨a,b⟩:=D.lays h';exact ⟨by simpa [D.py,PyData.canLay0] using a,by simp only [D.py,PyData.depth];omega⟩
theorem D.lays:∀{n:Nat} {l:List D},D.fits n l=true->PyData.canLayAll0 (D.pys l)=true/\PyData.depthAll (D.pys l)<=n
 | _,[],_=>⟨rfl,Nat.zero_le _⟩
 | n,d::l,h=>by
  simp only [D.fits,Bool.and_eq_true] at h;obtain ⟨a,b⟩:=D.lay h.1;obtain ⟨c,e⟩:=D.lays h.2;exact ⟨by simp [D.pys,PyData.canLayAll0,a,c],by simp only [D.pys,PyData.depthAll];omega⟩
end
section
variable{X:Cx}{cl:Cf}{w:Wd}
theorem TopV.lstI{v:V}{ds:List D}(h:TopV cl w v (.lst ds)):∃a xs,v=.ref a/\w.H a=some (.lst xs)/\Shds cl w xs ds:=by
 cases h with
 | sh h=>cases h with
  | lst e k r=>exact ⟨_,_,rfl,e,r⟩
 | ow e t=>cases t with
  | lst r=>exact ⟨_,_,rfl,e,r⟩
theorem TopV.tupI{v:V}{ds:List D}(h:TopV cl w v (.tup ds)):∃a xs,v=.ref a/\w.H a=some (.tup xs)/\w.ow a=none/\Shds cl w xs ds:=by
 cases h with
 | sh h=>cases h with
  | tup e k r=>exact ⟨_,_,rfl,e,k,r⟩
 | ow e t=>cases t
theorem TopV.intI{v:V}{i:Int}(h:TopV cl w v (.int i)):v=.int i:=by
 cases h with
 | sh h=>cases h;rfl
 | ow e t=>cases t
theorem TopV.strI{v:V}{i:Str}(h:TopV cl w v (.str i)):v=.str i:=by
 cases h with
 | sh h=>cases h;rfl
 | ow e t=>cases t
theorem TopV.blI{v:V}{i:Bool}(h:TopV cl w v (.bl i)):v=.bl i:=by
 cases h with
 | sh h=>cases h;rfl
 | ow e t=>cases t
theorem TopV.nonI{v:V}(h:TopV cl w v .non):v=.non:=by
 cases h with
 | sh h=>cases h;rfl
 | ow e t=>cases t
theorem Shd.scrI{v:V}{l:List Int}(hK:X.K=cl.K)(h:Shd cl w v (.scr l)):∃a,v=.ref a/\SqL X.K w.H a (l.map V.int):=by
 cases h with
 | scr e k=>exact ⟨_,rfl,.inl (.inr ⟨_,e⟩)⟩
 | scrK h=>exact ⟨_,rfl,by rw [hK];exact h _⟩
theorem TopV.scrI{v:V}{l:List Int}(hK:X.K=cl.K)(h:TopV cl w v (.scr l)):∃a,v=.ref a/\SqL X.K w.H a (l.map V.int):=by
 cases h with
 | sh h=>exact h.scrI hK
 | ow e t=>cases t
theorem ziL{pins:Z3}{σ:St}{s:Shared}(I:Inv X pins σ w.H s)(hK:X.K=cl.K){v:V}{l:List Int}(h:Shd cl w v (.scr l)){u:Value}(r:zbx v u):∃as,Reads s.heap u (D.scr l).py as:=by
  obtain ⟨a,rfl,hq⟩:=h.scrI hK;cases r;obtain ⟨its,rv,p,_⟩:=I.list hq;obtain ⟨o,ho,hc,n,hd⟩:=id p.isList
  have go:∀{l:List Int} {us:List Value},Vals (l.map V.int) us->∃as,ReadsAll s.heap us (l.map PyData.int) as:=by
   intro l
   induction l with
   | nil=>intro us h;cases h;exact ⟨_,.nil⟩
   | cons i l ih =>
    intro us h
    cases h with
    | cons h1 h2 =>
     obtain ⟨t,rfl⟩:=h1;obtain ⟨as,ra⟩:=ih h2;exact ⟨_,.cons (.int i t) ra⟩
  obtain ⟨as,ra⟩:=go rv;exact ⟨_,.list ho hc hd (by simpa using ra)⟩
mutual
theorem zrA{pins:Z3}{σ:St}{s:Shared}(I:Inv X pins σ w.H s)(hK:X.K=cl.K):∀{v:V} {d:D} {n:Nat},Shd cl w v d->d.fit n=true->∀{u:Value},zbx v u->∃as,Reads s.heap u d.py as
 | _,_,_,.non,_,_,r=>by cases r;exact ⟨_,.none⟩
 | _,_,_,.bl b,_,_,r=>by cases r;exact ⟨_,.bool b⟩
 | _,_,_,.int i,_,_,r=>by obtain ⟨t,rfl⟩:=r;exact ⟨_,.int i t⟩
 | _,_,_,.str x,_,_,r=>by obtain ⟨t,rfl⟩:=r;exact ⟨_,.str x t⟩
 | _,_,0,.tup _ _ _,h,_,_=>by simp [D.fit] at h
 | _,_,0,.lst _ _ _,h,_,_=>by simp [D.fit] at h
 | _,_,n+1,.tup (a:=a) e _ rs,h,_,r=>by
  cases r;obtain ⟨its,rv,p,_⟩:=I.tuple (SqT.of (K:=X.K) e);obtain ⟨o,ho,hc,n,hd⟩:=id p;obtain ⟨as,ra⟩:=zdC I hK rs (by simpa [D.fit] using h) rv;exact ⟨_,.tuple ho hc hd (by simpa using ra)⟩
 | _,_,n+1,.lst (a:=a) e _ rs,h,_,r=>by
  cases r;obtain ⟨its,rv,p,_⟩:=I.list (SqL.of (K:=X.K) e);obtain ⟨o,ho,hc,n,hd⟩:=id p.isList;obtain ⟨as,ra⟩:=zdC I hK rs (by simpa [D.fit] using h) rv;exact ⟨_,.list ho hc hd (by simpa using ra)⟩
 | _,_,n,.scr e k,h,_,r=>ziL I hK (.scr e k) r
 | _,_,n,.scrK e,h,_,r=>ziL I hK (.scrK e) r
 | _,_,n,.dicK _ _ _,h,_,_=>by simp [D.fit] at h
 | _,_,n,.ref _,h,_,_=>by simp [D.fit] at h
 | _,_,n,.exc _ _ _,h,_,_=>by simp [D.fit] at h
theorem zdC{pins:Z3}{σ:St}{s:Shared}(I:Inv X pins σ w.H s)(hK:X.K=cl.K):∀{vs:List V} {ds:List D} {n:Nat},Shds cl w vs ds->D.fits n ds=true->∀{us:List Value},Vals vs us->∃as,ReadsAll s.heap us (D.pys ds) as
 | _,_,_,.nil,_,_,r=>by cases r;exact ⟨_,.nil⟩
 | _,_,n,.cons h t,f,_,r=>by
  simp only [D.fits,Bool.and_eq_true] at f
  cases r with
  | cons r1 r2 =>
   obtain ⟨as,a⟩:=zrA I hK h f.1 r1;obtain ⟨bs,b⟩:=zdC I hK t f.2 r2;exact ⟨_,.cons a b⟩
end
theorem zhc{pins:Z3}{σ:St}{s:Shared}(I:Inv X pins σ w.H s)(hK:X.K=cl.K){v:V}{d:D}{n:Nat}(h:TopV cl w v d)(f:d.fit n=true){u:Value}(r:zbx v u):∃as,Reads s.heap u d.py as:=by
 cases h with
 | sh h=>exact zrA I hK h f r
 | ow e t =>
  cases t with
  | lst rs =>
   cases n with
   | zero=>simp [D.fit] at f
   | succ n =>
    cases r;obtain ⟨its,rv,p,_⟩:=I.list (SqL.of (K:=X.K) e);obtain ⟨o,ho,hc,n,hd⟩:=id p.isList;obtain ⟨as,ra⟩:=zdC I hK rs (by simpa [D.fit] using f) rv;exact ⟨_,.list ho hc hd (by simpa using ra)⟩
  | dicK _=>simp [D.fit] at f
 | nst=>simp [D.fit] at f
def zeK(d e:D):Bool:=d.py.eqv e.py
def eqD(d e:D):Option D:=if d.fit 9&&e.fit 9 then some (.bl (zeK d e)) else none
def neD(d e:D):Option D:=if d.fit 9&&e.fit 9 then some (.bl (!zeK d e)) else none
theorem zuH(hK:X.K=cl.K)(hu:X.A.units+64<cLine):OpD X cl (compareOp .Eq) eqD:=by
 intro pins s σ H x y v u Q I rx ry h;obtain ⟨w,d,e,r,rfl,hx,hy,hg,q⟩:=h;unfold eqD at hg;split at hg
 ·rename_i hf;cases hg;rw [Bool.and_eq_true] at hf;obtain ⟨as,ra⟩:=zhc I hK hx hf.1 rx;obtain ⟨bs,rb⟩:=zhc I hK hy hf.2 ry;obtain ⟨l1,d1⟩:=D.lay hf.1;obtain ⟨l2,d2⟩:=D.lay hf.2;exact SeqAt.compareEq_reads ra rb l1 l2 (by omega) ⟨.bl _,w.H,I,rfl,q _ w (Grow.refl _) (.bl _)⟩
 ·cases hg
theorem zuF(hK:X.K=cl.K)(hu:X.A.units+64<cLine):OpD X cl (compareOp .NotEq) neD:=by
 intro pins s σ H x y v u Q I rx ry h;obtain ⟨w,d,e,r,rfl,hx,hy,hg,q⟩:=h;unfold neD at hg;split at hg
 ·rename_i hf;cases hg;rw [Bool.and_eq_true] at hf;obtain ⟨as,ra⟩:=zhc I hK hx hf.1 rx;obtain ⟨bs,rb⟩:=zhc I hK hy hf.2 ry;obtain ⟨l1,d1⟩:=D.lay hf.1;obtain ⟨l2,d2⟩:=D.lay hf.2;exact SeqAt.compareNe_reads ra rb l1 l2 (by omega) ⟨.bl _,w.H,I,rfl,q _ w (Grow.refl _) (.bl _)⟩
 ·cases hg
def zg4:D->Option (List D) | .lst l=>some l | .tup l=>some l | _=>none
def zh6(d:D)(l:List D):Bool:=l.any fun e=>zeK e d
def inD(d e:D):Option D:=match zg4 e with | some l=>if d.fit 8&&D.fits 8 l then some (.bl (zh6 d l)) else none | none=>none
def zpE(d e:D):Option D:=match zg4 e with | some l=>if d.fit 8&&D.fits 8 l then some (.bl (!zh6 d l)) else none | none=>none
theorem zdx{s:Shared}{its:List Value}{ds:List D}{as:List Addr}{d:D}(ra:ReadsAll s.heap its (D.pys ds) as)(f:D.fits 8 ds=true):(its.toArray.any fun y=>(SeqAt.readOf s.heap y).eqv d.py)=zh6 d ds:=by
 rw [SeqAt.any_by_data (vs:=its.toArray) (xs:=D.pys ds) (as:=as) (by simpa using ra) (D.lays f).1]
 have:∀{l:List D},((D.pys l).any fun y=>y.eqv d.py)=zh6 d l:=by
  intro l
  induction l with
  | nil=>rfl
  | cons e l ih =>
   show (e.py.eqv d.py||(D.pys l).any fun y=>y.eqv d.py)=(zeK e d||zh6 d l);rw [ih];rfl
 exact this
theorem zb8{A:Around}{s:Shared}{x:Value}{d:D}{bs:List Addr}(hu:A.units+64<cLine)(rx:Reads s.heap x d.py bs)(fd:d.fit 8=true):∀{its:List Value} {ds:List D} {as:List Addr},ReadsAll s.heap its (D.pys ds) as->D.fits 8 ds=true->∀y,y∈its.toArray->SeqAt.EqAt A.in1 s y x ((SeqAt.readOf s.heap y).eqv d.py)
 | [],[],_,_,_,y,hy=>by simp at hy
 | [],_::_,_,h,_,_,_=>by cases h
 | _::_,[],_,h,_,_,_=>by cases h
 | v::its,e::ds,_,h,f,y,hy=>by
  simp only [D.fits,Bool.and_eq_true] at f
  cases h with
  | cons h1 h2 =>
   simp at hy
   rcases hy with rfl | hy
   ·rw [zh0 (D.lay f.1).1 h1];refine SeqAt.eqAt_reads _ _ _ _ _ _ _ _ h1 rx (D.lay f.1).1 (D.lay fd).1 ?_;have:=(D.lay f.1).2;show A.units+1+_<cLine;omega
   ·exact zb8 hu rx fd h2 f.2 y (by simpa using hy)
theorem zkA{e:D}{l:List D}(h:zg4 e=some l):e=.lst l\/e=.tup l:=by
 cases e<;>simp [zg4] at h
 ·exact .inr (by rw [h])
 ·exact .inl (by rw [h])
theorem zuG(hK:X.K=cl.K)(hu:X.A.units+64<cLine):OpD X cl (compareOp .In) inD:=by
 intro pins s σ H x y v u Q I rx ry h;obtain ⟨w,d,e,r,rfl,hx,hy,hg,q⟩:=h;unfold inD at hg;split at hg
 ·rename_i l hl;split at hg
  ·rename_i hf;cases hg;rw [Bool.and_eq_true] at hf;obtain ⟨bs,rb⟩:=zhc I hK hx hf.1 rx
   rcases zkA hl with rfl | rfl
   ·obtain ⟨a,xs,rfl,e,rs⟩:=hy.lstI;cases ry;obtain ⟨its,rv,p,_⟩:=I.list (SqL.of (K:=X.K) e);obtain ⟨as,ra⟩:=zdC I hK rs hf.2 rv;refine SeqAt.in_listAt _ p.isList (zb8 hu rb hf.1 ra hf.2) ?_;rw [zdx ra hf.2];exact ⟨.bl _,w.H,I,rfl,q _ w (Grow.refl _) (.bl _)⟩
   ·obtain ⟨a,xs,rfl,e,_,rs⟩:=hy.tupI;cases ry;obtain ⟨its,rv,p,_⟩:=I.tuple (SqT.of (K:=X.K) e);obtain ⟨as,ra⟩:=zdC I hK rs hf.2 rv;refine SeqAt.in_tupleAt _ p (zb8 hu rb hf.1 ra hf.2) ?_;rw [zdx ra hf.2];exact ⟨.bl _,w.H,I,rfl,q _ w (Grow.refl _) (.bl _)⟩
  ·cases hg
 ·cases hg
theorem zr5(hK:X.K=cl.K)(hu:X.A.units+64<cLine):OpD X cl (compareOp .NotIn) zpE:=by
 intro pins s σ H x y v u Q I rx ry h;obtain ⟨w,d,e,r,rfl,hx,hy,hg,q⟩:=h;unfold zpE at hg;split at hg
 ·rename_i l hl;split at hg
  ·rename_i hf;cases hg;rw [Bool.and_eq_true] at hf;obtain ⟨bs,rb⟩:=zhc I hK hx hf.1 rx
   rcases zkA hl with rfl | rfl
   ·obtain ⟨a,xs,rfl,e,rs⟩:=hy.lstI;cases ry;obtain ⟨its,rv,p,_⟩:=I.list (SqL.of (K:=X.K) e);obtain ⟨as,ra⟩:=zdC I hK rs hf.2 rv;refine SeqAt.notIn_listAt _ p.isList (zb8 hu rb hf.1 ra hf.2) ?_;rw [zdx ra hf.2];exact ⟨.bl _,w.H,I,rfl,q _ w (Grow.refl _) (.bl _)⟩
   ·obtain ⟨a,xs,rfl,e,_,rs⟩:=hy.tupI;cases ry;obtain ⟨its,rv,p,_⟩:=I.tuple (SqT.of (K:=X.K) e);obtain ⟨as,ra⟩:=zdC I hK rs hf.2 rv;refine SeqAt.notIn_tupleAt _ p (zb8 hu rb hf.1 ra hf.2) ?_;rw [zdx ra hf.2];exact ⟨.bl _,w.H,I,rfl,q _ w (Grow.refl _) (.bl _)⟩
  ·cases hg
 ·cases hg
def zb5:D->D->Option D
 | .int i,.int j=>some (.int (i+j))
 | .tup a,.tup b=>if small (a.length+b.length) then some (.tup (a++b)) else none
 | .lst a,.lst b=>if small (a.length+b.length) then some (.lst (a++b)) else none
 | .str a,.str b=>if small (a.length+b.length) then some (.str (a++b)) else none
 | _,_=>none
theorem zsb:OpD X cl (binaryOp .Add) zb5:=by
 intro pins s σ H x y v u Q I rx ry h;obtain ⟨w,d,e,r,rfl,hx,hy,hg,q⟩:=h;unfold zb5 at hg;split at hg
 ·cases hg;rename_i i j;obtain rfl:=hx.intI;obtain rfl:=hy.intI;exact zr1 pins s σ w.H _ _ v u Q I rx ry ⟨i,j,rfl,rfl,q _ w (Grow.refl _) (.int _)⟩
 ·rename_i a b;split at hg
  ·rename_i hz;cases hg;obtain ⟨p,xs,rfl,ep,kp,rs⟩:=hx.tupI;obtain ⟨p2,ys,rfl,ep2,kp2,rs2⟩:=hy.tupI
   by_cases hxe:xs=[]
   ·subst hxe;cases rs;exact zmW pins s σ w.H _ _ v u Q I rx ry ⟨p,p2,ys,rfl,rfl,SqT.of ep,SqT.of ep2,q _ w (Grow.refl _) (.tup ep2 kp2 rs2)⟩
   ·refine zpw pins s σ w.H _ _ v u Q I rx ry ⟨p,p2,xs,ys,rfl,rfl,SqT.of ep,SqT.of ep2,hxe,by rw [rs.length,rs2.length];exact za7 hz,fun z=>?_,fun z l hl=>?_⟩
    ·subst z;cases rs2;rw [List.append_nil] at q;exact q _ w (Grow.refl _) (.tup ep kp rs)
    ·exact q _ (w.add l _) (zaI hl _) (Shd.newT hl (rs.append rs2))
  ·cases hg
 ·rename_i a b;split at hg
  ·rename_i hz;cases hg;obtain ⟨p,xs,rfl,ep,rs⟩:=hx.lstI;obtain ⟨p2,ys,rfl,ep2,rs2⟩:=hy.lstI;exact zr0 pins s σ w.H _ _ v u Q I rx ry ⟨p,p2,xs,ys,rfl,rfl,ep,ep2,by rw [rs.length,rs2.length];exact za7 hz,fun l hl=>q _ (w.add l _) (zaI hl _) (Shd.newL hl (rs.append rs2))⟩
  ·cases hg
 ·rename_i a b;split at hg
  ·rename_i hz;cases hg;obtain rfl:=hx.strI;obtain rfl:=hy.strI;exact zjK pins s σ w.H _ _ v u Q I rx ry ⟨a,b,rfl,rfl,za7 hz,q _ w (Grow.refl _) (.str _)⟩
  ·cases hg
 ·cases hg
def zqB:D->D->Option D | .int i,.int j=>some (.int (i-j)) | _,_=>none
theorem zr4:OpD X cl (binaryOp .Sub) zqB:=by
 intro pins s σ H x y v u Q I rx ry h;obtain ⟨w,d,e,r,rfl,hx,hy,hg,q⟩:=h;unfold zqB at hg;split at hg
 ·cases hg;rename_i i j;obtain rfl:=hx.intI;obtain rfl:=hy.intI;exact zrW pins s σ w.H _ _ v u Q I rx ry ⟨i,j,rfl,rfl,q _ w (Grow.refl _) (.int _)⟩
 ·cases hg
def zbU(i:Int):Bool:=decide (-(2 ^ 64)<i/\i<2 ^ 64)
def zfO:D->D->Option D
 | .int i,.int j=>if zbU i||zbU j then some (.int (i*j)) else none
 | .tup a,.int j=>if decide (1<=j/\j<=1000/\a≠[]/\a.length<=1000) then some (.tup (List.replicate j.toNat a).flatten) else none
 | .lst a,.int j=>if decide (0<=j/\j<=1000/\a.length<=1000) then some (.lst (List.replicate j.toNat a).flatten) else none
 | _,_=>none
theorem zr6:OpD X cl (binaryOp .Mult) zfO:=by
 intro pins s σ H x y v u Q I rx ry h;obtain ⟨w,d,e,r,rfl,hx,hy,hg,q⟩:=h;unfold zfO at hg;split at hg
 ·rename_i i j;split at hg
  ·rename_i hz;cases hg;obtain rfl:=hx.intI;obtain rfl:=hy.intI;refine zrX pins s σ w.H _ _ v u Q I rx ry ⟨i,j,rfl,rfl,?_,q _ w (Grow.refl _) (.int _)⟩;rw [Bool.or_eq_true] at hz;exact hz.imp (fun z=>of_decide_eq_true z) fun z=>of_decide_eq_true z
  ·cases hg
 ·rename_i a j;split at hg
  ·rename_i hz;cases hg;have hz':=of_decide_eq_true hz;obtain ⟨p,xs,rfl,ep,kp,rs⟩:=hx.tupI;obtain rfl:=hy.intI;have hl:=rs.length;obtain ⟨k,rfl⟩:∃k:Nat,j=(k:Int):=⟨j.toNat,by omega⟩;have hne:xs≠[]:=fun z=>hz'.2.2.1 (by cases a with | nil=>rfl | cons _ _=>rw [z] at hl;cases hl)
   by_cases hk:k=1
   ·subst hk;cases rx;obtain ⟨t,rfl⟩:=ry;obtain ⟨its,rv,⟨o,ho,hc,n,hd⟩,_⟩:=I.tuple (SqT.of (K:=X.K) ep);refine PySem.zm1 ho hc hd ⟨.ref p,w.H,I,rfl,q _ w (Grow.refl _) (.tup ep kp ?_)⟩;simpa using rs
   ·refine zpt pins s σ w.H _ _ v u Q I rx ry ⟨p,k,xs,rfl,rfl,SqT.of ep,hne,by omega,by omega,by omega,fun l hl=>q _ (w.add l _) (zaI hl _) (Shd.newT hl (rs.flat _))⟩
  ·cases hg
 ·rename_i a j;split at hg
  ·rename_i hz;cases hg;have hz':=of_decide_eq_true hz;obtain ⟨p,xs,rfl,ep,rs⟩:=hx.lstI;obtain rfl:=hy.intI;have hl:=rs.length;refine zoa pins s σ w.H _ _ v u Q I rx ry ⟨p,j,xs,rfl,rfl,ep,by omega,by omega,?_,fun l hl=>q _ (w.add l _) (zaI hl _) (Shd.newL hl (rs.flat _))⟩;refine Nat.le_trans (Nat.mul_le_mul (show xs.length<=1000 by omega) (show j.toNat<=1000 by omega)) (by decide)
  ·cases hg
 ·cases hg
def zkc:D->D->Option D | .int i,.int j=>if 0<j then some (.int (i % j)) else none | _,_=>none
def zsQ:D->D->Option D | .int i,.int j=>if 0<j/\j<1073741824 then some (.int (i / j)) else none | _,_=>none
theorem zr7:OpD X cl (binaryOp .Mod) zkc:=by
 intro pins s σ H x y v u Q I rx ry h;obtain ⟨w,d,e,r,rfl,hx,hy,hg,q⟩:=h;unfold zkc at hg;split at hg
 ·rename_i i j;split at hg
  ·rename_i hz;cases hg;obtain rfl:=hx.intI;obtain rfl:=hy.intI;exact zrY pins s σ w.H _ _ v u Q I rx ry ⟨i,j,rfl,rfl,hz,q _ w (Grow.refl _) (.int _)⟩
  ·cases hg
 ·cases hg
theorem zsa:OpD X cl (binaryOp .FloorDiv) zsQ:=by
 intro pins s σ H x y v u Q I rx ry h;obtain ⟨w,d,e,r,rfl,hx,hy,hg,q⟩:=h;unfold zsQ at hg;split at hg
 ·rename_i i j;split at hg
  ·rename_i hz;cases hg;obtain rfl:=hx.intI;obtain rfl:=hy.intI;exact zpv pins s σ w.H _ _ v u Q I rx ry ⟨i,j,rfl,rfl,hz,q _ w (Grow.refl _) (.int _)⟩
  ·cases hg
 ·cases hg
def zkb:D->Option D | .int i=>some (.int (-i)) | _=>none
theorem zqL:UnD X cl (unaryOp .USub) zkb:=by
 intro pins s σ H x v Q I rx h;obtain ⟨w,d,r,rfl,hx,hg,q⟩:=h;unfold zkb at hg;split at hg
 ·cases hg;rename_i i;obtain rfl:=hx.intI;exact zqK pins s σ w.H _ v Q I rx ⟨i,rfl,q _ w (Grow.refl _) (.int _)⟩
 ·cases hg
def zqF(p:Int->Int->Bool):D->D->Option D | .int i,.int j=>some (.bl (p i j)) | _,_=>none
theorem zgy{op:CmpOp}{p:Int->Int->Bool}(ho:OpR X (compareOp op) (rI0 fun i j=>.bl (p i j))):OpD X cl (compareOp op) (zqF p):=by
 intro pins s σ H x y v u Q I rx ry h;obtain ⟨w,d,e,r,rfl,hx,hy,hg,q⟩:=h;unfold zqF at hg;split at hg
 ·cases hg;rename_i i j;obtain rfl:=hx.intI;obtain rfl:=hy.intI;exact ho pins s σ w.H _ _ v u Q I rx ry ⟨i,j,rfl,rfl,q _ w (Grow.refl _) (.bl _)⟩
 ·cases hg
def zcN:D->Bool | .non=>true | _=>false
def zhq(d e:D):Option D:=if zcN e then some (.bl (zcN d)) else none
def zmY(d e:D):Option D:=if zcN e then some (.bl (!zcN d)) else none
theorem TopV.non_iff{v:V}{d:D}(h:TopV cl w v d):decide (v=.non)=zcN d:=by
 cases h with
 | sh h=>cases h<;>simp [zcN]
 | ow e t=>cases t<;>simp [zcN]
 | nst=>simp [zcN]
theorem zhr{d:D}(h:zcN d=true):d=.non:=by cases d<;>simp [zcN] at h;rfl
theorem zr8:OpD X cl (compareOp .Is) zhq:=by
 intro pins s σ H x y v u Q I rx ry h;obtain ⟨w,d,e,r,rfl,hx,hy,hg,q⟩:=h;unfold zhq at hg;split at hg
 ·rename_i hz;cases hg;rw [zhr hz] at hy;obtain rfl:=hy.nonI;refine zrZ pins s σ w.H _ _ v u Q I rx ry ⟨rfl,?_⟩;rw [hx.non_iff];exact q _ w (Grow.refl _) (.bl _)
 ·cases hg
theorem zpB:OpD X cl (compareOp .IsNot) zmY:=by
 intro pins s σ H x y v u Q I rx ry h;obtain ⟨w,d,e,r,rfl,hx,hy,hg,q⟩:=h;unfold zmY at hg;split at hg
 ·rename_i hz;cases hg;rw [zhr hz] at hy;obtain rfl:=hy.nonI;refine zpu pins s σ w.H _ _ v u Q I rx ry ⟨rfl,?_⟩;rw [hx.non_iff];exact q _ w (Grow.refl _) (.bl _)
 ·cases hg
def zmZ:D->D->Option D | .bl a,.bl b=>some (.bl (!decide (a=b))) | _,_=>none
theorem zpC:OpD X cl (compareOp .IsNot) zmZ:=by
 intro pins s σ H x y v u Q I rx ry h;obtain ⟨w,d,e,r,rfl,hx,hy,hg,q⟩:=h;unfold zmZ at hg;split at hg
 ·cases hg;obtain rfl:=hx.blI;obtain rfl:=hy.blI;exact zh2 pins s σ w.H _ _ v u Q I rx ry ⟨_,_,rfl,rfl,q _ w (Grow.refl _) (.bl _)⟩
 ·cases hg
def ixD:D->D->Option D
 | .lst l,.int i=>atI l i
 | .tup l,.int i=>atI l i
 | .scr l,.int i=>(atI l i).map D.int
 | _,_=>none
theorem zeN{xs:List V}{ds:List D}(r:Shds cl w xs ds){i:Int}{d:D}(h:atI ds i=some d):∃v,atI xs i=some v/\Shd cl w v d:=by
 unfold atI at h ⊢;rw [r.length]
 cases e:ixN ds.length i with
 | none=>rw [e] at h;cases h
 | some j =>
  rw [e] at h;exact r.at h
theorem zu5(hK:X.K=cl.K):IxD X cl ixD:=by
 intro value slice pins s σ H x y v u Q I rx ry h hsub;obtain ⟨w,d,e,r,rfl,hx,hy,hg,q⟩:=h;unfold ixD at hg;split at hg
 ·rename_i l i;obtain ⟨p,xs,rfl,ep,rs⟩:=hx.lstI;obtain rfl:=hy.intI;obtain ⟨z,e1,e2⟩:=zeN rs hg;exact zh8 value slice pins s σ w.H _ _ v u Q I rx ry ⟨p,xs,i,z,rfl,rfl,SqL.of ep,e1,q _ w (Grow.refl _) e2⟩ hsub
 ·rename_i l i;obtain ⟨p,xs,rfl,ep,_,rs⟩:=hx.tupI;obtain rfl:=hy.intI;obtain ⟨z,e1,e2⟩:=zeN rs hg;exact zlp value slice pins s σ w.H _ _ v u Q I rx ry ⟨p,xs,i,z,rfl,rfl,SqT.of ep,e1,q _ w (Grow.refl _) e2⟩ hsub
 ·rename_i l i;obtain ⟨p,rfl,ep⟩:=hx.scrI hK;obtain rfl:=hy.intI
  cases hl:atI l i with
  | none=>rw [hl] at hg;cases hg
  | some k =>
   rw [hl] at hg;cases hg
   have e1:atI (l.map V.int) i=some (.int k):=by
    unfold atI at hl ⊢;rw [List.length_map]
    cases e:ixN l.length i with
    | none=>rw [e] at hl;cases hl
    | some j =>
     rw [e] at hl;have hl':l[j]?=some k:=hl;show (l.map V.int)[j]?=_;rw [List.getElem?_map,hl'];rfl
   exact zh8 value slice pins s σ w.H _ _ v u Q I rx ry ⟨p,_,i,_,rfl,rfl,ep,e1,q _ w (Grow.refl _) (.int _)⟩ hsub
 ·cases hg
def zem:List D->Option D
 | [.lst l]=>some (.int l.length)
 | [.tup l]=>some (.int l.length)
 | [.scr l]=>some (.int l.length)
 | [.str x]=>if small x.length then some (.int x.length) else none
 | _=>none
theorem zsW(hK:X.K=cl.K):zj9 X cl (.builtin "len") zem:=by
 intro pins s σ H xs us Q I r h;obtain ⟨w,ds,d,rfl,hx,hg,q⟩:=h;unfold zem at hg;split at hg
 ·rename_i l;cases hg
  cases hx with
  | cons h1 h2 =>
   cases h2;obtain ⟨p,ys,rfl,ep,rs⟩:=h1.lstI;refine zdm pins s σ w.H _ us Q I r ⟨p,ys,rfl,.inl (SqL.of ep),?_⟩;rw [rs.length];exact q _ w (Grow.refl _) (.int _)
 ·rename_i l;cases hg
  cases hx with
  | cons h1 h2 =>
   cases h2;obtain ⟨p,ys,rfl,ep,_,rs⟩:=h1.tupI;refine zdm pins s σ w.H _ us Q I r ⟨p,ys,rfl,.inr (SqT.of ep),?_⟩;rw [rs.length];exact q _ w (Grow.refl _) (.int _)
 ·rename_i l;cases hg
  cases hx with
  | cons h1 h2 =>
   cases h2;obtain ⟨p,rfl,ep⟩:=h1.scrI hK;refine zdm pins s σ w.H _ us Q I r ⟨p,l.map V.int,rfl,.inl ep,?_⟩;rw [List.length_map];exact q _ w (Grow.refl _) (.int _)
 ·rename_i x;split at hg
  ·rename_i hz;cases hg
   cases hx with
   | cons h1 h2 =>
    cases h2;obtain rfl:=h1.strI;exact zhC pins s σ w.H _ us Q I r ⟨x,rfl,za7 hz,q _ w (Grow.refl _) (.int _)⟩
  ·cases hg
 ·cases hg
def zb6:List D->Option D
 | [.lst l]=>some (.tup l)
 | [.tup l]=>some (.tup l)
 | _=>none
theorem znG:zj9 X cl (.type "tuple") zb6:=by
 intro pins s σ H xs us Q I r h;obtain ⟨w,ds,d,rfl,hx,hg,q⟩:=h;unfold zb6 at hg;split at hg
 ·rename_i l;cases hg
  cases hx with
  | cons h1 h2 =>
   cases h2;obtain ⟨p,ys,rfl,ep,rs⟩:=h1.lstI;exact zee pins s σ w.H _ us Q I r ⟨p,ys,rfl,.inl ⟨SqL.of ep,fun l hl=>q _ (w.add l _) (zaI hl _) (Shd.newT hl rs)⟩⟩
 ·rename_i l;cases hg
  cases hx with
  | cons h1 h2 =>
   cases h2;obtain ⟨p,ys,rfl,ep,kp,rs⟩:=h1.tupI;exact zee pins s σ w.H _ us Q I r ⟨p,ys,rfl,.inr ⟨SqT.of ep,q _ w (Grow.refl _) (.tup ep kp rs)⟩⟩
 ·cases hg
def zhn:List D->Option D
 | [.lst l]=>some (.lst l)
 | [.tup l]=>some (.lst l)
 | _=>none
theorem zqi:zte X cl (.type "list") zhn:=by
 intro pins s σ H xs us Q I r h;obtain ⟨w,ds,d,rfl,hx,hg,q⟩:=h;unfold zhn at hg;split at hg
 ·rename_i l;cases hg
  cases hx with
  | cons h1 h2 =>
   cases h2;obtain ⟨p,ys,rfl,ep,rs⟩:=h1.lstI;exact zeI pins s σ w.H _ us Q I r ⟨p,ys,rfl,.inl (SqL.of ep),fun l hl=>q _ _ w (Grow.refl _) hl (.lst rs)⟩
 ·rename_i l;cases hg
  cases hx with
  | cons h1 h2 =>
   cases h2;obtain ⟨p,ys,rfl,ep,_,rs⟩:=h1.tupI;exact zeI pins s σ w.H _ us Q I r ⟨p,ys,rfl,.inr (SqT.of ep),fun l hl=>q _ _ w (Grow.refl _) hl (.lst rs)⟩
 ·cases hg
def zj7:List D->Option (List Bool)
 | []=>some []
 | .bl b::l=>(zj7 l).map (b::·)
 | _=>none
theorem znL{bs:List Bool}{ds:List D}:∀{xs:List V},Shds cl w xs ds->zj7 ds=some bs->xs=bs.map V.bl:=by
 induction ds generalizing bs with
 | nil=>intro xs r h;cases r;cases h;rfl
 | cons d ds ih =>
  intro xs r e
  cases r with
  | cons h t =>
   cases d with
   | bl b =>
    cases h;unfold zj7 at e
    cases hr:zj7 ds with
    | none=>rw [hr] at e;cases e
    | some cs=>rw [hr] at e;cases e;rw [ih t hr];rfl
   | _=>cases e
def zvv:List D->Option D
 | [.lst l]=>(zj7 l).map fun bs=>.bl (bs.all id)
 | _=>none
theorem zsX(hc:X.calm=true):zj9 X cl (.builtin "all") zvv:=by
 intro pins s σ H xs us Q I r h;obtain ⟨w,ds,d,rfl,hx,hg,q⟩:=h;unfold zvv at hg;split at hg
 ·rename_i l
  cases hb:zj7 l with
  | none=>rw [hb] at hg;cases hg
  | some bs =>
   rw [hb] at hg;cases hg
   cases hx with
   | cons h1 h2 =>
    cases h2;obtain ⟨p,ys,rfl,ep,rs⟩:=h1.lstI;obtain rfl:=znL rs hb;exact ziu hc pins s σ w.H _ us Q I r ⟨p,bs,rfl,SqL.of ep,q _ w (Grow.refl _) (.bl _)⟩
 ·cases hg
def zdE:List D->Option (List Int)
 | []=>some []
 | .int b::l=>(zdE l).map (b::·)
 | _=>none
theorem zlx{bs:List Int}{ds:List D}:∀{xs:List V},Shds cl w xs ds->zdE ds=some bs->xs=bs.map V.int:=by
 induction ds generalizing bs with
 | nil=>intro xs r h;cases r;cases h;rfl
 | cons d ds ih =>
  intro xs r e
  cases r with
  | cons h t =>
   cases d with
   | int b =>
    cases h;unfold zdE at e
    cases hr:zdE ds with
    | none=>rw [hr] at e;cases e
    | some cs=>rw [hr] at e;cases e;rw [ih t hr];rfl
   | _=>cases e
def zq0:List D->Option D
 | [.lst l]=>(zdE l).bind fun ns=>if decide (ns.length<=1000)&&ns.all (fun n=>decide (0<=n/\n<=1000000)) then some (.int ns.sum) else none
 | _=>none
theorem zsV(hc:X.calm=true):zj9 X cl (.builtin "sum") zq0:=by
 intro pins s σ H xs us Q I r h;obtain ⟨w,ds,d,rfl,hx,hg,q⟩:=h;unfold zq0 at hg;split at hg
 ·rename_i l
  cases hb:zdE l with
  | none=>rw [hb] at hg;cases hg
  | some ns =>
   rw [hb] at hg;dsimp only [Option.bind] at hg;split at hg
   ·rename_i hz;cases hg;rw [Bool.and_eq_true,List.all_eq_true] at hz
    cases hx with
    | cons h1 h2 =>
     cases h2;obtain ⟨p,ys,rfl,ep,rs⟩:=h1.lstI;obtain rfl:=zlx rs hb;exact znH hc pins s σ w.H _ us Q I r ⟨p,ns,rfl,SqL.of ep,of_decide_eq_true hz.1,fun n hn=>of_decide_eq_true (hz.2 n hn),q _ w (Grow.refl _) (.int _)⟩
   ·cases hg
 ·cases hg
end
end S2
namespace L2
open PySem PySem.Spec PyProof.Rows
section
variable{X:Cx}{e st:Expr}{te ts:TE}{pos p2:Pos}
end
end L2
namespace S2
open PySem PySem.Spec PyProof.Rows L2
def zcD(g g':D->D->Option D)(f h k:Fe):Fe:=fun ρ S=>(f ρ S).bind fun a S1=>(h ρ S1).bind fun b S2=>match (g a b).bind isB with
 | some true=>(k ρ S2).bind fun c S3=>Out.of (g' b c) S3
 | some false=>.ok (.bl false) S2
 | none=>.bad
section
variable{X:Cx}{cl:Cf}{E:St->XK}{a b c e:Expr}{f h k:Fe}{pos:Pos}
theorem ziG{g g':D->D->Option D}{r r':R2}(hr:∀x y H Q,(∃w d e r,w.H=H/\TopV cl w x d/\TopV cl w y e/\g d e=some r/\∀v w',Grow w w'->Shd cl w' v r->Q v w'.H)->r x y H Q)
  (hr':∀x y H Q,(∃w d e r,w.H=H/\TopV cl w x d/\TopV cl w y e/\g' d e=some r/\∀v w',Grow w w'->Shd cl w' v r->Q v w'.H)->r' x y H Q) {σ:St} {H:Hp} {Q:VK} (q:tE cl E (zcD g g' f h k) σ H Q):zkv r r' (tH cl E f) (tH cl E h) (tH cl E k) σ H Q:=by
 obtain ⟨B,w,ρ,S,rfl,R,q⟩:=q;refine ⟨B,w,ρ,S,rfl,R,?_⟩;unfold zcD at q
 cases hf:f ρ S with
 | bad=>rw [hf] at q;exact q
 | exc c S1=>rw [hf] at q;exact q
 | ok d S1 =>
  rw [hf] at q;intro v w1 R1 F1 h1;refine ⟨B,w1,ρ,S1,rfl,R1,?_⟩;dsimp only [Out.bind] at q
  cases hh:h ρ S1 with
  | bad=>rw [hh] at q;exact q
  | exc c S2=>rw [hh] at q;exact fun w2 R2 F2=>q w2 R2 (F1.trans F2)
  | ok e S2 =>
   rw [hh] at q;intro y w2 R2 F2 h2;dsimp only at q
   cases hg:g d e with
   | none=>rw [hg] at q;exact q.elim
   | some z =>
    rw [hg] at q;dsimp only [Option.bind] at q
    cases hb:isB z with
    | none=>rw [hb] at q;exact q.elim
    | some bb =>
     rw [hb] at q;rw [zds hb] at hg;refine hr _ _ _ _ ⟨w2,d,e,_,rfl,(h1.up F2).top R2,h2.top R2,hg,fun v' w3 gr sh=>⟨bb,zg3 sh,?_⟩⟩;have R3:=R2.grow gr
     cases bb with
     | false=>exact znj (q _ w3 R3 (F1.trans (F2.trans gr.fut)) (.bl _))
     | true =>
      refine zni ⟨B,w3,ρ,S2,rfl,R3,?_⟩;dsimp only at q
      cases hk:k ρ S2 with
      | bad=>rw [hk] at q;exact q
      | exc c S3=>rw [hk] at q;exact fun w4 R4 F4=>q w4 R4 (F1.trans (F2.trans (gr.fut.trans F4)))
      | ok c S3 =>
       rw [hk] at q;intro z' w4 R4 F4 h4;dsimp only at q
       cases hg':g' e c with
       | none=>rw [hg'] at q;exact q.elim
       | some r2 =>
        rw [hg'] at q;exact hr' _ _ _ _ ⟨w4,e,c,r2,rfl,(h2.up (gr.fut.trans F4)).top R4,h4.top R4,hg',fun v' w5 gr5 sh5=>q v' w5 (R4.grow gr5) (F1.trans (F2.trans (gr.fut.trans (F4.trans gr5.fut)))) sh5⟩
theorem zmw{op op':CmpOp}{g g':D->D->Option D}(ho:OpD X cl (compareOp op) g)(ho':OpD X cl (compareOp op') g')(ha:PE X a (tH cl E f))(hb:PE X b (tH cl E h))(hc:PE X c (tH cl E k))(hm:lastMarks [op,op'] [b,c]=false):PE X (.Compare a [op,op'] [b,c] pos) (tE cl E (zcD g g' f h k)) :=
 PE.imp (zmS ho ho' ha hb hc hm) fun _ _ _ q=>ziG (fun _ _ _ _ z=>z) (fun _ _ _ _ z=>z) q
theorem zmp{op op':CmpOp}{g g':D->D->Option D}(ho:OpD X cl (compareOp op) g)(ho':OpD X cl (compareOp op') g')(ha:PE X a (tH cl E f))(hb:PE X b (tH cl E h))(hc:PE X c (tH cl E k))(hm:lastMarks [op,op'] [b,c]=false):PT X (.Compare a [op,op'] [b,c] pos) (tTr cl E (zcD g g' f h k)) :=
 PT.imp (zmH ho ho' ha hb hc hm) fun _ _ _ q=>ziG (fun _ _ _ _ z=>z) (fun _ _ _ _ z=>z) (ziF q)
def zev{α:Type}(l:List α)(lo hi:Option Int):List α:=(l.drop (HT.sIx l.length 0 lo)).take (HT.sIx l.length l.length hi-HT.sIx l.length 0 lo)
def slD(d:D)(lo hi:Option Int):Option D:=match d with
 | .lst l=>some (.lst (zev l lo hi))
 | .tup l=>some (.tup (zev l lo hi))
 | _=>none
def zc6(o:Option Fe)(ρ:Env)(S:Sto):Out (Option Int):=match o with
 | none=>.ok none S
 | some f=>(f ρ S).bind fun d S1=>match d with | .int i=>.ok (some i) S1 | _=>.bad
def eSl(f:Fe)(lo hi:Option Fe):Fe:=fun ρ S=>(f ρ S).bind fun d S1=>(zc6 lo ρ S1).bind fun l S2=>(zc6 hi ρ S2).bind fun u S3=>Out.of (slD d l u) S3
theorem zhA{w:Wd}{xs:List V}{ds:List D}(r:Shds cl w xs ds)(lo hi:Option Int):Shds cl w (zos xs lo hi) (zev ds lo hi):=by
 unfold zos zev;rw [r.length];exact (r.drop _).take _
def SlD(X:Cx)(cl:Cf):Prop:=SlR X fun x lo hi H Q=>∃w d r,w.H=H/\TopV cl w x d/\slD d lo hi=some r/\∀v w',Grow w w'->Shd cl w' v r->Q v w'.H
theorem zuq:SlD X cl:=by
 intro pins s σ H x v vl vu lo hi sl Q I rx hs pl pu h;obtain ⟨w,d,r,rfl,hx,hg,q⟩:=h;unfold slD at hg;split at hg
 ·rename_i l;cases hg;obtain ⟨p,xs,rfl,ep,rs⟩:=hx.lstI;exact zoV pins s σ w.H _ v vl vu lo hi sl Q I rx hs pl pu ⟨p,xs,rfl,SqL.of ep,fun p' hp=>q _ (w.add p' _) (zaI hp _) (Shd.newL hp (zhA rs lo hi))⟩
 ·rename_i l;cases hg;obtain ⟨p,xs,rfl,ep,kp,rs⟩:=hx.tupI
  by_cases hw:HT.sIx xs.length 0 lo=0/\HT.sIx xs.length xs.length hi=xs.length
  ·refine zjB pins s σ w.H _ v vl vu lo hi sl Q I rx hs pl pu ⟨p,xs,rfl,SqT.of ep,hw.1,hw.2,q _ w (Grow.refl _) (.tup ep kp ?_)⟩
   have:zev l lo hi=l:=by
    unfold zev;rw [<-rs.length,hw.1,hw.2,List.drop_zero,Nat.sub_zero,List.take_of_length_le (by rw [rs.length];exact Nat.le_refl _)]
   rw [this];exact rs
  ·exact zrf pins s σ w.H _ v vl vu lo hi sl Q I rx hs pl pu ⟨p,xs,rfl,SqT.of ep,hw,fun p' hp=>q _ (w.add p' _) (zaI hp _) (Shd.newT hp (zhA rs lo hi))⟩
 ·cases hg
def ztj(cl:Cf)(E:St->XK)(o:Option Fe):TO:=match o with | none=>zku | some f=>zqU (tH cl E f)
theorem zro{lo hi:Option Expr}{fl fh:Option Fe}{p2:Pos}(he:PE X e (tH cl E f))(hl:PO X lo (ztj cl E fl))(hu:PO X hi (ztj cl E fh)):PE X (.Subscript e (.Slice lo hi none p2) pos) (tE cl E (eSl f fl fh)):=by
 refine PE.imp (zmP (zuq (cl:=cl)) he hl hu) ?_;rintro σ H Q ⟨B,w,ρ,S,rfl,R,q⟩;refine ⟨B,w,ρ,S,rfl,R,?_⟩;unfold eSl at q
 cases hf:f ρ S with
 | bad=>rw [hf] at q;exact q
 | exc c S1=>rw [hf] at q;exact q
 | ok d S1 =>
  rw [hf] at q;intro v w1 R1 F1 h1;dsimp only [Out.bind] at q
  have last:∀(l u:Option Int) (w3:Wd) (S3:Sto),Rel cl B σ w3 ρ S3->Fut w1 w3->(match Out.of (slD d l u) S3 with
    | .ok d S'=>∀v w',Rel cl B σ w' ρ S'->Fut w w'->Shd cl w' v d->Q v w'.H
    | .exc c S'=>∀w',Rel cl B σ w' ρ S'->Fut w w'->E σ (.ref (cl c)) none w'.H
    | .bad=>False)->∃w d r,w.H=w3.H/\TopV cl w v d/\slD d l u=some r/\∀v w',Grow w w'->Shd cl w' v r->Q v w'.H:=by
   intro l u w3 S3 R3 F3 q3
   cases hg:slD d l u with
   | none=>rw [hg] at q3;exact q3.elim
   | some r =>
    rw [hg] at q3;exact ⟨w3,d,r,rfl,(h1.up F3).top R3,hg,fun v' w' gr sh=>q3 v' w' (R3.grow gr) (F1.trans (F3.trans gr.fut)) sh⟩
  have second:∀(l:Option Int) (w2:Wd) (S2:Sto),Rel cl B σ w2 ρ S2->Fut w1 w2->(match (zc6 fh ρ S2).bind fun u S3=>Out.of (slD d l u) S3 with
    | .ok d S'=>∀v w',Rel cl B σ w' ρ S'->Fut w w'->Shd cl w' v d->Q v w'.H
    | .exc c S'=>∀w',Rel cl B σ w' ρ S'->Fut w w'->E σ (.ref (cl c)) none w'.H
    | .bad=>False)->ztj cl E fh σ w2.H fun u H3=>∃w d r,w.H=H3/\TopV cl w v d/\slD d l u=some r/\∀v w',Grow w w'->Shd cl w' v r->Q v w'.H:=by
   intro l w2 S2 R2 F2 q2
   cases fh with
   | none=>exact last l none w2 S2 R2 F2 q2
   | some fh =>
    refine ⟨B,w2,ρ,S2,rfl,R2,?_⟩;unfold zc6 at q2;dsimp only at q2
    cases hh:fh ρ S2 with
    | bad=>rw [hh] at q2;exact q2
    | exc c S3=>rw [hh] at q2;exact fun w3 R3 F3=>q2 w3 R3 (F1.trans (F2.trans F3))
    | ok dh S3 =>
     rw [hh] at q2;intro y w3 R3 F3 h3;dsimp only [Out.bind] at q2
     cases dh with
     | int i =>
      refine ⟨i,(h3.top R3).intI,?_⟩;exact last l (some i) w3 S3 R3 (F2.trans F3) q2
     | _=>exact q2.elim
  cases fl with
  | none=>exact second none w1 S1 R1 (Fut.refl _) q
  | some fl =>
   refine ⟨B,w1,ρ,S1,rfl,R1,?_⟩;unfold zc6 at q;dsimp only at q
   cases hh:fl ρ S1 with
   | bad=>rw [hh] at q;exact q
   | exc c S3=>rw [hh] at q;exact fun w3 R3 F3=>q w3 R3 (F1.trans F3)
   | ok dl S2 =>
    rw [hh] at q;intro y w2 R2 F2 h2;dsimp only [Out.bind] at q
    cases dl with
    | int i =>
     refine ⟨i,(h2.top R2).intI,?_⟩;exact second (some i) w2 S2 R2 F2 q
    | _=>exact q.elim
def zeM(T:String)(d:D):Option D :=
 if T = "int" then (match d with | .int _=>some (.bl true) | .bl _=>some (.bl true) | .non=>some (.bl false) | .str _=>some (.bl false) | .tup _=>some (.bl false) | .lst _=>some (.bl false) | _=>none)
 else if T = "bool" then (match d with | .int _=>some (.bl false) | .bl _=>some (.bl true) | .non=>some (.bl false) | .str _=>some (.bl false) | .tup _=>some (.bl false) | .lst _=>some (.bl false) | _=>none)
 else if T = "tuple" then (match d with | .int _=>some (.bl false) | .bl _=>some (.bl false) | .non=>some (.bl false) | .str _=>some (.bl false) | .tup _=>some (.bl true) | .lst _=>some (.bl false) | _=>none)
 else if T = "str" then (match d with | .int _=>some (.bl false) | .bl _=>some (.bl false) | .non=>some (.bl false) | .str _=>some (.bl true) | .tup _=>some (.bl false) | .lst _=>some (.bl false) | _=>none)
 else if T = "list" then (match d with | .int _=>some (.bl false) | .bl _=>some (.bl false) | .non=>some (.bl false) | .str _=>some (.bl false) | .tup _=>some (.bl false) | .lst _=>some (.bl true) | _=>none)
 else none
theorem zp1{K:PySem.W.Frag}{w:Wd}{v:V}{d r:D}{T:String}(h:TopV cl w v d)(hg:zeM T d=some r):∃t b,TyOf K w.H v t/\PySem.W.kitOne K t (.type T)=some b/\r=.bl b:=by
 unfold zeM at hg;split at hg
 ·rename_i hT;subst hT
  split at hg<;>cases hg
  ·obtain rfl:=h.intI;exact ⟨_,_,.int _,by with_unfolding_all rfl,rfl⟩
  ·obtain rfl:=h.blI;exact ⟨_,_,.bl _,by with_unfolding_all rfl,rfl⟩
  ·obtain rfl:=h.nonI;exact ⟨_,_,.non,by with_unfolding_all rfl,rfl⟩
  ·obtain rfl:=h.strI;exact ⟨_,_,.str _,by with_unfolding_all rfl,rfl⟩
  ·obtain ⟨_,_,rfl,e,_⟩:=h.tupI;exact ⟨_,_,.tup e,by with_unfolding_all rfl,rfl⟩
  ·obtain ⟨_,_,rfl,e,_⟩:=h.lstI;exact ⟨_,_,.lst e,by with_unfolding_all rfl,rfl⟩
 split at hg
 ·rename_i hT;subst hT
  split at hg<;>cases hg
  ·obtain rfl:=h.intI;exact ⟨_,_,.int _,by with_unfolding_all rfl,rfl⟩
  ·obtain rfl:=h.blI;exact ⟨_,_,.bl _,by with_unfolding_all rfl,rfl⟩
  ·obtain rfl:=h.nonI;exact ⟨_,_,.non,by with_unfolding_all rfl,rfl⟩
  ·obtain rfl:=h.strI;exact ⟨_,_,.str _,by with_unfolding_all rfl,rfl⟩
  ·obtain ⟨_,_,rfl,e,_⟩:=h.tupI;exact ⟨_,_,.tup e,by with_unfolding_all rfl,rfl⟩
  ·obtain ⟨_,_,rfl,e,_⟩:=h.lstI;exact ⟨_,_,.lst e,by with_unfolding_all rfl,rfl⟩
 split at hg
 ·rename_i hT;subst hT
  split at hg<;>cases hg
  ·obtain rfl:=h.intI;exact ⟨_,_,.int _,by with_unfolding_all rfl,rfl⟩
  ·obtain rfl:=h.blI;exact ⟨_,_,.bl _,by with_unfolding_all rfl,rfl⟩
  ·obtain rfl:=h.nonI;exact ⟨_,_,.non,by with_unfolding_all rfl,rfl⟩
  ·obtain rfl:=h.strI;exact ⟨_,_,.str _,by with_unfolding_all rfl,rfl⟩
  ·obtain ⟨_,_,rfl,e,_⟩:=h.tupI;exact ⟨_,_,.tup e,by with_unfolding_all rfl,rfl⟩
  ·obtain ⟨_,_,rfl,e,_⟩:=h.lstI;exact ⟨_,_,.lst e,by with_unfolding_all rfl,rfl⟩
 split at hg
 ·rename_i hT;subst hT
  split at hg<;>cases hg
  ·obtain rfl:=h.intI;exact ⟨_,_,.int _,by with_unfolding_all rfl,rfl⟩
  ·obtain rfl:=h.blI;exact ⟨_,_,.bl _,by with_unfolding_all rfl,rfl⟩
  ·obtain rfl:=h.nonI;exact ⟨_,_,.non,by with_unfolding_all rfl,rfl⟩
  ·obtain rfl:=h.strI;exact ⟨_,_,.str _,by with_unfolding_all rfl,rfl⟩
  ·obtain ⟨_,_,rfl,e,_⟩:=h.tupI;exact ⟨_,_,.tup e,by with_unfolding_all rfl,rfl⟩
  ·obtain ⟨_,_,rfl,e,_⟩:=h.lstI;exact ⟨_,_,.lst e,by with_unfolding_all rfl,rfl⟩
 split at hg
 ·rename_i hT;subst hT
  split at hg<;>cases hg
  ·obtain rfl:=h.intI;exact ⟨_,_,.int _,by with_unfolding_all rfl,rfl⟩
  ·obtain rfl:=h.blI;exact ⟨_,_,.bl _,by with_unfolding_all rfl,rfl⟩
  ·obtain rfl:=h.nonI;exact ⟨_,_,.non,by with_unfolding_all rfl,rfl⟩
  ·obtain rfl:=h.strI;exact ⟨_,_,.str _,by with_unfolding_all rfl,rfl⟩
  ·obtain ⟨_,_,rfl,e,_⟩:=h.tupI;exact ⟨_,_,.tup e,by with_unfolding_all rfl,rfl⟩
  ·obtain ⟨_,_,rfl,e,_⟩:=h.lstI;exact ⟨_,_,.lst e,by with_unfolding_all rfl,rfl⟩
 ·cases hg
theorem zhE:bootBuiltins "isinstance" = some (.builtin "isinstance"):=by decide +kernel
theorem zo5{T:String}{x:Str}{p p2:Pos}(hg:Gl X "isinstance")(hm:X.mg "isinstance" = none)(hgT:Gl X x)(hmT:X.mg x=none)(hvT:bootBuiltins x=some (.type T))(hn:x ≠ "__name__")(hdb:(x == ("__debug__":Str))=false)(hp:zcm e=true)(he:PE X e (tH cl E f)) :
  PE X (.Call (.Name "isinstance" p) [e,.Name x p2] [] pos) (tE cl E (eUn (zeM T) f)):=by
 refine PE.imp (zgx zit hg hm zhE (zcM he (zcM (zk2 (v:=.ty T) hgT hmT hvT rfl hn hdb) zfb rfl) (zbv hp)) (he:=zbv hp) (hpl:=rfl)) ?_;rintro σ H Q ⟨B,w,ρ,S,rfl,R,q⟩;refine ⟨B,w,ρ,S,rfl,R,?_⟩;unfold eUn at q
 cases hf:f ρ S with
 | bad=>rw [hf] at q;exact q
 | exc c S1=>rw [hf] at q;exact q
 | ok d S1 =>
  rw [hf] at q;intro v w1 R1 F1 h1;dsimp only [Out.bind] at q
  cases hg:zeM T d with
  | none=>rw [hg] at q;exact q.elim
  | some r =>
   rw [hg] at q;obtain ⟨t,b,h2,h3,rfl⟩:=zp1 (K:=X.K) (h1.top R1) hg;exact ⟨v,t,T,b,rfl,h2,h3,q _ w1 R1 F1 (.bl _)⟩
def zaV(f:Fe):Fi:=fun ρ S=>(f ρ S).bind fun d S1=>match d with | .lst l=>.ok l S1 | .tup l=>.ok l S1 | _=>.bad
theorem zrh{tg:Expr}(hK:X.K=cl.K)(he:PE X e (tE cl E f)):PI X tg e (tI cl E (zaV f)):=by
 intro pins s σ H R' I q;obtain ⟨B,w,ρ,S,rfl,R,q⟩:=q;unfold zaV at q
 cases hf:f ρ S with
 | bad=>rw [hf] at q;exact q.elim
 | exc c S1 =>
  refine zky he pins s σ w.H R' I ⟨B,w,ρ,S,rfl,R,?_⟩;unfold zjh;rw [hf] at q ⊢;exact q
 | ok d S1 =>
  rw [hf] at q;dsimp only [Out.bind] at q
  cases d with
  | lst l =>
   refine zky he pins s σ w.H R' I ⟨B,w,ρ,S,rfl,R,?_⟩;unfold zjh;rw [hf];exact q
  | tup l =>
   refine zrg he pins s σ w.H R' I ⟨B,w,ρ,S,rfl,R,?_⟩;unfold zim;rw [hf];exact q
  | _=>exact q.elim
end
end S2
namespace L2
open PySem PySem.Spec PyProof.Rows
section
variable{prog:Program}{w:World}{A:Around}{E:Z5}{s:Shared}
end
end L2
namespace L2
open PySem PySem.Spec PyProof.Rows
section
variable{X:Cx}{pins:Z3}{σ:St}{H:Hp}{s:Shared}
end
end L2
namespace PySem.F
end PySem.F
namespace L2
open PySem PySem.Spec PyProof.Rows
section
variable{prog:Program}{w:World}{A:Around}{E:Z5}{s:Shared}
end
section
variable{X:Cx}{pins:Z3}{σ:St}{H:Hp}{s:Shared}
end
end L2
namespace S2
open PySem PySem.Spec PyProof.Rows L2
section
variable{X:Cx}{cl:Cf}{E:St->XK}{e tg:Expr}{f:Fe}{own:Bool}{pos pos':Pos}
def zyt:List D->Option D | [.int i,.int j]=>some (.int (if j<i then j else i)) | _=>none
def zbw(l:List D):List D:=l.zipIdx.map fun p=>.tup [.int p.2,p.1]
theorem zcC(l:List D):(zbw l).length=l.length:=by unfold zbw;rw [List.length_map,List.length_zipIdx]
theorem zdi{l:List D}{i:Nat}{d:D}(h:(zbw l)[i]?=some d):∃y,l[i]?=some y/\d=.tup [.int i,y]:=by
 unfold zbw at h;rw [List.getElem?_map,List.getElem?_zipIdx] at h
 cases hl:l[i]? with
 | none=>rw [hl] at h;cases h
 | some y =>
  rw [hl] at h;refine ⟨y,rfl,?_⟩;have:=Option.some.inj h;rw [<-this];simp
def zgG(f:Fe):Fi:=fun ρ S=>(zan [f] ρ S).bind fun ds S1=>match ds with | [.lst l]=>.ok (zbw l) S1 | [.tup l]=>.ok (zbw l) S1 | _=>.bad
theorem zol{S:Hp->Addr->List V->Prop}{w:Wd}{a:Addr}{xs:List V}{l:List D}(hS:∀w',Fut w w'->S w'.H a xs)(r:Shds cl w xs l):ItOk cl w (ItE S a) (zbw l):=by
 have hl:=r.length;have hel:=zcC l;refine ⟨fun w1 F1 i hi=>⟨xs,xs[i]'(by omega),hS w1 F1,List.getElem?_eq_getElem (by omega)⟩,fun w1 F1=>⟨xs,hS w1 F1,by omega⟩,fun w1 F1 i d x H1 hd y=>?_⟩;obtain ⟨t,v,rfl,ht,rfl,hy⟩:=y;obtain ⟨z,hz,rfl⟩:=zdi hd;have hv:=hy xs (hS w1 F1);obtain ⟨d',e1,e2⟩:=r.get hv;rw [hz] at e1;cases e1;exact ⟨w1.add t _,rfl,zaI ht _,Shd.newT ht (.cons (.int _) (.cons (e2.up F1) .nil))⟩
theorem zoZ{es:List Expr}{kk:Nat}{tp p:Pos}(hg:Gl X "enumerate")(hm:X.mg "enumerate" = none)(ha:PA X [e] (tAs cl E [f]))(hs:starEach [e] X.env=[(false,eval e X.env)]):PI X (.Tuple es kk tp) (.Call (.Name "enumerate" p) [e] [] pos) (tI cl E (zgG f)):=by
 intro pins s σ H R' I q;obtain ⟨B,w,ρ,S,rfl,R,q⟩:=q;unfold zgG at q;have L:=zmN (elts:=es) (x1:=kk) (tp:=tp) (p:=p) (pos:=pos) hg hm ha rfl hs pins s σ w.H R' I;have T:=zmM (elts:=es) (x1:=kk) (tp:=tp) (p:=p) (pos:=pos) hg hm ha rfl hs pins s σ w.H R' I
 cases hf:zan [f] ρ S with
 | bad=>rw [hf] at q;exact q.elim
 | exc c S1 =>
  refine L ⟨B,w,ρ,S,rfl,R,?_⟩;rw [hf] at q ⊢;exact q
 | ok ds S1 =>
  rw [hf] at q;dsimp only [Out.bind] at q;split at q
  ·rename_i l' S' hm';split at hm'
   ·rename_i l;cases hm';refine L ⟨B,w,ρ,S,rfl,R,?_⟩;rw [hf];intro vs w' R2 F2 sh
    cases sh with
    | cons h1 h2 =>
     cases h2
     cases h1 with
     | lst ep k r=>exact ⟨_,rfl,⟨_,SqL.of ep⟩,q _ w' R2 F2 (zol (fun w1 F1=>SqL.of (F1.keep _ _ ep k).1) r)⟩
   ·rename_i l;cases hm';refine T ⟨B,w,ρ,S,rfl,R,?_⟩;rw [hf];intro vs w' R2 F2 sh
    cases sh with
    | cons h1 h2 =>
     cases h2
     cases h1 with
     | tup ep k r=>exact ⟨_,rfl,⟨_,SqT.of ep⟩,q _ w' R2 F2 (zol (fun w1 F1=>SqT.of (F1.keep _ _ ep k).1) r)⟩
   ·cases hm'
  ·rename_i hm';split at hm'<;>cases hm'
  ·exact q.elim
def ze6(j c:Int):List D:=(List.range ((j+c-1) / c).toNat).map fun (i:Nat)=>.int (i*c)
def zlO(f g h:Fe):Fi:=fun ρ S=>(zan [f,g,h] ρ S).bind fun ds S1=>match ds with | [.int i,.int j,.int c]=>if i=0/\0<=j/\j<=1000/\1<=c/\c<=1000 then .ok (ze6 j c) S1 else .bad | _=>.bad
theorem zsD{w:Wd}{j c:Int}:ItOk cl w (Itq 0 c ((j+c-1) / c).toNat) (ze6 j c):=by
 have hl:(ze6 j c).length=((j+c-1) / c).toNat:=by unfold ze6;rw [List.length_map,List.length_range]
 refine ⟨fun w1 F1 i h=>by rw [hl] at h;exact h,fun w1 F1=>by rw [hl];exact Nat.le_refl _,fun w1 F1 i d x H1 hd y=>?_⟩;obtain ⟨rfl,rfl⟩:=y;unfold ze6 at hd;rw [List.getElem?_map] at hd
 cases hr:(List.range ((j+c-1) / c).toNat)[i]? with
 | none=>rw [hr] at hd;cases hd
 | some k =>
  rw [hr] at hd;have:=(List.getElem?_eq_some_iff.mp hr).2;rw [List.getElem_range] at this;subst this;cases hd;refine ⟨w1,rfl,Grow.refl _,?_⟩;rw [Int.zero_add];exact .int _
theorem zoW{a b:Expr}{fa fb:Fe}{p:Pos}(hg:Gl X "range")(hm:X.mg "range" = none)(ha:PA X [a,b,e] (tAs cl E [fa,fb,f]))(hs:starEach [a,b,e] X.env=(false,eval a X.env)::starEach [b,e] X.env)(hs2:(backTo pos (starEach [b,e] X.env)).any (·.1)=false):PI X tg (.Call (.Name "range" p) [a,b,e] [] pos) (tI cl E (zlO fa fb f)):=by
 refine PI.imp (zkS hg hm ha hs hs2) ?_;rintro σ H Q ⟨B,w,ρ,S,rfl,R,q⟩;refine ⟨B,w,ρ,S,rfl,R,?_⟩;unfold zlO at q
 cases hf:zan [fa,fb,f] ρ S with
 | bad=>rw [hf] at q;exact q
 | exc c S1=>rw [hf] at q;exact q
 | ok ds S1 =>
  rw [hf] at q;intro vs w' R' F' h';dsimp only [Out.bind] at q;split at q
  ·rename_i ds' S' hm';split at hm'
   ·rename_i i j c;split at hm'
    ·rename_i hb;obtain ⟨rfl,h1,h2,h3,h4⟩:=hb;cases hm'
     cases h' with
     | cons a1 a2=>cases a1;cases a2 with
      | cons b1 b2=>cases b1;cases b2 with
       | cons c1 c2 =>
        cases c1;cases c2;exact ⟨j,c,rfl,h1,h2,h3,h4,q _ w' R' F' zsD⟩
    ·cases hm'
   ·cases hm'
  ·rename_i hm';split at hm'<;>first | (split at hm'<;>cases hm') | cases hm'
  ·exact q.elim
def zqD(i:Nat)(fe:Fe):Fs:=fun ρ S=>match ρ[i]? with
 | some (some (true,.lst l))=>(match fe ρ S with
  | .ok (.lst k) S'=>if small (l.length+k.length) then .nx (ρ.set i (some (true,.lst (l++k)))) S' else .bad
  | .ok _ _=>.bad
  | .exc c S'=>.ex c ρ S' | .bad=>.bad)
 | _=>.bad
theorem zq9{i:Nat}{x:Str}{ap cp:Pos}(hN:X.N[i]?=some x)(hv:Vis X.env.scope x)(hd:(x == ("__debug__":Str))=false)(hcd:(x == ("__classdict__":Str))=false)(he:PE X e (tH cl E f))
  (hpl:zcm e=true) (hln:(ap.endLine == cp.line)=true):PS X (.Expr (.Call (.Attribute (.Name x pos') "extend" ap) [e] [] cp) pos) (tS cl E own (zqD i f)):=by
 refine PS.imp (zh1 (zps (es:=[]) PySem.F.plainAttrs_list PySem.F.slot_list_extend PySem.F.type_list_extend zlb (zcz hN hv hd hcd) (zcM he zfb (zbv hpl)) (hfew:=zlL (by simp [hpl]) (by simp)) (hline:=hln) (hs:=zbv hpl) (hplain:=rfl))) ?_;rintro De σ H ⟨B,w,ρ,S,rfl,R,q⟩;unfold zqD at q;split at q
 ·rename_i l hl;obtain ⟨a,xs,e1,h1,h2,t⟩:=R.list hl;refine ⟨_,e1,.inl ⟨rfl,_,SqL.of h2⟩,B,w,ρ,S,rfl,R,?_⟩
  cases hf:f ρ S with
  | bad=>rw [hf] at q;exact q
  | exc c S1=>rw [hf] at q;exact fun w' R' F'=>q σ w' R' F'
  | ok d S1 =>
   rw [hf] at q;intro v w' R' F' h'
   cases d with
   | lst k =>
    dsimp only at q
    cases hz:small (l.length+k.length) with
    | false=>rw [hz,if_neg (by decide)] at q;exact q.elim
    | true =>
     rw [hz,if_pos rfl] at q;obtain ⟨a',xs',e1',h1',h2',t'⟩:=R'.list hl;rw [e1] at e1';cases e1';obtain ⟨b,zs,rfl,eb,rb⟩:=(h'.top R').lstI;refine ⟨a,b,xs',zs,rfl,rfl,h2',eb,by rw [t'.length,rb.length];exact za7 hz,?_⟩;exact q σ (w'.mut a (.lst (xs'++zs))) (R'.mut (d0:=.non) e1 h1' (.lst (t'.append rb))) (F'.trans (zer (by rw [h1'];exact Option.some_ne_none _)))
   | _=>exact q.elim
 ·exact q.elim
end
end S2
namespace S2
open PySem PySem.Spec PyProof.Rows L2
section
variable{X:Cx}{cl:Cf}{E:St->XK}{e:Expr}{f:Fe}{pos':Pos}
def eMt(g:List D->D->Option D)(i:Nat)(f:Fe):Fe:=fun ρ S=>match ρ[i]? with | some (some (_,.lst l))=>(f ρ S).bind fun d S1=>Out.of (g l d) S1 | _=>.bad
def zdj(l:List D)(d:D):Option D:=if d.fit 8&&D.fits 8 l then some (.int ((l.countP (zeK · d):Nat):Int)) else none
def zf6(l:List D)(d:D):Option D:=if d.fit 8&&D.fits 8 l&&decide (l.length<=1000000)&&zh6 d l then some (.int ((l.findIdx (zeK · d):Nat):Int)) else none
theorem Rel.lstAny{B:Base}{σ:St}{w:Wd}{ρ:Env}{S:Sto}{i:Nat}{o:Bool}{l:List D}(R:Rel cl B σ w ρ S)(h:ρ[i]?=some (some (o,.lst l))):∃a xs,σ[i]?=some (some (.ref a))/\w.H a=some (.lst xs)/\Shds cl w xs l:=by
 cases o with
 | true=>obtain ⟨a,xs,e1,_,h2,t⟩:=R.list h;exact ⟨a,xs,e1,h2,t⟩
 | false =>
  obtain ⟨v,e1,sh⟩:=R.slots i false _ h
  cases sh with
  | lst ep k r=>exact ⟨_,_,e1,ep,r⟩
def MtB(X:Cx)(cl:Cf)(id:String)(g:List D->D->Option D):Prop:=MtM X id fun x vs H Q=>∃(a:Addr) (xs:List V) (l:List D) (w:Wd) (d:D) (v:V) (r:Int),w.H=H/\x=.ref a/\vs=[v]/\w.H a=some (.lst xs)/\Shds cl w xs l/\TopV cl w v d/\g l d=some (.int r)/\Q (.int r) H
theorem zeH{s:Shared}{d:D}:∀{its:List Value} {ds:List D} {as:List Addr},ReadsAll s.heap its (D.pys ds) as->D.fits 8 ds=true->its.countP (fun y=>(SeqAt.readOf s.heap y).eqv d.py)=ds.countP (zeK · d)
 | [],[],_,_,_=>rfl
 | [],_::_,_,h,_=>by cases h
 | _::_,[],_,h,_=>by cases h
 | v::its,e::ds,_,h,f=>by
  simp only [D.fits,Bool.and_eq_true] at f
  cases h with
  | cons h1 h2 =>
   rw [List.countP_cons,List.countP_cons,zeH h2 f.2,zh0 (D.lay f.1).1 h1];rfl
theorem zeo{s:Shared}{d:D}:∀{its:List Value} {ds:List D} {as:List Addr},ReadsAll s.heap its (D.pys ds) as->D.fits 8 ds=true->∀(m:Nat) (hm:m<its.length),∃e,ds[m]?=some e/\(SeqAt.readOf s.heap its[m]).eqv d.py=zeK e d
 | [],_,_,_,_,m,hm=>by simp at hm
 | _::_,[],_,h,_,_,_=>by cases h
 | v::its,e::ds,_,h,f,m,hm=>by
  simp only [D.fits,Bool.and_eq_true] at f
  cases h with
  | cons h1 h2 =>
   cases m with
   | zero=>exact ⟨e,rfl,by show (SeqAt.readOf s.heap v).eqv d.py=_;rw [zh0 (D.lay f.1).1 h1];rfl⟩
   | succ m =>
    obtain ⟨e',h3,h4⟩:=zeo h2 f.2 m (by simpa using hm);exact ⟨e',by simpa using h3,by simpa using h4⟩
theorem zfY{s:Shared}:∀{its:List Value} {ds:List D} {as:List Addr},ReadsAll s.heap its (D.pys ds) as->its.length=ds.length
 | [],[],_,_=>rfl
 | [],_::_,_,h=>by cases h
 | _::_,[],_,h=>by cases h
 | _::its,_::ds,_,h=>by
  cases h with
  | cons _ h2=>rw [List.length_cons,List.length_cons,zfY h2]
theorem zm5(hK:X.K=cl.K)(hu:X.A.units+64<cLine):MtB X cl "list.count" zdj:=by
 intro pins s σ H x vs v us Q I rx rv h;obtain ⟨a,xs,l,w,d,v',r,rfl,rfl,rfl,hH,sh,tv,hg,q⟩:=h;unfold zdj at hg;split at hg
 ·rename_i hf;cases hg;rw [Bool.and_eq_true] at hf;cases rx;obtain ⟨u,rfl,ru⟩:=rv.one;obtain ⟨bs,rb⟩:=zhc I hK tv hf.1 ru;obtain ⟨z,its,n,r,hl,e⟩:=I.lstM hH;obtain ⟨as,ra⟩:=zdC I hK sh hf.2 r;refine call_meets F.slot_list_count ⟨_,e,rfl⟩ F.entry_list_count (F.args_list_count_2 _ _) (SeqAt.list_countAt a _ n none #[] u (fun y=>(SeqAt.readOf s.heap y).eqv d.py)) ⟨e,fun y hy=>zb8 hu rb hf.1 ra hf.2 y hy,?_⟩;rw [zeH ra hf.2];exact ⟨.int _,w.H,I.tok _,⟨_,rfl⟩,q⟩
 ·cases hg
theorem zm4(hK:X.K=cl.K)(hu:X.A.units+64<cLine):MtB X cl "list.index" zf6:=by
 intro pins s σ H x vs v us Q I rx rv h;obtain ⟨a,xs,l,w,d,v',r,rfl,rfl,rfl,hH,sh,tv,hg,q⟩:=h;unfold zf6 at hg;split at hg
 ·rename_i hf;cases hg;simp only [Bool.and_eq_true,decide_eq_true_eq] at hf;obtain ⟨⟨⟨f1,f2⟩,f3⟩,f4⟩:=hf;cases rx;obtain ⟨u,rfl,ru⟩:=rv.one;obtain ⟨bs,rb⟩:=zhc I hK tv f1 ru;obtain ⟨z,its,n,r,hl,e⟩:=I.lstM hH;obtain ⟨as,ra⟩:=zdC I hK sh f2 r;have hlen:=zfY ra
  have hlt:l.findIdx (zeK · d)<l.length:=by
   rw [List.findIdx_lt_length];unfold zh6 at f4;rw [List.any_eq_true] at f4;exact f4
  refine call_meets F.slot_list_index ⟨_,e,rfl⟩ F.entry_list_index (F.args_list_index_2 _ _) (SeqAt.list_indexAt a _ n none #[] u (fun y=>(SeqAt.readOf s.heap y).eqv d.py) (l.findIdx (zeK · d)) (by rw [List.size_toArray];omega) (by omega) ?_ ?_) ⟨e,fun y hy=>zb8 hu rb f1 ra f2 y hy,?_⟩
  ·obtain ⟨e',h1,h2⟩:=zeo (d:=d) ra f2 (l.findIdx (zeK · d)) (by omega);simp only [List.getElem_toArray];rw [h2];rw [List.getElem?_eq_getElem hlt] at h1;cases h1;exact List.findIdx_getElem (w:=hlt)
  ·intro m hm hmj
   have lm:m<its.length:=by rw [List.size_toArray] at hm;exact hm
   obtain ⟨e',h1,h2⟩:=zeo (d:=d) ra f2 m lm;simp only [List.getElem_toArray];rw [h2];rw [List.getElem?_eq_getElem (by omega)] at h1;cases h1;exact List.not_of_lt_findIdx hmj
  ·exact ⟨.int _,w.H,I.tok _,⟨_,rfl⟩,q⟩
 ·cases hg
theorem zrr{i:Nat}{x name:Str}{id:String}{g:List D->D->Option D}{ap cp:Pos}(slot:Slot "list" name id)(hty:typeOf (.builtin id)=pure (.type "method_descriptor"))(hm:MtB X cl id g)(hgb:∀l d r,g l d=some r->∃n,r=.int n)
  (hN:X.N[i]?=some x) (hv:Vis X.env.scope x) (hd:(x == ("__debug__":Str))=false) (hcd:(x == ("__classdict__":Str))=false) (he:PE X e (tH cl E f)) (hpl:zcm e=true) (hln:(ap.endLine == cp.line)=true) :
  PE X (.Call (.Attribute (.Name x pos') name ap) [e] [] cp) (tE cl E (eMt g i f)):=by
 refine PE.imp (zps (es:=[]) PySem.F.plainAttrs_list slot hty hm (zcz hN hv hd hcd) (zkz he zn0 (zbv hpl)) (hfew:=zlL (by simp [hpl]) (by simp)) (hline:=hln) (hs:=zbv hpl) (hplain:=rfl)) ?_;rintro σ H Q ⟨B,w,ρ,S,rfl,R,q⟩
 have key:(∃o l,ρ[i]?=some (some (o,.lst l)))\/eMt g i f ρ S=.bad:=by
  unfold eMt;split
  ·rename_i o l hl;exact .inl ⟨o,l,hl⟩
  ·exact .inr rfl
 rcases key with ⟨o,l,hl⟩ | hb
 ·have e':eMt g i f ρ S=(f ρ S).bind fun d S1=>Out.of (g l d) S1:=by unfold eMt;rw [hl]
  rw [e'] at q;obtain ⟨a,xs,e1,h2,t⟩:=R.lstAny hl;refine ⟨_,e1,.inl ⟨rfl,_,SqL.of h2⟩,B,w,ρ,S,rfl,R,?_⟩
  cases hf:f ρ S with
  | bad=>rw [hf] at q;exact q.elim
  | exc c S1 =>
   rw [hf] at q;simp only [zan,hf,Out.bind];exact q
  | ok d S1 =>
   rw [hf] at q;simp only [zan,hf,Out.bind];intro vs w' R' F' sh;dsimp only [Out.bind] at q
   cases hg:g l d with
   | none=>rw [hg] at q;exact q.elim
   | some r =>
    rw [hg] at q;obtain ⟨n,rfl⟩:=hgb l d r hg;obtain ⟨a',xs',e1',h2',t'⟩:=R'.lstAny hl;rw [e1] at e1';cases e1'
    cases sh with
    | cons h1 hn =>
     cases hn;exact ⟨a,xs',l,w',d,_,n,rfl,rfl,rfl,h2',t',h1.top R',hg,q _ w' R' F' (.int _)⟩
 ·rw [hb] at q;exact q.elim
end
end S2
namespace S2
open PySem PySem.Spec PyProof.Rows L2
def zls(g:Str->Str->Option Bool)(C:Str):D->Option D
 | .exc c=>(g c C).map .bl
 | _=>none
def zsU(cl:Cf)(C:Str):Value:=if C = "ValueError" then .type "ValueError" else .ref (cl C)
section
variable{X:Cx}{cl:Cf}{E:St->XK}{own:Bool}{e:Expr}{f fe:Fe}{pos pos':Pos}
theorem Shd.excI{w:Wd}{v:V}{c:Str}(h:Shd cl w v (.exc c)):∃a ob,v=.ref a/\w.H a=some (.frz ob (.own a))/\ob.cls=.ref (cl c):=by
 cases h with
 | exc h1 _ h2=>exact ⟨_,_,rfl,h1,h2⟩
theorem TopV.excI{w:Wd}{v:V}{c:Str}(h:TopV cl w v (.exc c)):∃a ob,v=.ref a/\w.H a=some (.frz ob (.own a))/\ob.cls=.ref (cl c):=by
 cases h with
 | sh h=>exact h.excI
 | ow _ t=>cases t
theorem zj4:bootBuiltins "ValueError" = some (.type "ValueError"):=by decide +kernel
theorem zn1{g:Str->Str->Option Bool}{C:Str}{vC:V}{p p2:Pos}(hg:Gl X "isinstance")(hm:X.mg "isinstance" = none)(hC:PE X (.Name C p2) (tC vC))(hv:∀u,zbx vC u->u=zsU cl C)
  (hk:∀c b,g c C=some b->PySem.W.ExcCls X.K (cl c)/\PySem.W.kitOne X.K (.ref (cl c)) (zsU cl C)=some b) (hp:zcm e=true) (he:PE X e (tH cl E f)) :
  PE X (.Call (.Name "isinstance" p) [e,.Name C p2] [] pos) (tE cl E (eUn (zls g C) f)):=by
 refine PE.imp (zgx zj3 hg hm zhE (zcM he (zcM hC zfb rfl) (zbv hp)) (he:=zbv hp) (hpl:=rfl)) ?_;rintro σ H Q ⟨B,w,ρ,S,rfl,R,q⟩;refine ⟨B,w,ρ,S,rfl,R,?_⟩;unfold eUn at q
 cases hf:f ρ S with
 | bad=>rw [hf] at q;exact q
 | exc c S1=>rw [hf] at q;exact q
 | ok d S1 =>
  rw [hf] at q;intro v w1 R1 F1 h1;dsimp only [Out.bind] at q
  cases d with
  | exc c =>
   dsimp only [zls] at q
   cases hb:g c C with
   | none=>rw [hb] at q;exact q.elim
   | some b =>
    rw [hb] at q;obtain ⟨k1,k2⟩:=hk c b hb;obtain ⟨a,ob,rfl,h2,h3⟩:=(h1.top R1).excI;exact ⟨a,_,ob,vC,_,b,rfl,h2,h3,k1,hv,k2,q _ w1 R1 F1 (.bl _)⟩
  | _=>exact q.elim
def OpN(X:Cx)(cl:Cf)(op:Value->Value->Sem Value)(g:D->D->Option D):Prop:=OpR X op fun x y H Q=>∃w d e r,w.H=H/\TopV cl w x d/\TopV cl w y e/\g d e=some r/\∀p o w',Grow w w'->w'.H p=none->Top cl w' o r->Q (.ref p) (upd w'.H p o)
theorem zx5{a b:Expr}{h:Fe}{gg:D->D->Option D}{r2:R2}(hr:∀x y H Q,(∃w d e r,w.H=H/\TopV cl w x d/\TopV cl w y e/\gg d e=some r/\∀p o w',Grow w w'->w'.H p=none->Top cl w' o r->Q (.ref p) (upd w'.H p o))->r2 x y H Q)(σ:St)(H:Hp)(Q:VK)(q:tN cl E (zaf gg f h) σ H Q):tOp r2 (tH cl E f) (tH cl E h) σ H Q:=by
 obtain ⟨B,w,ρ,S,rfl,R,q⟩:=q;refine ⟨B,w,ρ,S,rfl,R,?_⟩;unfold zaf at q
 cases hf:f ρ S with
 | bad=>rw [hf] at q;exact q
 | exc c S1=>rw [hf] at q;exact q
 | ok d S1 =>
  rw [hf] at q;intro v w1 R1 F1 h1;refine ⟨B,w1,ρ,S1,rfl,R1,?_⟩;dsimp only [Out.bind] at q
  cases hh:h ρ S1 with
  | bad=>rw [hh] at q;exact q
  | exc c S2=>rw [hh] at q;exact fun w2 R2 F2=>q w2 R2 (F1.trans F2)
  | ok e S2 =>
   rw [hh] at q;intro y w2 R2 F2 h2;dsimp only at q
   cases hg:gg d e with
   | none=>rw [hg] at q;exact q.elim
   | some r =>
    rw [hg] at q;exact hr _ _ _ _ ⟨w2,d,e,r,rfl,(h1.up F2).top R2,h2.top R2,hg,fun p o w' gr hp t=>q p o w' (R2.grow gr) (F1.trans (F2.trans gr.fut)) hp t⟩
def zjL:D->D->Option D
 | .lst a,.int j=>if decide (0<=j/\j<=1000/\a.length<=1000) then some (.lst (List.replicate j.toNat a).flatten) else none
 | _,_=>none
theorem zpy:OpN X cl (binaryOp .Mult) zjL:=by
 intro pins s σ H x y v u Q I rx ry h;obtain ⟨w,d,e,r,rfl,hx,hy,hg,q⟩:=h;unfold zjL at hg;split at hg
 ·rename_i a j;split at hg
  ·rename_i hz;cases hg;have hz':=of_decide_eq_true hz;obtain ⟨p,xs,rfl,ep,rs⟩:=hx.lstI;obtain rfl:=hy.intI;have hl:=rs.length;refine zoa pins s σ w.H _ _ v u Q I rx ry ⟨p,j,xs,rfl,rfl,ep,by omega,by omega,?_,fun l hl=>q l _ w (Grow.refl _) hl (.lst (rs.flat _))⟩;refine Nat.le_trans (Nat.mul_le_mul (show xs.length<=1000 by omega) (show j.toNat<=1000 by omega)) (by decide)
  ·cases hg
 ·cases hg
theorem zo4{a b:Expr}{h:Fe}(ha:PE X a (tH cl E f))(hb:PE X b (tH cl E h)):PE X (.BinOp a .Mult b pos) (tN cl E (zaf zjL f h)) :=
 PE.imp (zrP zpy ha hb) (zx5 (a:=a) (b:=b) fun _ _ _ _ z=>z)
def zpW:Expr->Bool | .List _ _=>true | _=>false
def zsF:Operator->Bool | .Mult=>true | _=>false
end
end S2
namespace PySem.F
end PySem.F
namespace PySem.F
end PySem.F
namespace L2
open PySem PySem.Spec PyProof.Rows
section
variable{prog:Program}{w:World}{A:Around}{E:Z5}{s:Shared}
end
end L2
namespace L2
open PySem PySem.Spec PyProof.Rows
section
variable{X:Cx}
end
end L2
namespace PySem.F
end PySem.F
namespace L2
open PySem PySem.Spec PyProof.Rows
section
variable{prog:Program}{w:World}{A:Around}{E:Z5}{s:Shared}
end
end L2
namespace L2
open PySem PySem.Spec PyProof.Rows
section
variable{X:Cx}
end
end L2
namespace S2
open PySem PySem.Spec PyProof.Rows L2
section
variable{X:Cx}{cl:Cf}{E:St->XK}{e tg:Expr}{f:Fe}{pos pos':Pos}
end
end S2
namespace S2
open PySem PySem.Spec PyProof.Rows L2
section
variable{X:Cx}{cl:Cf}{E:St->XK}{e:Expr}{f:Fe}{pos:Pos}
end
end S2
namespace S2
open PySem PySem.Spec PyProof.Rows L2
def zaO(f:Str)(o:Bool)(d:D):List (Str×Bool×D)->List (Str×Bool×D)
 | []=>[(f,o,d)]
 | (g,x)::r=>if g=f then (g,o,d)::r else (g,x)::zaO f o d r
def Ob.put(ob:Ob)(f:Str)(o:Bool)(d:D):Ob:=⟨ob.cls,zaO f o d ob.fs⟩
section
variable{cl:Cf}{w:Wd}{n:Nat}
theorem zdy.len{fs:List (Str×V)}{gs:List (Str×Bool×D)}(h:zdy cl w n fs gs):fs.length=gs.length:=Paired.length h
theorem zdy.look{fs:List (Str×V)}{gs:List (Str×Bool×D)}(h:zdy cl w n fs gs){f:Str}{o:Bool}{d:D}(e:gs.lookup f=some (o,d)):∃v,fs.lookup f=some v/\ziz cl w (.fld n f) o v d:=by
 induction h with
 | nil=>cases e
 | @cons p q l1 l2 h t ih =>
  obtain ⟨h1,h2⟩:=h;obtain ⟨g,v⟩:=p;obtain ⟨g',o',d'⟩:=q;have h1':g=g':=h1;subst h1';rw [List.lookup_cons] at e ⊢
  cases hb:f == g with
  | true =>
   rw [hb] at e;cases e;have:=eq_of_beq hb;subst this;exact ⟨v,rfl,h2⟩
  | false =>
   rw [hb] at e;exact ih e
theorem zdy.miss{fs:List (Str×V)}{gs:List (Str×Bool×D)}(h:zdy cl w n fs gs){f:Str}(e:gs.lookup f=none):fs.lookup f=none:=by
 induction h with
 | nil=>rfl
 | @cons p q l1 l2 h t ih =>
  obtain ⟨h1,h2⟩:=h;obtain ⟨g,v⟩:=p;obtain ⟨g',o',d'⟩:=q;have h1':g=g':=h1;subst h1';rw [List.lookup_cons] at e ⊢
  cases hb:f == g with
  | true=>rw [hb] at e;cases e
  | false=>rw [hb] at e;exact ih e
theorem zdy.put{fs:List (Str×V)}{gs:List (Str×Bool×D)}{f:Str}{o:Bool}{d:D}{y:V}(h:zdy cl w n fs gs)(hy:ziz cl w (.fld n f) o y d):zdy cl w n (zdI f y fs) (zaO f o d gs):=by
 induction h with
 | nil=>exact .cons ⟨rfl,hy⟩ .nil
 | @cons p q l1 l2 h t ih =>
  obtain ⟨h1,h2⟩:=h;obtain ⟨g,v⟩:=p;obtain ⟨g',o',d'⟩:=q;have h1':g=g':=h1;subst h1';show zdy cl w n (if g=f then (g,y)::l1 else (g,v)::zdI f y l1) (if g=f then (g,o,d)::l2 else (g,o',d')::zaO f o d l2)
  by_cases hg:g=f
  ·subst hg;rw [if_pos rfl,if_pos rfl];exact .cons ⟨rfl,hy⟩ t
  ·rw [if_neg hg,if_neg hg];exact .cons ⟨rfl,h2⟩ ih
theorem zdy.keepBut{w':Wd}(f:Fut w w'){x:Str}(k:∀a o g,g≠x->w.H a=some o->w.ow a=some (.fld n g)->w'.H a=some o/\w'.ow a=some (.fld n g)){fs:List (Str×V)}{gs:List (Str×Bool×D)}(h:zdy cl w n fs gs)(hn:∀q∈gs,q.1=x->q.2.1=false):zdy cl w' n fs gs:=by
 induction h with
 | nil=>exact .nil
 | @cons p q l1 l2 h t ih =>
  obtain ⟨h1,h2⟩:=h;refine .cons ⟨h1,?_⟩ (ih fun q hq=>hn q (List.mem_cons_of_mem _ hq))
  by_cases hx:q.1=x
  ·have ho:=hn q List.mem_cons_self hx;rw [ho] at h2 ⊢
   rcases h2 with ⟨_,h2⟩ | ⟨e,_⟩
   ·exact .inl ⟨rfl,Shd.up f h2⟩
   ·cases e
  ·exact h2.keep f fun a o ha hr=>k a o q.1 hx ha hr
theorem zdy.keepF{w':Wd}(f:Fut w w')(k:∀a o g,w.H a=some o->w.ow a=some (.fld n g)->w'.H a=some o/\w'.ow a=some (.fld n g)){fs:List (Str×V)}{gs:List (Str×Bool×D)}(h:zdy cl w n fs gs):zdy cl w' n fs gs:=by
 induction h with
 | nil=>exact .nil
 | @cons p q l1 l2 h t ih=>exact .cons ⟨h.1,h.2.keep f fun a o ha hr=>k a o q.1 ha hr⟩ ih
variable{B:Base}{σ:St}{ρ:Env}{S:Sto}
theorem World'.atObj(W:World' cl B w S){ob:Ob}(h:S[n]?=some ob){a:Addr}(e:w.mu[n]?=some a):ztc cl w n a ob:=by
 obtain ⟨a',e',x⟩:=W.obj n ob h;rw [e] at e';cases e';exact x
theorem zid{S:Sto}{n m:Nat}{ob ob':Ob}(h:(S.set n ob)[m]?=some ob'):(m=n/\ob'=ob)\/(m≠n/\S[m]?=some ob'):=by
 by_cases e:n=m
 ·subst e
  have hlt:n<S.length:=by
   have:=(List.getElem?_eq_some_iff.mp h).1;rw [List.length_set] at this;exact this
  rw [List.getElem?_set_self hlt] at h;cases h;exact .inl ⟨rfl,rfl⟩
 ·rw [List.getElem?_set_ne e] at h;exact .inr ⟨fun z=>e z.symm,h⟩
theorem Rel.setf{a dx:Addr}{ob:Ob}{fs:List (Str×V)}{f:Str}{y:V}{d:D}(R:Rel cl B σ w ρ S)(hn:S[n]?=some ob)(hmu:w.mu[n]?=some a)(how:w.ow a=some (.obj n))(hH:w.H a=some (.ins (cl ob.cls) dx fs))(hF:zdy cl w n fs ob.fs)(hy:Shd cl w y d) :
  Rel cl B σ (w.mut a (.ins (cl ob.cls) dx (zdI f y fs))) ρ (S.set n (ob.put f false d))/\Fut w (w.mut a (.ins (cl ob.cls) dx (zdI f y fs))):=by
 have ff:=zer (w:=w) (p:=a) (o:=.ins (cl ob.cls) dx (zdI f y fs)) (by rw [how];exact Option.some_ne_none _)
 have kp:∀b u,w.H b=some u->w.ow b≠some (.obj n)->(w.mut a (.ins (cl ob.cls) dx (zdI f y fs))).H b=some u/\(w.mut a (.ins (cl ob.cls) dx (zdI f y fs))).ow b=w.ow b:=fun b u hb hne=>⟨by
  show upd w.H a _ b=_
  rw [zam (fun z=>hne (by rw [z];exact how))];exact hb,rfl⟩
 have hB:B.Fr a=none:=(R.wd.own a _ how).elim (fun z=>by cases z) fun z=>z
 refine ⟨⟨⟨fun b u h=>?_,R.wd.own,by rw [List.length_set];exact R.wd.len,fun m ob' h=>?_⟩,R.len,fun i o e h=>?_⟩,ff⟩
 ·refine ⟨?_,(R.wd.fr b u h).2⟩;show upd w.H a _ b=_;rw [zam (fun z=>by rw [z,hB] at h;cases h)];exact (R.wd.fr b u h).1
 ·rcases zid h with ⟨rfl,rfl⟩ | ⟨hne,h⟩
  ·refine ⟨a,hmu,how,dx,_,zaH,?_⟩;exact zdy.put (hF.keepF ff fun b u g hb hg=>⟨(kp b u hb (by rw [hg];exact fun z=>by cases z)).1,hg⟩) (.inl ⟨rfl,hy.up ff⟩)
  ·obtain ⟨b,e,x⟩:=R.wd.obj m ob' h;exact ⟨b,e,x.keep ff fun b u hb hm=>kp b u hb fun z=>by rw [z] at hm;exact hne hm.symm⟩
 ·obtain ⟨v,e1,x⟩:=R.slots i o e h;exact ⟨v,e1,x.keep ff fun b u hb hr=>⟨(kp b u hb (by rw [hr];exact fun z=>by cases z)).1,hr⟩⟩
def Wd.addF(w:Wd)(p:Addr)(o:HO)(n:Nat)(f:Str):Wd:=⟨upd w.H p o,fun b=>if b=p then some (.fld n f) else w.ow b,w.mu⟩
theorem Rel.newf{a dx p:Addr}{ob:Ob}{fs:List (Str×V)}{f:Str}(R:Rel cl B σ w ρ S)(hn:S[n]?=some ob)(hmu:w.mu[n]?=some a)(how:w.ow a=some (.obj n))(hH:w.H a=some (.ins (cl ob.cls) dx fs))(hF:zdy cl w n fs ob.fs)(hp:w.H p=none) :
  Rel cl B σ ((w.addF p (.ext (DN cl.P cl.wo p [])) n f).mut a (.ins (cl ob.cls) dx (zdI f (.ref p) fs))) ρ (S.set n (ob.put f true (.dic [])))/\Fut w ((w.addF p (.ext (DN cl.P cl.wo p [])) n f).mut a (.ins (cl ob.cls) dx (zdI f (.ref p) fs))):=by
 have hap:a≠p:=zau hH hp
 have kp:∀b u,w.H b=some u->w.ow b≠some (.obj n)->((w.addF p (.ext (DN cl.P cl.wo p [])) n f).mut a (.ins (cl ob.cls) dx (zdI f (.ref p) fs))).H b=some u/\((w.addF p (.ext (DN cl.P cl.wo p [])) n f).mut a (.ins (cl ob.cls) dx (zdI f (.ref p) fs))).ow b=w.ow b:=fun b u hb hne=>by
  have hbp:b≠p:=zau hb hp;refine ⟨?_,?_⟩
  ·show upd (upd w.H p _) a _ b=_;rw [zam (fun z=>hne (by rw [z];exact how)),zam hbp];exact hb
  ·show (if b=p then _ else w.ow b)=_;rw [if_neg hbp]
 have ff:Fut w ((w.addF p (.ext (DN cl.P cl.wo p [])) n f).mut a (.ins (cl ob.cls) dx (zdI f (.ref p) fs))):=⟨fun b u hb hk=>by
  have:=kp b u hb (by rw [hk];exact fun z=>by cases z)
  exact ⟨this.1,this.2.trans hk⟩,fun _ _ h=>h⟩
 have hB:B.Fr a=none:=(R.wd.own a _ how).elim (fun z=>by cases z) fun z=>z
 have hBp:B.Fr p=none:=by
  cases z:B.Fr p with
  | none=>rfl
  | some u=>have:=(R.wd.fr p u z).1;rw [hp] at this;cases this
 have Hp:((w.addF p (.ext (DN cl.P cl.wo p [])) n f).mut a (.ins (cl ob.cls) dx (zdI f (.ref p) fs))).H p=some (.ext (DN cl.P cl.wo p [])):=by
  show upd (upd w.H p _) a _ p=_;rw [zam hap.symm,zaH]
 have owp:((w.addF p (.ext (DN cl.P cl.wo p [])) n f).mut a (.ins (cl ob.cls) dx (zdI f (.ref p) fs))).ow p=some (.fld n f):=if_pos rfl
 have owa:((w.addF p (.ext (DN cl.P cl.wo p [])) n f).mut a (.ins (cl ob.cls) dx (zdI f (.ref p) fs))).ow a=some (.obj n):=by
  show (if a=p then _ else w.ow a)=_;rw [if_neg hap];exact how
 refine ⟨⟨⟨fun b u h=>?_,fun b r h=>?_,by rw [List.length_set];exact R.wd.len,fun m ob' h=>?_⟩,R.len,fun i o e h=>?_⟩,ff⟩
 ·have:=kp b u (R.wd.fr b u h).1 fun z=>by
   rcases R.wd.own b _ z with y | y
   ·cases y
   ·rw [h] at y;cases y
  exact ⟨this.1,this.2.trans (R.wd.fr b u h).2⟩
 ·have h':(if b=p then some (Root.fld n f) else w.ow b)=some r:=h;split at h'
  ·rename_i z;rw [z];exact .inr hBp
  ·exact R.wd.own b r h'
 ·rcases zid h with ⟨rfl,rfl⟩ | ⟨hne,h⟩
  ·refine ⟨a,hmu,owa,dx,_,zaH,?_⟩;refine zdy.put (hF.keepF ff fun b u g hb hg=>?_) (.inr ⟨rfl,p,[],[],[],rfl,owp,Hp,.nil,.nil,rfl⟩);have:=kp b u hb (by rw [hg];exact fun z=>by cases z);exact ⟨this.1,this.2.trans hg⟩
  ·obtain ⟨b,e,x⟩:=R.wd.obj m ob' h;exact ⟨b,e,x.keep ff fun b u hb hm=>kp b u hb fun z=>by rw [z] at hm;exact hne hm.symm⟩
 ·obtain ⟨v,e1,x⟩:=R.slots i o e h
  exact ⟨v,e1,x.keep ff fun b u hb hr=>by
   have:=kp b u hb (by rw [hr];exact fun z=>by cases z)
   exact ⟨this.1,this.2.trans hr⟩⟩
def zf3(ob:Ob):Bool:=decide (ob.fs.map (·.1)).Nodup
theorem zdy.dic{w':Wd}{a:Addr}{f:Str}{d:D}(ff:Fut w w')(k:∀b o g,g≠f->w.H b=some o->w.ow b=some (.fld n g)->w'.H b=some o/\w'.ow b=some (.fld n g))(hy:ziz cl w' (.fld n f) true (.ref a) d):∀{fs:List (Str×V)} {gs:List (Str×Bool×D)},zdy cl w n fs gs->(gs.map (·.1)).Nodup->fs.lookup f=some (.ref a)->zdy cl w' n fs (zaO f true d gs):=by
 intro fs gs h
 induction h with
 | nil=>intro _ e;cases e
 | @cons p q l1 l2 h t ih =>
  intro nd e;obtain ⟨h1,h2⟩:=h;obtain ⟨g,v⟩:=p;obtain ⟨g',o',d'⟩:=q;have h1':g=g':=h1;subst h1';rw [List.map_cons,List.nodup_cons] at nd;show zdy cl w' n ((g,v)::l1) (if g=f then (g,true,d)::l2 else (g,o',d')::zaO f true d l2);rw [List.lookup_cons] at e
  by_cases hg:g=f
  ·subst hg;rw [if_pos rfl];simp only [beq_self_eq_true] at e;cases e;refine .cons ⟨rfl,hy⟩ ?_;have t':zdy cl w n l1 l2:=t;exact t'.keepBut ff k fun q hq hx=>absurd (List.mem_map.mpr ⟨q,hq,hx⟩) nd.1
  ·rw [if_neg hg];have hb:(f == g)=false:=beq_eq_false_iff_ne.mpr fun z=>hg z.symm
   rw [hb] at e;exact .cons ⟨rfl,h2.keep ff fun b o hb hr=>k b o g hg hb hr⟩ (ih nd.2 e)
theorem Rel.setd{a dx c:Addr}{ob:Ob}{fs:List (Str×V)}{f:Str}{xs:List (NK×Addr×Value)}{m:List (NK×V)}{ds:List (D×D)}{k:NK}{kb:Addr}{u:Value}{v:V}{d:D}(R:Rel cl B σ w ρ S)(hn:S[n]?=some ob)(hmu:w.mu[n]?=some a)(how:w.ow a=some (.obj n))(hH:w.H a=some (.ins (cl ob.cls) dx fs))(hF:zdy cl w n fs ob.fs)
  (hl:fs.lookup f=some (.ref c)) (hc:w.ow c=some (.fld n f)) (hcH:w.H c=some (.ext (DN cl.P cl.wo c xs))) (he:zju w xs m) (hs:ShdN cl w m ds) (hk:zmh w kb k) (rv:zbx v u) (hv:Shd cl w v d) (nd:zf3 ob=true) :
  Rel cl B σ (w.mut c (.ext (DN cl.P cl.wo c (xs++[(k,kb,u)])))) ρ (S.set n (ob.put f true (.dic (ds++[(nkD k,d)]))))/\Fut w (w.mut c (.ext (DN cl.P cl.wo c (xs++[(k,kb,u)])))):=by
 have ff:=zer (w:=w) (p:=c) (o:=.ext (DN cl.P cl.wo c (xs++[(k,kb,u)]))) (by rw [hc];exact Option.some_ne_none _)
 have kp:∀b o,w.H b=some o->w.ow b≠some (.fld n f)->(w.mut c (.ext (DN cl.P cl.wo c (xs++[(k,kb,u)])))).H b=some o/\(w.mut c (.ext (DN cl.P cl.wo c (xs++[(k,kb,u)])))).ow b=w.ow b:=fun b o hb hne=>⟨by
  show upd w.H c _ b=_
  rw [zam (fun z=>hne (by rw [z];exact hc))];exact hb,rfl⟩
 have hB:B.Fr c=none:=(R.wd.own c _ hc).elim (fun z=>by cases z) fun z=>z
 refine ⟨⟨⟨fun b o h=>?_,R.wd.own,by rw [List.length_set];exact R.wd.len,fun m' ob' h=>?_⟩,R.len,fun i o e h=>?_⟩,ff⟩
 ·refine ⟨?_,(R.wd.fr b o h).2⟩;show upd w.H c _ b=_;rw [zam (fun z=>by rw [z,hB] at h;cases h)];exact (R.wd.fr b o h).1
 ·rcases zid h with ⟨rfl,rfl⟩ | ⟨hne,h⟩
  ·refine ⟨a,hmu,how,dx,fs,?_,?_⟩
   ·exact (kp a _ hH (by rw [how];exact fun z=>by cases z)).1
   ·refine zdy.dic (a:=c) ff (fun b o g hg hb hr=>?_) (.inr ⟨rfl,c,_,m++[(k,v)],ds++[(nkD k,d)],rfl,hc,zaH,?_,?_,rfl⟩) hF (of_decide_eq_true nd) hl
    ·exact ⟨(kp b o hb (by rw [hr];exact fun z=>hg (by cases z;rfl))).1,hr⟩
    ·exact (he.up ff).snoc ⟨rfl,hk.up ff,rv⟩
    ·exact (hs.up ff).snoc (hv.up ff)
  ·obtain ⟨b,e,x⟩:=R.wd.obj m' ob' h;exact ⟨b,e,x.keep ff fun b o hb hm=>kp b o hb fun z=>by rw [z] at hm;exact hne hm.symm⟩
 ·obtain ⟨v',e1,x⟩:=R.slots i o e h;exact ⟨v',e1,x.keep ff fun b o hb hr=>⟨(kp b o hb (by rw [hr];exact fun z=>by cases z)).1,hr⟩⟩
def Wd.addO(w:Wd)(x dx C:Addr)(n:Nat):Wd:=⟨upd (upd w.H dx (.own x)) x (.ins C dx []),fun b=>if b=x then some (.obj n) else if b=dx then none else w.ow b,w.mu++[x]⟩
theorem Rel.made{x dx:Addr}{c:Str}(R:Rel cl B σ w ρ S)(hx:w.H x=none)(hdx:w.H dx=none)(ne:dx≠x):Rel cl B σ (w.addO x dx (cl c) S.length) ρ (S++[⟨c,[]⟩])/\Fut w (w.addO x dx (cl c) S.length):=by
 have kp:∀b o,w.H b=some o->(w.addO x dx (cl c) S.length).H b=some o/\(w.addO x dx (cl c) S.length).ow b=w.ow b:=fun b o hb=>by
  have n1:b≠x:=zau hb hx;have n2:b≠dx:=zau hb hdx;refine ⟨?_,?_⟩
  ·show upd (upd w.H dx _) x _ b=_;rw [zam n1,zam n2];exact hb
  ·show (if b=x then _ else if b=dx then _ else w.ow b)=_;rw [if_neg n1,if_neg n2]
 have ff:Fut w (w.addO x dx (cl c) S.length):=⟨fun b o hb hk=>⟨(kp b o hb).1,(kp b o hb).2.trans hk⟩,fun n a h=>by
  show (w.mu++[x])[n]?=some a
  rw [List.getElem?_append_left (List.getElem?_eq_some_iff.mp h).1];exact h⟩
 have hBx:B.Fr x=none:=by
  cases z:B.Fr x with
  | none=>rfl
  | some u=>have:=(R.wd.fr x u z).1;rw [hx] at this;cases this
 refine ⟨⟨⟨fun b o h=>?_,fun b r h=>?_,by show (w.mu++[x]).length=_;rw [List.length_append,List.length_append,R.wd.len];rfl,fun m ob h=>?_⟩,R.len,fun i o e h=>?_⟩,ff⟩
 ·have:=kp b o (R.wd.fr b o h).1;exact ⟨this.1,this.2.trans (R.wd.fr b o h).2⟩
 ·have h':(if b=x then some (Root.obj S.length) else if b=dx then none else w.ow b)=some r:=h;split at h'
  ·rename_i z;rw [z];exact .inr hBx
  ·split at h'
   ·cases h'
   ·exact R.wd.own b r h'
 ·by_cases hm:m<S.length
  ·rw [List.getElem?_append_left hm] at h;obtain ⟨b,e,y⟩:=R.wd.obj m ob h;exact ⟨b,ff.mu _ _ e,y.keep ff fun b o hb _=>kp b o hb⟩
  ·have hm':m=S.length:=by
    have:=(List.getElem?_eq_some_iff.mp h).1;rw [List.length_append,List.length_singleton] at this;omega
   subst hm';rw [List.getElem?_append_right (Nat.le_refl _),Nat.sub_self] at h;cases h;refine ⟨x,?_,if_pos rfl,dx,[],zaH,.nil⟩;show (w.mu++[x])[S.length]?=some x;rw [List.getElem?_append_right (by rw [R.wd.len];exact Nat.le_refl _),R.wd.len,Nat.sub_self];rfl
 ·obtain ⟨v,e1,y⟩:=R.slots i o e h;exact ⟨v,e1,y.keep ff fun b o hb hr=>⟨(kp b o hb).1,(kp b o hb).2.trans hr⟩⟩
end
end S2
namespace S2
open PySem PySem.Spec PyProof.Rows L2
def zmU:D->Option (Option Int) | .non=>some none | .int i=>some (some i) | _=>none
def zdY:List D->Option (List (Option Int))
 | []=>some []
 | d::r=>(zmU d).bind fun o=>(zdY r).map (o::·)
def ziW:D->Option NK
 | .tup [.int i,.tup l]=>(zdY l).map fun os=>(i,os)
 | _=>none
def zbq(k:NK):List (D×D)->Option D
 | []=>none
 | (q,d)::r=>if ziW q=some k then some d else zbq k r
theorem zk7(o:Option Int):zmU (oDn o)=some o:=by cases o<;>rfl
theorem zf0:∀l:List (Option Int),zdY (l.map oDn)=some l
 | []=>rfl
 | o::l=>by rw [List.map_cons];unfold zdY;rw [zk7,zf0 l];rfl
theorem zd0(k:NK):ziW (nkD k)=some k:=by
 show (zdY (k.2.map oDn)).map (fun os=>(k.1,os))=some k;rw [zf0];rfl
section
variable{cl:Cf}{w:Wd}
theorem zk6:∀{xs:List V} {ds:List D} {os:Z4},Shds cl w xs ds->zdY ds=some os->xs=os.map oV
 | _,_,os,.nil,h=>by cases h;rfl
 | _,_,os,.cons (v:=v) (d:=d) (ds:=ds) r t,h=>by
  unfold zdY at h
  cases h1:zmU d with
  | none=>rw [h1] at h;cases h
  | some o =>
   rw [h1] at h
   cases h2:zdY ds with
   | none=>rw [h2] at h;cases h
   | some os' =>
    rw [h2] at h;cases h;rw [List.map_cons,<-zk6 t h2]
    cases d<;>simp [zmU] at h1<;>subst h1<;>cases r<;>rfl
theorem zoh{v:V}{d:D}{k:NK}(h:Shd cl w v d)(hk:ziW d=some k):∃kb,v=.ref kb/\zmh w kb k:=by
 unfold ziW at hk;split at hk
 ·rename_i i l
  cases ho:zdY l with
  | none=>rw [ho] at hk;cases hk
  | some os =>
   rw [ho] at hk;cases hk
   cases h with
   | tup e o r =>
    cases r with
    | cons r1 t =>
     cases t with
     | cons r2 t =>
      cases t;cases r1
      cases r2 with
      | tup e2 o2 r2=>exact ⟨_,rfl,_,⟨e,o⟩,by rw [<-zk6 r2 ho];exact e2,o2⟩
 ·cases hk
theorem zny:∀{m:List (NK×V)} {ds:List (D×D)},ShdN cl w m ds->∀k:NK,(m.lookup k=none/\zbq k ds=none)\/∃v d,m.lookup k=some v/\zbq k ds=some d/\Shd cl w v d
 | _,_,.nil,k=>.inl ⟨rfl,rfl⟩
 | _,_,.cons (k:=k') (v:=v) (d:=d) r t,k=>by
  rw [List.lookup_cons];unfold zbq;rw [zd0]
  by_cases e:k'=k
  ·subst e;rw [if_pos rfl,beq_self_eq_true];exact .inr ⟨v,d,rfl,rfl,r⟩
  ·rw [if_neg (fun z=>e (by cases z;rfl)),beq_eq_false_iff_ne.mpr (fun z=>e z.symm)];exact zny t k
theorem zoq:∀{m:List (NK×V)} {ds:List (D×D)},ShdN cl w m ds->m.length=ds.length
 | _,_,.nil=>rfl
 | _,_,.cons r t=>by rw [List.length_cons,List.length_cons,zoq t]
end
def zi7(cn f:Str)(d:D)(S:Sto):Option D:=match d with
 | .ref n=>(match S[n]? with
  | some ob=>if ob.cls=cn then (match ob.fs.lookup f with | some (false,d)=>some d | _=>none) else none
  | none=>none)
 | _=>none
def zfJ(cn f:Str)(fe:Fe):Fe:=fun ρ S=>(fe ρ S).bind fun d S1=>match zi7 cn f d S1 with | some r=>.ok r S1 | none=>.bad
def zmf(cl:Cf)(cn f:Str):Prop:=Cls cl.K (cl cn)/\zdF cl.K (cl cn) f
def zgR(cn f:Str)(d:D)(S:Sto):Option (Nat×Ob×List (D×D)):=match d with
 | .ref n=>(match S[n]? with
  | some ob=>if ob.cls=cn then (match ob.fs.lookup f with | some (true,.dic ds)=>some (n,ob,ds) | _=>none) else none
  | none=>none)
 | _=>none
section
variable{cl:Cf}{cn:Str}{X:Cx}{E:St->XK}{e:Expr}{fe:Fe}{f:Str}{pos:Pos}{B:Base}{σ:St}{w:Wd}{ρ:Env}{S:Sto}
theorem zhL{v:V}{n:Nat}{ob:Ob}(R:Rel cl B σ w ρ S)(hv:Shd cl w v (.ref n))(hn:S[n]?=some ob):∃a dx fs,v=.ref a/\w.mu[n]?=some a/\w.ow a=some (.obj n)/\w.H a=some (.ins (cl ob.cls) dx fs)/\zdy cl w n fs ob.fs:=by
 cases hv with
 | ref e =>
  obtain ⟨h1,dx,fs,h2,h3⟩:=R.wd.atObj hn e;exact ⟨_,dx,fs,rfl,e,h1,h2,h3⟩
theorem zs3{v:V}{d r:D}(hk:zmf cl cn f)(R:Rel cl B σ w ρ S)(hv:Shd cl w v d)(hd:zi7 cn f d S=some r):∃a C dx fs y,v=.ref a/\w.H a=some (.ins C dx fs)/\Cls cl.K C/\zdF cl.K C f/\fs.lookup f=some y/\Shd cl w y r:=by
 unfold zi7 at hd
 cases d with
 | ref n =>
  dsimp only at hd
  cases hS:S[n]? with
  | none=>rw [hS] at hd;cases hd
  | some ob =>
   rw [hS] at hd;dsimp only at hd;split at hd
   ·rename_i hfk;split at hd
    ·rename_i d hl;cases hd;obtain ⟨a,dx,fs,rfl,_,_,hH,hF⟩:=zhL R hv hS;obtain ⟨v,lv,fr⟩:=hF.look hl
     rcases fr with ⟨_,fr⟩ | ⟨z,_⟩
     ·exact ⟨a,_,dx,fs,v,rfl,hH,hfk ▸ hk.1,hfk ▸ hk.2,lv,fr⟩
     ·cases z
    ·cases hd
   ·cases hd
 | _=>cases hd
theorem zrt(hk:zmf cl cn f)(kk:X.K=cl.K)(he:PE X e (tE cl E fe))(hb:attributeBase e f X.env (eval e X.env)=eval e X.env):PE X (.Attribute e f pos) (tE cl E (zfJ cn f fe)):=by
 refine PE.imp (zhg he hb) ?_;rintro σ H Q ⟨B,w,ρ,S,rfl,R,q⟩;refine ⟨B,w,ρ,S,rfl,R,?_⟩;unfold zfJ at q
 cases hf:fe ρ S with
 | bad=>rw [hf] at q;exact q
 | exc c S1=>rw [hf] at q;exact q
 | ok d S1 =>
  rw [hf] at q;intro v w1 R1 F1 h1;dsimp only [Out.bind] at q
  cases hd:zi7 cn f d S1 with
  | none=>rw [hd] at q;exact q.elim
  | some r =>
   rw [hd] at q;obtain ⟨a,C,dx,fs,y,rfl,e1,e2,e3,e4,e5⟩:=zs3 hk R1 h1 hd;rw [kk];exact ⟨a,C,dx,fs,y,rfl,e1,e2,e3,e4,q y w1 R1 F1 e5⟩
theorem zl9{v:V}{d:D}{n:Nat}{ob:Ob}{ds:List (D×D)}(hk:zmf cl cn f)(R:Rel cl B σ w ρ S)(hv:Shd cl w v d)(hd:zgR cn f d S=some (n,ob,ds)) :
  ∃a dx fs c xs m,v=.ref a/\S[n]?=some ob/\w.mu[n]?=some a/\w.ow a=some (.obj n)/\w.H a=some (.ins (cl ob.cls) dx fs)/\zdy cl w n fs ob.fs/\Cls cl.K (cl ob.cls)/\zdF cl.K (cl ob.cls) f/\fs.lookup f=some (.ref c)/\w.ow c=some (.fld n f)/\w.H c=some (.ext (DN cl.P cl.wo c xs))/\zju w xs m/\ShdN cl w m ds:=by
 unfold zgR at hd
 cases d with
 | ref n' =>
  dsimp only at hd
  cases hS:S[n']? with
  | none=>rw [hS] at hd;cases hd
  | some ob' =>
   rw [hS] at hd;dsimp only at hd;split at hd
   ·rename_i hfk;split at hd
    ·rename_i ds' hl;cases hd;obtain ⟨a,dx,fs,rfl,hmu,how,hH,hF⟩:=zhL R hv hS;obtain ⟨v,lv,fr⟩:=hF.look hl
     rcases fr with ⟨z,_⟩ | ⟨_,c,xs,m,ds2,rfl,c1,c2,c3,c4,e⟩
     ·cases z
     ·cases e;exact ⟨a,dx,fs,c,xs,m,rfl,hS,hmu,how,hH,hF,hfk ▸ hk.1,hfk ▸ hk.2,lv,c1,c2,c3,c4⟩
    ·cases hd
   ·cases hd
 | _=>cases hd
end
end S2
namespace L2
open PySem PySem.Spec PyProof.Rows
section
variable{X:Cx}
def zx9(ta:TA):TE:=fun σ H Q=>ta σ H fun vs H1=>∃j:Int,vs=[.int j]/\0<=j/\j<=1000/\∀p,H1 p=none->Q (.ref p) (upd H1 p (.rng 0 j))
theorem zrO{a:Expr}{ta:TA}{p pos:Pos}(hg:Gl X "range")(hm:X.mg "range" = none)(ha:PA X [a] ta)(hs:starEach [a] X.env=[(false,eval a X.env)]:=by rfl):PE X (.Call (.Name "range" p) [a] [] pos) (zx9 ta):=by
 intro pins s σ H Q I h;refine Call_ (zd3 I hg hm boot_range (PyProof.Rows.callWith_type1 (thn (ha pos pins s σ H _ I h) fun us s1 ⟨vs,H1,I1,r1,q1⟩=>?_) hs rfl));obtain ⟨j,e,j0,j1,q⟩:=q1;subst e
 cases r1 with
 | cons r rr =>
  cases rr;obtain ⟨t,rfl⟩:=r;refine call_range_1 ⟨.ref s1.heap.objs.size,_,I1.laid (a:=s1.heap.objs.size) (o:=.rng 0 j) (fun _ _ q=>Heap.get?_push_of_some _ q) (Nat.le_refl _) ⟨_,_,_,Heap.get?_push_size _ rfl⟩,rfl,q _ (I1.hok.fresh (Nat.le_refl _))⟩
theorem zjv:∀(n:Nat) (its:List Value),its.length=n->(∀(i:Nat) (v:Value),its[i]?=some v->∃t,v=.int (i:Int) t)->Vals ((List.range n).map fun (i:Nat)=>V.int (i:Int)) its:=by
 intro n
 induction n with
 | zero =>
  intro its hl _;have:its=[]:=List.eq_nil_of_length_eq_zero hl;subst this;exact .nil
 | succ n ih =>
  intro its hl h
  have e:its=its.take n++[its[n]]:=by
   have:=List.take_append_drop n its
   have h2:its.drop n=[its[n]]:=by
    rw [List.drop_eq_getElem_cons (by omega),List.drop_of_length_le (by omega)]
   rw [h2] at this;exact this.symm
  rw [e,List.range_succ,List.map_append];refine (ih (its.take n) (by rw [List.length_take];omega) fun i v hv=>?_).append (.cons ?_ .nil)
  ·have hi:i<n:=by
    have:=(List.getElem?_eq_some_iff.mp hv).1;rw [List.length_take] at this;omega
   rw [List.getElem?_take,if_pos hi] at hv;exact h i v hv
  ·exact h n its[n] (List.getElem?_eq_getElem (by omega))
theorem zgK(hc:X.calm=true):zez X (.type "list") (fun xs H Q=>∃(p:Addr) (n:Nat),xs=[.ref p]/\H p=some (.rng 0 (n:Int))/\n<=1000/\∀l,H l=none->Q (.ref l) (upd H l (.lst ((List.range n).map fun (i:Nat)=>V.int (i:Int))))):=by
 intro pins s σ H xs us Q I r h;obtain ⟨p,n,rfl,hp,hn,q⟩:=h;obtain ⟨u,rfl,rx⟩:=zhN r;cases rx;obtain ⟨t,u,v,hr⟩:=I.hok p _ hp;refine call_list_range (n:=n) (I.ok.hd hc) (show IsRange s.heap p 0 (n:Int) 1 t u v from hr) (small_one (by omega) (by omega) (by omega) (by omega)) (by rw [rangeSize_one];split<;>omega) (by omega) fun h' tk acc c' kp e hi=>?_
 refine ⟨.ref s.heap.objs.size,_,I.laid (t':=tk) kp (Nat.le_refl _) (show zbQ X.prog X.w _ h' _ (.lst _) from ⟨?_,acc.toList,c',zjv n acc.toList ?_ ?_,by simpa using e⟩),rfl,q _ (I.hok.fresh (Nat.le_refl _))⟩
 ·rw [List.length_map,List.length_range];exact Nat.le_trans hn (by decide)
 ·have:=hi.1;simpa using this
 ·intro i v hv;have:=hi.2 i v (by simpa using hv);simpa using this
end
end L2
namespace S2
open PySem PySem.Spec PyProof.Rows L2
def zop(cn f:Str)(fa fo:Fe):Fe:=fun ρ S=>(fa ρ S).bind fun dk S1=>(fo ρ S1).bind fun d S2=>match ziW dk,zgR cn f d S2 with
 | some k,some (_,_,ds)=>.ok (.bl (zbq k ds).isNone) S2
 | _,_=>.bad
def zkd(ρ:Env)(i:Nat):Option NK:=match ρ[i]? with | some (some (false,dk))=>ziW dk | _=>none
def zjX(cn f:Str)(fo:Fe)(i:Nat):Fe:=fun ρ S=>(fo ρ S).bind fun d S1=>match zkd ρ i,zgR cn f d S1 with
 | some k,some (_,_,ds)=>(match zbq k ds with | some r=>.ok r S1 | none=>.bad)
 | _,_=>.bad
def zjD(cn f:Str)(fo:Fe)(i:Nat)(fe:Fe):Fs:=fun ρ S=>match fe ρ S with
 | .bad=>.bad
 | .exc c S1=>.ex c ρ S1
 | .ok r S1=>(match fo ρ S1 with
  | .bad=>.bad
  | .exc c S2=>.ex c ρ S2
  | .ok d S2=>(match zkd ρ i,zgR cn f d S2 with
   | some k,some (n,ob,ds)=>if (zbq k ds).isNone&&decide (ds.length<=1000000)&&zf3 ob then .nx ρ (S2.set n (ob.put f true (.dic (ds++[(nkD k,r)])))) else .bad
   | _,_=>.bad))
def zgq(cn f:Str)(fo fe:Fe):Fs:=fun ρ S=>match fe ρ S with
 | .bad=>.bad
 | .exc c S1=>.ex c ρ S1
 | .ok r S1=>(match fo ρ S1 with
  | .bad=>.bad
  | .exc c S2=>.ex c ρ S2
  | .ok (.ref n) S2=>(match S2[n]? with
   | some ob=>if decide (ob.cls=cn)&&decide (ob.fs.length<1000) then .nx ρ (S2.set n (ob.put f false r)) else .bad
   | none=>.bad)
  | .ok _ _=>.bad)
def zjE(cn f:Str)(i:Nat):Fs:=fun ρ S=>match ρ[i]? with
 | some (some (false,.ref n))=>(match S[n]? with
   | some ob=>if decide (ob.cls=cn)&&decide (ob.fs.length<1000) then .nx ρ (S.set n (ob.put f true (.dic []))) else .bad
   | none=>.bad)
 | _=>.bad
def zdb(c m:Str)(d:D)(S:Sto):Bool:=match d with
 | .ref n=>(match S[n]? with | some ob=>decide (ob.cls=c)&&(ob.fs.lookup m).isNone | none=>false)
 | _=>false
def zbA(c m:Str)(G:List D->Sto->Out D)(fo:Fe)(fs:List Fe):Fe:=fun ρ S=>(fo ρ S).bind fun d S1=>if zdb c m d S1 then (zan fs ρ S1).bind fun ds S2=>G (d::ds) S2 else .bad
def eMk(c:Str)(dds:List D)(G:List D->Sto->Out D)(fs:List Fe):Fe:=fun ρ S=>(zan fs ρ S).bind fun ds S1=>(G (.ref S1.length::(ds++dds)) (S1++[⟨c,[]⟩])).bind fun r S2=>match r with | .non=>.ok (.ref S1.length) S2 | _=>.bad
structure Same'(cl:Cf)(X:Cx):Prop where
 kk:X.K=cl.K
 pp:X.prog=cl.P
 ww:X.w=cl.wo
section
variable{cl:Cf}{cn:Str}{X:Cx}{E:St->XK}{a o e:Expr}{fa fo fe:Fe}{f:Str}{pos apos:Pos}{own:Bool}
theorem zsg(sm:Same' cl X)(hk:zmf cl cn f)(σ:St)(H:Hp)(Q:VK)(q:tE cl E (zop cn f fa fo) σ H Q) :
  tOp (fun x y H Q=>∃kb a k xs m,x=.ref kb/\y=.ref a/\ziy H kb k/\H a=some (.ext (DN X.prog X.w a xs))/\znP H xs m/\Q (.bl (m.lookup k).isNone) H) (tE cl E fa) (zwn X.K (tE cl E fo) f) σ H Q:=by
 obtain ⟨B,w,ρ,S,rfl,R,q⟩:=q;refine ⟨B,w,ρ,S,rfl,R,?_⟩;unfold zop at q
 cases hf:fa ρ S with
 | bad=>rw [hf] at q;exact q
 | exc c S1=>rw [hf] at q;exact q
 | ok dk S1 =>
  rw [hf] at q;intro v w1 R1 F1 h1;refine ⟨B,w1,ρ,S1,rfl,R1,?_⟩;dsimp only [Out.bind] at q
  cases hh:fo ρ S1 with
  | bad=>rw [hh] at q;exact q
  | exc c S2=>rw [hh] at q;exact fun w2 R2 F2=>q w2 R2 (F1.trans F2)
  | ok d S2 =>
   rw [hh] at q;intro y w2 R2 F2 h2;dsimp only at q
   cases hn:ziW dk with
   | none=>rw [hn] at q;exact q.elim
   | some k =>
    cases hd:zgR cn f d S2 with
    | none=>rw [hn,hd] at q;exact q.elim
    | some t =>
     obtain ⟨n,ob,ds⟩:=t;rw [hn,hd] at q;dsimp only at q;obtain ⟨a,dx,fs,c,xs,m,rfl,_,_,_,hH,_,c1,c2,lv,_,hc,he,hs⟩:=zl9 hk R2 h2 hd;obtain ⟨kb,rfl,ks⟩:=zoh (h1.up F2) hn;rw [sm.kk];refine ⟨a,_,dx,fs,_,rfl,hH,c1,c2,lv,kb,c,k,xs,m,rfl,rfl,ks.at,by rw [sm.pp,sm.ww];exact hc,he.ents,?_⟩
     have:(m.lookup k).isNone=(zbq k ds).isNone:=by
      rcases zny hs k with ⟨e1,e2⟩ | ⟨_,_,e1,e2,_⟩<;>rw [e1,e2]<;>rfl
     rw [this];exact q _ w2 R2 (F1.trans F2) (.bl _)
theorem zrq(hu:X.A.units+16<cLine)(sm:Same' cl X)(hk:zmf cl cn f)(ha:PE X a (tE cl E fa))(ho:PE X o (tE cl E fo))(hb:attributeBase o f X.env (eval o X.env)=eval o X.env)(hm:behindInMarks .NotIn (.Attribute o f apos)=false):PE X (.Compare a [.NotIn] [.Attribute o f apos] pos) (tE cl E (zop cn f fa fo)) :=
 PE.imp (zk0 (zob hu) ha (zhg ho hb) hm) (zsg sm hk)
theorem zq4(hu:X.A.units+16<cLine)(sm:Same' cl X)(hk:zmf cl cn f)(ha:PE X a (tE cl E fa))(ho:PE X o (tE cl E fo))(hb:attributeBase o f X.env (eval o X.env)=eval o X.env)(hm:behindInMarks .NotIn (.Attribute o f apos)=false):PT X (.Compare a [.NotIn] [.Attribute o f apos] pos) (tTr cl E (zop cn f fa fo)) :=
 PT.imp (zkM (zob hu) ha (zhg ho hb) hm) fun _ _ _ q=>zsg sm hk _ _ _ (ziF q)
theorem zlk{B:Base}{σ:St}{w:Wd}{ρ:Env}{S:Sto}{i:Nat}{k:NK}(R:Rel cl B σ w ρ S)(h:zkd ρ i=some k):∃kb,σ[i]?=some (some (.ref kb))/\zmh w kb k:=by
 unfold zkd at h;split at h
 ·rename_i dk hi;obtain ⟨v,e,r⟩:=R.slots i false dk hi;obtain ⟨kb,rfl,ks⟩:=zoh r h;exact ⟨kb,e,ks⟩
 ·cases h
theorem zo6{i:Nat}{x:Str}{p:Pos}(hN:X.N[i]?=some x)(hv:Vis X.env.scope x)(hd:(x == ("__debug__":Str))=false)(hcd:(x == ("__classdict__":Str))=false)(hu:X.A.units+16<cLine)(sm:Same' cl X)(hk:zmf cl cn f)(ho:PE X o (tE cl E fo))(hb:attributeBase o f X.env (eval o X.env)=eval o X.env)(hs:zgP (.Name x p)):PE X (.Subscript (.Attribute o f apos) (.Name x p) pos) (tE cl E (zjX cn f fo i)):=by
 refine PE.imp (zkX (zsB hu) (zhg ho hb) (zcz hN hv hd hcd) hs) ?_;rintro σ H Q ⟨B,w,ρ,S,rfl,R,q⟩;refine ⟨B,w,ρ,S,rfl,R,?_⟩;unfold zjX at q
 cases hf:fo ρ S with
 | bad=>rw [hf] at q;exact q
 | exc c S1=>rw [hf] at q;exact q
 | ok d S1 =>
  rw [hf] at q;intro v w1 R1 F1 h1;dsimp only [Out.bind] at q
  cases hn:zkd ρ i with
  | none=>rw [hn] at q;exact q.elim
  | some k =>
   cases hd:zgR cn f d S1 with
   | none=>rw [hn,hd] at q;exact q.elim
   | some t =>
    obtain ⟨n,ob,ds⟩:=t;rw [hn,hd] at q;dsimp only at q;obtain ⟨a,dx,fs,c,xs,m,rfl,_,_,_,hH,_,c1,c2,lv,_,hc,he,hs⟩:=zl9 hk R1 h1 hd;obtain ⟨kb,eσ,ks⟩:=zlk R1 hn
    cases hl:zbq k ds with
    | none=>rw [hl] at q;exact q.elim
    | some r =>
     rw [hl] at q
     rcases zny hs k with ⟨_,e2⟩ | ⟨y,r',e1,e2,sh⟩
     ·rw [hl] at e2;cases e2
     ·rw [hl] at e2;cases e2;rw [sm.kk];exact ⟨a,_,dx,fs,_,rfl,hH,c1,c2,lv,_,eσ,c,kb,k,xs,m,y,rfl,rfl,ks.at,by rw [sm.pp,sm.ww];exact hc,he.ents,e1,q _ w1 R1 F1 sh⟩
theorem zoP{i:Nat}{x:Str}{p p3:Pos}(hN:X.N[i]?=some x)(hv:Vis X.env.scope x)(hd:(x == ("__debug__":Str))=false)(hcd:(x == ("__classdict__":Str))=false)(hu:X.A.units+16<cLine)(sm:Same' cl X)(hk:zmf cl cn f)(ho:PE X o (tE cl E fo))(hb:attributeBase o f X.env (eval o X.env)=eval o X.env)(he:PE X e (tE cl E fe))
  (sw1:swapsWithSole [.Subscript (.Attribute o f apos) (.Name x p) p3] e pos.line X.env=pure false) (sw2:swappedStores [.Subscript (.Attribute o f apos) (.Name x p) p3] e X.env=pure none)
  (ha:∀v,assign (.Subscript (.Attribute o f apos) (.Name x p) p3) X.env v=(do
   let ov ← holding [v] (eval (.Attribute o f apos) X.env)
   let iv ← holding [v,ov] (eval (.Name x p) X.env)
   standAt p3
   holding [v,ov,iv] (setItem ov iv v)
   release [v,ov,iv] [])):PS X (.Assign [.Subscript (.Attribute o f apos) (.Name x p) p3] e pos) (tS cl E own (zjD cn f fo i fe)):=by
 refine PS.imp (zkP he (zn9 (zhg ho hb) (zcz hN hv hd hcd) (zo2 hu) ha) sw1 sw2 rfl) ?_;rintro De σ H ⟨B,w,ρ,S,rfl,R,q⟩;refine ⟨B,w,ρ,S,rfl,R,?_⟩;unfold zjD at q
 cases hf:fe ρ S with
 | bad=>rw [hf] at q;exact q
 | exc c S1=>rw [hf] at q;exact fun w' R' F'=>q σ w' R' F'
 | ok r S1 =>
  rw [hf] at q;intro v w1 R1 F1 h1;dsimp only at q;refine ⟨B,w1,ρ,S1,rfl,R1,?_⟩
  cases hfo:fo ρ S1 with
  | bad=>rw [hfo] at q;exact q
  | exc c S2=>rw [hfo] at q;exact fun w' R' F'=>q σ w' R' (F1.trans F')
  | ok d S2 =>
   rw [hfo] at q;intro y w2 R2 F2 h2;dsimp only at q
   cases hn:zkd ρ i with
   | none=>rw [hn] at q;exact q.elim
   | some k =>
    cases hd:zgR cn f d S2 with
    | none=>rw [hn,hd] at q;exact q.elim
    | some t =>
     obtain ⟨n,ob,ds⟩:=t;rw [hn,hd] at q;dsimp only at q;split at q
     ·rename_i hc0;rw [Bool.and_eq_true,Bool.and_eq_true] at hc0;obtain ⟨⟨z1,z2⟩,z3⟩:=hc0;obtain ⟨a,dx,fs,c,xs,m,rfl,hS,hmu,how,hH,hF,c1,c2,lv,oc,hc,he,hs⟩:=zl9 hk R2 h2 hd;obtain ⟨kb,eσ,ks⟩:=zlk R2 hn
      have hno:m.lookup k=none:=by
       rcases zny hs k with ⟨e1,_⟩ | ⟨_,_,_,e2,_⟩
       ·exact e1
       ·rw [e2] at z1;cases z1
      rw [sm.kk];refine ⟨a,_,dx,fs,_,rfl,hH,c1,c2,lv,_,eσ,c,kb,k,xs,m,rfl,rfl,ks.at,by rw [sm.pp,sm.ww];exact hc,he.ents,hno,by rw [zoq hs];exact of_decide_eq_true z2,fun u ru=>?_⟩;obtain ⟨R3,F3⟩:=R2.setd hS hmu how hH hF lv oc hc he hs ks ru (h1.up F2) z3;rw [sm.pp,sm.ww];exact q σ _ R3 (F1.trans (F2.trans F3))
     ·exact q.elim
theorem zoR(sm:Same' cl X)(hk:zmf cl cn f)(ho:PE X o (tE cl E fo))(he:PE X e (tE cl E fe))(hs:swapsWith e (some (.Attribute o f apos)) pos.line X.env=pure false):PS X (.Assign [.Attribute o f apos] e pos) (tS cl E own (zgq cn f fo fe)):=by
 refine PS.imp (zn5 ho he hs) ?_;rintro De σ H ⟨B,w,ρ,S,rfl,R,q⟩;refine ⟨B,w,ρ,S,rfl,R,?_⟩;unfold zgq at q
 cases hf:fe ρ S with
 | bad=>rw [hf] at q;exact q
 | exc c S1=>rw [hf] at q;exact fun w' R' F'=>q σ w' R' F'
 | ok r S1 =>
  rw [hf] at q;intro v w1 R1 F1 h1;dsimp only at q;refine ⟨B,w1,ρ,S1,rfl,R1,?_⟩
  cases hfo:fo ρ S1 with
  | bad=>rw [hfo] at q;exact q
  | exc c S2=>rw [hfo] at q;exact fun w' R' F'=>q σ w' R' (F1.trans F')
  | ok d S2 =>
   rw [hfo] at q;intro y w2 R2 F2 h2
   cases d with
   | ref n =>
    dsimp only at q
    cases hS:S2[n]? with
    | none=>rw [hS] at q;exact q.elim
    | some ob =>
     rw [hS] at q;dsimp only at q;split at q
     ·rename_i hc0;rw [Bool.and_eq_true] at hc0;obtain ⟨a,dx,fs,rfl,hmu,how,hH,hF⟩:=zhL R2 h2 hS;rw [sm.kk];refine ⟨a,_,dx,fs,rfl,hH,of_decide_eq_true hc0.1 ▸ hk.1,of_decide_eq_true hc0.1 ▸ hk.2,by rw [hF.len];exact of_decide_eq_true hc0.2,?_⟩;obtain ⟨R3,F3⟩:=R2.setf (f:=f) hS hmu how hH hF (h1.up F2);exact q σ _ R3 (F1.trans (F2.trans F3))
     ·exact q.elim
   | _=>exact q.elim
theorem zoS{i:Nat}{x:Str}{p p2:Pos}(hN:X.N[i]?=some x)(hv:Vis X.env.scope x)(hd:(x == ("__debug__":Str))=false)(hcd:(x == ("__classdict__":Str))=false)(sm:Same' cl X)(hk:zmf cl cn f)(hs:swapsWith (.Dict [] [] p) (some (.Attribute (.Name x p2) f apos)) pos.line X.env=pure false):PS X (.Assign [.Attribute (.Name x p2) f apos] (.Dict [] [] p) pos) (tS cl E own (zjE cn f i)):=by
 refine PS.imp (zn5 (zcz hN hv hd hcd) zpr hs) ?_;rintro De σ H ⟨B,w,ρ,S,rfl,R,q⟩;intro pd hpd;unfold zjE at q;split at q
 ·rename_i n hi;obtain ⟨v,ev,rv⟩:=R.slots i false _ hi
  cases hS:S[n]? with
  | none=>rw [hS] at q;exact q.elim
  | some ob =>
   rw [hS] at q;dsimp only at q;split at q
   ·rename_i hc0;rw [Bool.and_eq_true] at hc0;obtain ⟨a,dx,fs,rfl,hmu,how,hH,hF⟩:=zhL R rv hS;rw [sm.kk];refine ⟨_,ev,a,_,dx,fs,rfl,?_,of_decide_eq_true hc0.1 ▸ hk.1,of_decide_eq_true hc0.1 ▸ hk.2,by rw [hF.len];exact of_decide_eq_true hc0.2,?_⟩
    ·rw [zam (zau hH hpd)];exact hH
    ·obtain ⟨R3,F3⟩:=R.newf (f:=f) hS hmu how hH hF hpd;rw [sm.pp,sm.ww];exact q σ _ R3 F3
   ·exact q.elim
 ·exact q.elim
end
def zgX(C:Addr)(m:Str)(sp:Sp)(dvs:List V)(E:St->XK)(ta:TE)(t:TA):TE:=fun σ H Q=>ta σ H fun x H1=>∃a dx fs,x=.ref a/\H1 a=some (.ins C dx fs)/\fs.lookup m=none ∧
 t σ H1 fun vs H2=>sp (x::(vs++dvs)) H2 Q (E σ)
def znT(C:Addr)(sp:Sp)(dvs:List V)(E:St->XK)(t:TA):TE:=fun σ H Q=>t σ H fun vs H1=>∀x dx,H1 x=none->H1 dx=none->dx≠x →
 sp (.ref x::(vs++dvs)) (upd (upd H1 dx (.own x)) x (.ins C dx [])) (fun v H2=>v=.non/\Q (.ref x) H2) (E σ)
section
variable{X:Cx}{CX:CXT}{k:Nat}{f C:Addr}{fd:FuncData}{ps:List Str}{sp:Sp}{dvs:List V}{ds:List Value}{E:St->XK}{x m:Str}{p pos apos:Pos}{e o:Expr}{es:List Expr}{ta:TE}{t:TA}
theorem zmQ{pl:Sem Bool}(he:PE X o ta)(c:Cls X.K C)(hm:Meth X.K C m f)(F:FnOk X.prog X.w X.K X.mg X.base CX k f fd ps sp)(hr:Room k X.A)(hb:zch X.K fd ps ds)(hd:Vals dvs ds)(hx:zdo CX X E)(ha:PA X (e::es) t)
  (hst:starEach (e::es) X.env=(false,eval e X.env)::starEach es X.env) (hpl:(backTo pos (starEach es X.env)).any (·.1)=false)
  (ht:eval (.Call (.Attribute o m apos) (e::es) [] pos) X.env=(do
   let ov ← eval o X.env
   standAt apos.atName
   let (f,first) ← holding [ov] (getMethod ov m pl)
   callWith pos f first (backTo pos (starEach (e::es) X.env)) (backToKw pos (keywordEach [] X.env)))) :
  PE X (.Call (.Attribute o m apos) (e::es) [] pos) (zgX C m sp dvs E ta t):=by
 intro pins s σ H Q I h;refine PySem.W.methodCall_KW (pl:=pl) (thn (he pins s σ H _ I h) fun u s1 ⟨x,H1,I1,rx,a,dx,fs,ex,ea,l,q⟩=>?_) ht;subst ex;obtain rfl:u=Value.ref a:=rx;refine zf9 I1 ea c hm l ?_;refine PySem.W.callWith_K (first:=[.ref a]) (h₀:=X.base) I.ok.mod.kin hm.kp (thn (ha pos pins s1 σ H1 _ I1 q) fun us s2 ⟨vs,H2,I2,r,q2⟩=>⟨I2.kIn,?_⟩) hst hpl;exact zgt (us:=.ref a::us) (vs:=.ref a::vs) F hr hb hd hx I2 (.cons rfl r) q2
theorem zkW{pl:Sem Bool}(he:PE X o ta)(c:Cls X.K C)(hm:Meth X.K C m f)(F:FnOk X.prog X.w X.K X.mg X.base CX k f fd ps sp)(hr:Room k X.A)(hb:zch X.K fd ps ds)(hd:Vals dvs ds)(hx:zdo CX X E)
  (ht:eval (.Call (.Attribute o m apos) [] [] pos) X.env=(do
   let ov ← eval o X.env
   standAt apos.atName
   let (f,first) ← holding [ov] (getMethod ov m pl)
   callWith pos f first (backTo pos (starEach [] X.env)) (backToKw pos (keywordEach [] X.env)))) :
  PE X (.Call (.Attribute o m apos) [] [] pos) (zgX C m sp dvs E ta zt4):=by
 intro pins s σ H Q I h;refine PySem.W.methodCall_KW (pl:=pl) (thn (he pins s σ H _ I h) fun u s1 ⟨x,H1,I1,rx,a,dx,fs,ex,ea,l,q⟩=>?_) ht;subst ex;obtain rfl:u=Value.ref a:=rx;refine zf9 I1 ea c hm l ?_;exact PySem.W.callWith_K0 (first:=[.ref a]) I1.kIn hm.kp (zgt (us:=[.ref a]) (vs:=[.ref a]) F hr hb hd hx I1 (.cons rfl .nil) q)
theorem zkG{pins:Z3}{σ:St}{H:Hp}{s:Shared}{Q:VK}{us:List Value}{vs:List V}(M:Mk X.K C f)(F:FnOk X.prog X.w X.K X.mg X.base CX k f fd ps sp)(hr:Room (k+1) X.A)(hb:zch X.K fd ps ds)(hd:Vals dvs ds)
  (hx:zdo CX X E) (I:Inv X pins σ H s) (r:Vals vs us)
  (h:∀x dx,H x=none->H dx=none->dx≠x->sp (.ref x::(vs++dvs)) (upd (upd H dx (.own x)) x (.ins C dx [])) (fun v H2=>v=.non/\Q (.ref x) H2) (E σ)) :
  wpAny (model X.prog X.w) X.A (call (.ref C) us) (EP X pins σ Q) X.xe s:=by
 have hq:=h (s.heap.objs.size+1) s.heap.objs.size (I.hok.fresh (Nat.le_succ _)) (I.hok.fresh (Nat.le_refl _)) (Nat.ne_of_lt (Nat.lt_succ_self _));have I2:=Inv.made (C:=C) I;have r2:Vals (V.ref (s.heap.objs.size+1)::(vs++dvs)) (Value.ref (s.heap.objs.size+1)::(us++ds)):=.cons rfl (r.append hd)
 have hl:(Value.ref (s.heap.objs.size+1)::us++ds).length=ps.length:=by
  have e:=r2.length;rw [F.len _ _ _ _ hq] at e;exact e.symm
 refine wpAny_call (zm6 (f:=f) I.kIn M.makes M.init (beq_iff_eq.mp M.fn) (codeAny_mono (F.run _ X.stack _ _ ⟨Value.ref (s.heap.objs.size+1)::us,[]⟩ (Value.ref (s.heap.objs.size+1)::(us++ds)) _ _ (E σ) (hr.make C us [])
  (I2.env0.make C us []) (hb _ (Value.ref (s.heap.objs.size+1)::us) I2.kIn hl) r2 hq) fun r s' hq'=>?_))
 cases r with
 | error e=>exact hx pins σ _ _ e s' I2 hq'
 | ok fl =>
  cases fl with
  | ret u =>
   obtain ⟨v,H',I3,rv,ev,q3⟩:=I2.after hq';subst ev;exact ⟨rv,⟨V.ref (s.heap.objs.size+1),H',I3,rfl,q3⟩⟩
  | next=>exact False.elim hq'
  | brk=>exact False.elim hq'
  | cont=>exact False.elim hq'
theorem ziQ(M:Mk X.K C f)(F:FnOk X.prog X.w X.K X.mg X.base CX k f fd ps sp)(hr:Room (k+1) X.A)(hg:Gl X x)(hm:X.mg x=some (.ref C))(hb:zch X.K fd ps ds)(hd:Vals dvs ds)(hx:zdo CX X E)
  (ha:PA X (e::es) t) (hdb:(x == ("__debug__":Str))=false) (he:starEach (e::es) X.env=(false,eval e X.env)::starEach es X.env) (hpl:(backTo pos (starEach es X.env)).any (·.1)=false) :
  PE X (.Call (.Name x p) (e::es) [] pos) (znT C sp dvs E t):=by
 intro pins s σ H Q I h;refine wpAny_Call_Name_kw (zen I hg hm ?_ hdb);refine PySem.W.callWith_K (h₀:=X.base) I.ok.mod.kin M.kp (thn (ha pos pins s σ H _ I h) fun us s1 ⟨vs,H1,I1,r,q⟩=>⟨I1.kIn,?_⟩) he hpl;exact zkG M F hr hb hd hx I1 r q
end
section
variable{cl:Cf}{E:St->XK}{fs:List Fe}{fo:Fe}{G:List D->Sto->Out D}{σ:St}{H:Hp}{Q:VK}{n:Nat}{c m:Str}{ρ:Env}
theorem zeb:∀{fs:List Fe} {S S1:Sto} {ds:List D},zan fs ρ S=.ok ds S1->ds.length=fs.length
 | [],S,S1,ds,h=>by cases h;rfl
 | f::fs,S,S1,ds,h=>by
  unfold zan at h
  cases h1:f ρ S with
  | bad=>rw [h1] at h;cases h
  | exc c S2=>rw [h1] at h;cases h
  | ok d S2 =>
   rw [h1] at h;dsimp only [Out.bind] at h
   cases h2:zan fs ρ S2 with
   | bad=>rw [h2] at h;cases h
   | exc c S3=>rw [h2] at h;cases h
   | ok es S3=>rw [h2] at h;cases h;rw [List.length_cons,List.length_cons,zeb h2]
theorem zlf{B:Base}{w:Wd}{S:Sto}{v:V}{d:D}(R:Rel cl B σ w ρ S)(hv:Shd cl w v d)(h:zdb c m d S=true):∃a dx fs,v=.ref a/\w.H a=some (.ins (cl c) dx fs)/\fs.lookup m=none:=by
 unfold zdb at h
 cases d with
 | ref n =>
  dsimp only at h
  cases hS:S[n]? with
  | none=>rw [hS] at h;cases h
  | some ob =>
   rw [hS] at h;dsimp only at h;rw [Bool.and_eq_true] at h;obtain ⟨a,dx,fs,rfl,_,_,hH,hF⟩:=zhL R hv hS;have e:=of_decide_eq_true h.1;subst e;exact ⟨a,dx,fs,rfl,hH,hF.miss (by simpa using h.2)⟩
 | _=>cases h
theorem zsl(q:tE cl E (zbA c m G fo fs) σ H Q)(hn:fs.length+1=n):zgX (cl c) m (zg1 cl n false G) [] E (tE cl E fo) (tAs cl E fs) σ H Q:=by
 obtain ⟨B,w,ρ,S,rfl,R,q⟩:=q;refine ⟨B,w,ρ,S,rfl,R,?_⟩;unfold zbA at q
 cases hfo:fo ρ S with
 | bad=>rw [hfo] at q;exact q
 | exc c S1=>rw [hfo] at q;exact q
 | ok d S0 =>
 rw [hfo] at q;intro v w0 R0 F0 h0;dsimp only [Out.bind] at q
 cases hok:zdb c m d S0 with
 | false=>rw [hok] at q;exact q.elim
 | true =>
 rw [hok,if_pos rfl] at q;obtain ⟨a,dx,fs',rfl,hH,hm⟩:=zlf R0 h0 hok;refine ⟨a,dx,fs',rfl,hH,hm,B,w0,ρ,S0,rfl,R0,?_⟩
 cases hf:zan fs ρ S0 with
 | bad=>rw [hf] at q;exact q
 | exc c S1=>rw [hf] at q;exact fun w1 R1 F1=>q w1 R1 (F0.trans F1)
 | ok ds S1 =>
  rw [hf] at q;intro vs w1 R1 F1 h1;dsimp only at q;refine ⟨?_,w1.base,w1.inn,d::ds,S1,rfl,R1.wd.enter,?_,?_⟩
  ·rw [List.append_nil,List.length_cons,h1.length,zeb hf];exact hn
  ·rw [List.append_nil];exact .cons ((h0.up F1).up (zb9 w1)) (h1.up (zb9 w1))
  cases hg:G (d::ds) S1 with
  | bad=>rw [hg] at q;exact q
  | exc c S2 =>
   rw [hg] at q;intro w2 W2 F2;obtain ⟨R3,F3⟩:=R1.leave W2 F2;exact q (w1.back w2) R3 (F0.trans (F1.trans F3))
  | ok r S2 =>
   rw [hg] at q;intro v w2 W2 F2 r2;obtain ⟨R3,F3⟩:=R1.leave W2 F2;exact q v (w1.back w2) R3 (F0.trans (F1.trans F3)) (Shd.up (zcO W2) r2)
theorem zsk(q:tN cl E (zbA c m G fo fs) σ H Q)(hn:fs.length+1=n):zgX (cl c) m (zg1 cl n true G) [] E (tE cl E fo) (tAs cl E fs) σ H Q:=by
 obtain ⟨B,w,ρ,S,rfl,R,q⟩:=q;refine ⟨B,w,ρ,S,rfl,R,?_⟩;unfold zbA at q
 cases hfo:fo ρ S with
 | bad=>rw [hfo] at q;exact q
 | exc c S1=>rw [hfo] at q;exact q
 | ok d S0 =>
 rw [hfo] at q;intro v w0 R0 F0 h0;dsimp only [Out.bind] at q
 cases hok:zdb c m d S0 with
 | false=>rw [hok] at q;exact q.elim
 | true =>
 rw [hok,if_pos rfl] at q;obtain ⟨a,dx,fs',rfl,hH,hm⟩:=zlf R0 h0 hok;refine ⟨a,dx,fs',rfl,hH,hm,B,w0,ρ,S0,rfl,R0,?_⟩
 cases hf:zan fs ρ S0 with
 | bad=>rw [hf] at q;exact q
 | exc c S1=>rw [hf] at q;exact fun w1 R1 F1=>q w1 R1 (F0.trans F1)
 | ok ds S1 =>
  rw [hf] at q;intro vs w1 R1 F1 h1;dsimp only at q;refine ⟨?_,w1.base,w1.inn,d::ds,S1,rfl,R1.wd.enter,?_,?_⟩
  ·rw [List.append_nil,List.length_cons,h1.length,zeb hf];exact hn
  ·rw [List.append_nil];exact .cons ((h0.up F1).up (zb9 w1)) (h1.up (zb9 w1))
  cases hg:G (d::ds) S1 with
  | bad=>rw [hg] at q;exact q
  | exc c S2 =>
   rw [hg] at q;intro w2 W2 F2;obtain ⟨R3,F3⟩:=R1.leave W2 F2;exact q (w1.back w2) R3 (F0.trans (F1.trans F3))
  | ok r S2 =>
   rw [hg] at q;intro v w2 W2 F2 r2;obtain ⟨R3,F3⟩:=R1.leave W2 F2;obtain ⟨a,o,i,rfl,k1,k2,t⟩:=r2;have hfr:w1.base.Fr a=none:=(W2.own a _ k1).elim (fun z=>by cases z) fun z=>z
   have k3:(w1.back w2).ow a=some .far:=by
    show (if (w1.base.Fr a).isSome=true then w1.ow a else Root.out (w2.ow a))=_;rw [hfr,k1];rfl
   have hb:B.Fr a=none:=by
    cases z:B.Fr a with
    | none=>rfl
    | some u=>rw [zdn R1.wd z] at hfr;cases hfr
   have hd:=zif (w:=w1.back w2) (a:=a) (by rw [k3];exact Option.some_ne_none _);have:=q a o ((w1.back w2).del a) (R3.del k3 hb) (F0.trans (F1.trans (F3.trans hd))) (if_pos rfl) ((t.up (zcO W2)).up hd);rw [zkg (w:=w1.back w2) k2] at this;exact this
theorem zww{dds:List D}{dvs:List V}(hdv:∀w,Shds cl w dvs dds)(q:tE cl E (eMk c dds G fs) σ H Q)(hn:fs.length+dds.length+1=n):znT (cl c) (zg1 cl n false G) dvs E (tAs cl E fs) σ H Q:=by
 obtain ⟨B,w,ρ,S,rfl,R,q⟩:=q;refine ⟨B,w,ρ,S,rfl,R,?_⟩;unfold eMk at q
 cases hf:zan fs ρ S with
 | bad=>rw [hf] at q;exact q
 | exc c S1=>rw [hf] at q;exact q
 | ok ds S1 =>
  rw [hf] at q;intro vs w1 R1 F1 h1;dsimp only [Out.bind] at q;intro x dx hx hdx ne;obtain ⟨R2,F2⟩:=R1.made (c:=c) hx hdx ne
  have hmu:(w1.addO x dx (cl c) S1.length).mu[S1.length]?=some x:=by
   show (w1.mu++[x])[S1.length]?=some x;rw [List.getElem?_append_right (by rw [R1.wd.len];exact Nat.le_refl _),R1.wd.len,Nat.sub_self];rfl
  refine ⟨?_,(w1.addO x dx (cl c) S1.length).base,(w1.addO x dx (cl c) S1.length).inn,.ref S1.length::(ds++dds),S1++[⟨c,[]⟩],rfl,R2.wd.enter,?_,?_⟩
  ·rw [List.length_cons,List.length_append,h1.length,zeb hf,(hdv w1).length];exact hn
  ·exact .cons (.ref hmu) (((h1.up F2).up (zb9 _)).append (hdv _))
  cases hg:G (.ref S1.length::(ds++dds)) (S1++[⟨c,[]⟩]) with
  | bad=>rw [hg] at q;exact q
  | exc c S2 =>
   rw [hg] at q;intro w2 W2 F3;obtain ⟨R3,F4⟩:=R2.leave W2 F3;exact q ((w1.addO x dx _ S1.length).back w2) R3 (F1.trans (F2.trans F4))
  | ok r S2 =>
   rw [hg] at q;intro v w2 W2 F3 r2
   cases r with
   | non =>
    obtain ⟨R3,F4⟩:=R2.leave W2 F3;refine ⟨by cases r2;rfl,q (.ref x) ((w1.addO x dx _ S1.length).back w2) R3 (F1.trans (F2.trans F4)) (.ref (F4.mu _ _ hmu))⟩
   | _=>exact q.elim
end
end S2
namespace L2
open PySem PySem.Spec PyProof.Rows
section
variable{X:Cx}
def zvl(ns:List Int):Nat:=argBest (fun i j=>decide (ns.getD i 0<ns.getD j 0)) (ns.length-1)
def zys(ns:List Int):Int:=ns.getD (zvl ns) 0
end
end L2
namespace S2
open PySem PySem.Spec PyProof.Rows L2
def ztA:Operator->Option (Int->Int->Int) | .Add=>some (·+·) | .Sub=>some (· - ·) | _=>none
def zo8(i:Nat)(g:Int->Int->Int)(fe:Fe):Fs:=fun ρ S=>match ρ[i]? with
 | some (some (false,.int a))=>(match fe ρ S with
  | .ok (.int b) S1=>.nx (ρ.set i (some (false,.int (g a b)))) S1
  | .ok _ _=>.bad
  | .exc c S1=>.ex c ρ S1
  | .bad=>.bad)
 | _=>.bad
def lrD:D->Option D | .int n=>if decide (0<=n/\n<=1000) then some (.lst ((List.range n.toNat).map fun (i:Nat)=>D.int (i:Int))) else none | _=>none
section
variable{cl:Cf}{X:Cx}{E:St->XK}{e:Expr}{fe f:Fe}{pos:Pos}{own:Bool}
theorem zrb{i:Nat}{x:Str}{op:Operator}{g:Int->Int->Int}{p:Pos}(hop:ztA op=some g)(hN:X.N.Nodup)(hi:X.N[i]?=some x)(hx:Loc X.env.scope x)(he:PE X e (tE cl E fe))(hf:X.fn x=true\/X.env.scope.names.lookup x=some .local):PS X (.AugAssign (.Name x p) op e pos) (tS cl E own (zo8 i g fe)):=by
 have main:∀ti:TIp,PIp X op ti->(∀a b H Q,Q (.int (g a b)) H->ti (.int a) (.int b) H Q)->PS X (.AugAssign (.Name x p) op e pos) (tS cl E own (zo8 i g fe)):=by
  intro ti ho hti;refine PS.imp (zrI hN hi hx he ho hf) ?_;rintro De σ H ⟨B,w,ρ,S,rfl,R,q⟩;unfold zo8 at q;split at q
  ·rename_i a ha;obtain ⟨v,ev,rv⟩:=R.slots i false _ ha;have rv':Shd cl w v (.int a):=rv;cases rv';refine ⟨_,ev,B,w,ρ,S,rfl,R,?_⟩
   cases hfe:fe ρ S with
   | bad=>rw [hfe] at q;exact q
   | exc c S1=>rw [hfe] at q;exact fun w' R' F'=>q σ w' R' F'
   | ok d S1 =>
    rw [hfe] at q;intro y w1 R1 F1 h1
    cases d with
    | int b =>
     cases h1;exact hti a b _ _ (q _ w1 (R1.put (.int _)) F1)
    | _=>exact q.elim
  ·exact q.elim
 cases op<;>simp [ztA] at hop<;>subst hop
 ·exact main zwr zsH fun a b H Q q=>⟨a,b,rfl,rfl,q⟩
 ·exact main zwq zsG fun a b H Q q=>⟨a,b,rfl,rfl,q⟩
theorem zhs{w:Wd}:∀l:List Nat,Shds cl w (l.map fun (i:Nat)=>V.int (i:Int)) (l.map fun (i:Nat)=>D.int (i:Int))
 | []=>.nil
 | a::l=>.cons (.int _) (zhs l)
theorem zj5:bootBuiltins "list" = some (.type "list"):=by decide +kernel
theorem zun{p p2 pos2:Pos}(hc:X.calm=true)(hg:Gl X "list")(hm:X.mg "list" = none)(hg2:Gl X "range")(hm2:X.mg "range" = none)(he:PE X e (tE cl E f))(hs:starEach [e] X.env=[(false,eval e X.env)]) :
  PE X (.Call (.Name "list" p) [.Call (.Name "range" p2) [e] [] pos2] [] pos) (tN cl E (eUn lrD f)):=by
 refine PE.imp (zfa (zgK hc) hg hm zj5 (zcM (zrO hg2 hm2 (zcF he zfU hs) hs) zfb)) ?_;rintro σ H Q ⟨B,w,ρ,S,rfl,R,q⟩;refine ⟨B,w,ρ,S,rfl,R,?_⟩;unfold eUn at q
 cases hf:f ρ S with
 | bad=>rw [hf] at q;exact q.elim
 | exc c S1=>rw [hf] at q;simp only [zan,hf,Out.bind];exact q
 | ok d S1 =>
  rw [hf] at q;simp only [zan,hf,Out.bind];intro vs w1 R1 F1 sh;dsimp only [Out.bind] at q
  cases hl:lrD d with
  | none=>rw [hl] at q;exact q.elim
  | some r =>
   rw [hl] at q;unfold lrD at hl;split at hl
   ·rename_i n;split at hl
    ·rename_i hz;cases hl;have hz':=of_decide_eq_true hz
     cases sh with
     | cons h1 hn =>
      cases hn;cases h1;refine ⟨n,rfl,hz'.1,hz'.2,fun pr hpr=>⟨pr,n.toNat,rfl,?_,by omega,fun l hl=>?_⟩⟩
      ·rw [show ((n.toNat:Nat):Int)=n by omega];exact zaH
      ·exact q l _ (w1.add pr (.rng 0 n)) (R1.grow (zaI hpr _)) (F1.trans (zaI hpr _).fut) hl (.lst (zhs _))
    ·cases hl
   ·cases hl
theorem zmV:OpR X (compareOp .Is) (fun x y H Q=>∃i j,x=.bl i/\y=.bl j/\Q (.bl (decide (i=j))) H):=by
 intro pins s σ H x y v u Q I rx ry h;obtain ⟨i,j,rfl,rfl,q⟩:=h;cases rx;cases ry;refine wpAny_is_plain (by rfl) ?_;refine ⟨.bl (decide (i=j)),H,I,?_,q⟩;show _=Value.bool _;congr 1
 cases i<;>cases j<;>rfl
def ztu:D->D->Option D | .bl a,.bl b=>some (.bl (decide (a=b))) | _,_=>none
theorem zr9:OpD X cl (compareOp .Is) ztu:=by
 intro pins s σ H x y v u Q I rx ry h;obtain ⟨w,d,e,r,rfl,hx,hy,hg,q⟩:=h;unfold ztu at hg;split at hg
 ·cases hg;obtain rfl:=hx.blI;obtain rfl:=hy.blI;exact zmV pins s σ w.H _ _ v u Q I rx ry ⟨_,_,rfl,rfl,q _ w (Grow.refl _) (.bl _)⟩
 ·cases hg
def zuK:List D->Option D
 | [.lst l]=>(zdE l).bind fun ns=>if ns.isEmpty then none else some (.int (zys ns))
 | ds=>zyt ds
end
end S2
namespace S2
open PySem PySem.Spec PyProof.Rows L2
structure FnI where
 ar:Nat
 own:Bool
 run:List D->Sto->Out D
structure ObE where
 cur:Str
 fk:Str->Str->Bool
 df:Str->Bool
 mt:Str->Option (Str×FnI)
 mks:Str->Option (List D×FnI)
structure Genv where
 con:Str->Option D
 fn:Str->Option FnI
 blt:Str->Bool
 exc:Str->Bool
 und:Str->Str->Bool
 isx:Str->Str->Option Bool
 ob:ObE
 ns:Str->Bool
abbrev bmV:List Value:=[.type "ValueError",.type "Exception",.type "BaseException",.type "object"]
structure GOk(cl:Cf)(G:Genv)(P:Program)(wo:PySem.World)(K:PySem.W.Frag)(mg:Z6)(base:Heap)(k:Nat):Prop where
 con:∀x d,G.con x=some d->∃v u,mg x=some u/\zbx v u/\∀w,Shd cl w v d
 fn:∀x fi,G.fn x=some fi->∃f fd ps,mg x=some (.ref f)/\PySem.W.keepIn K (.ref f)=true/\zch K fd ps []/\FnOk P wo K mg base (CXE P wo) k f fd ps (zg1 cl fi.ar fi.own fi.run)
 blt:∀x,G.blt x=true->mg x=none
 exc:∀c,G.exc c=true->mg c=some (.ref (cl c))/\PySem.W.excIn K (cl c) bmV "ValueError.__new__" = true
 und:∀c C,G.und c C=true->L2.znN K (cl c) (cl C)
 isx:∀c C b,G.isx c C=some b->PySem.W.ExcCls K (cl c)/\PySem.W.kitOne K (.ref (cl c)) (zsU cl C)=some b
 fk:∀c f,G.ob.fk c f=true->zmf cl c f
 mt:∀m c fi,G.ob.mt m=some (c,fi)->∃f fd ps,Cls K (cl c)/\Meth K (cl c) m f/\zch K fd ps []/\FnOk P wo K mg base (CXE P wo) k f fd ps (zg1 cl fi.ar fi.own fi.run)
 mks:∀c dds fi,G.ob.mks c=some (dds,fi)->∃f fd ps dvs ds k',k'+1<=k/\mg c=some (.ref (cl c))/\Mk K (cl c) f/\zch K fd ps []/\zch K fd ps ds/\Vals dvs ds/\(∀w,Shds cl w dvs dds)/\FnOk P wo K mg base (CXE P wo) k' f fd ps (zg1 cl fi.ar false fi.run)
abbrev Names:=List (Str×NameKind)
structure Gx(cl:Cf)(G:Genv)(k:Nat)(X:Cx)(nm:Names)(N:List Str)(E:St->XK):Prop where
 gok:GOk cl G X.prog X.w X.K X.mg X.base k
 room:Room k X.A
 calm:X.calm=true
 pass:zdo (CXE X.prog X.w) X E
 eN:X.N=N
 kk:X.K=cl.K
 pp:X.prog=cl.P
 ww:X.w=cl.wo
 nd:N.Nodup
 vis:∀x kd,nm.lookup x=some kd->∃kd',X.env.scope.names.lookup x=some kd'/\(kd'=kd\/(kd=.free/\kd'=.cell))
 fnx:∀x,nm.lookup x=some .local->X.env.scope.names.lookup x=some .local
def idx:List Str->Str->Option Nat
 | [],_=>none
 | y::l,x=>if y=x then some 0 else (idx l x).map (·+1)
theorem zfo:∀{N:List Str} {x:Str} {i:Nat},idx N x=some i->N[i]?=some x
 | y::l,x,i,h=>by
  unfold idx at h;split at h
  ·rename_i e;cases h;rw [e];rfl
  ·cases hr:idx l x with
   | none=>rw [hr] at h;cases h
   | some j=>rw [hr] at h;cases h;simpa using zfo hr
def zhj(x:Str):Bool:=!(x == ("__debug__":Str))&&!(x == ("__classdict__":Str))&&!decide (x = "__name__")
theorem zfc{x:Str}(h:zhj x=true):(x == ("__debug__":Str))=false/\(x == ("__classdict__":Str))=false/\x ≠ "__name__":=by
 unfold zhj at h;simp only [Bool.and_eq_true,Bool.not_eq_true',decide_eq_false_iff_not] at h;exact ⟨h.1.1,h.1.2,h.2⟩
def zu3:Option NameKind->Bool | some .local=>true | some .cell=>true | some .free=>true | _=>false
def zci(nm:Names)(N:List Str)(x:Str):Option Nat:=if zu3 (nm.lookup x)&&zhj x then idx N x else none
def zco(nm:Names)(x:Str):Bool:=decide (nm.lookup x=some .globalImplicit)&&zhj x
section
variable{cl:Cf}{G:Genv}{k:Nat}{X:Cx}{nm:Names}{N:List Str}{E:St->XK}
theorem Gx.slot(g:Gx cl G k X nm N E){x:Str}{i:Nat}(h:zci nm N x=some i):X.N[i]?=some x/\Vis X.env.scope x/\(x == ("__debug__":Str))=false/\(x == ("__classdict__":Str))=false:=by
 unfold zci at h;split at h
 ·rename_i hv;rw [Bool.and_eq_true] at hv;obtain ⟨h1,h2,_⟩:=zfc hv.2;refine ⟨by rw [g.eN];exact zfo h,?_,h1,h2⟩
  cases hk:nm.lookup x with
  | none=>rw [hk] at hv;exact absurd hv.1 (by decide)
  | some kd =>
   obtain ⟨kd',e,z⟩:=g.vis x kd hk;rw [hk] at hv;unfold Vis;rw [e]
   rcases z with rfl | ⟨_,rfl⟩
   ·cases kd'<;>first | exact .inl rfl | exact .inr (.inl rfl) | exact .inr (.inr rfl) | exact absurd hv.1 (by decide)
   ·exact .inr (.inl rfl)
 ·cases h
theorem Gx.glob(g:Gx cl G k X nm N E){x:Str}(h:zco nm x=true):Gl X x/\(x == ("__debug__":Str))=false/\x ≠ "__name__":=by
 unfold zco at h;rw [Bool.and_eq_true] at h;obtain ⟨h1,_,h3⟩:=zfc h.2;obtain ⟨kd',e,z⟩:=g.vis x _ (of_decide_eq_true h.1)
 rcases z with rfl | ⟨z,_⟩
 ·exact ⟨e,h1,h3⟩
 ·cases z
end
abbrev Rec:=Names->List Str->Expr->Option (Bool×Fe)
def okE:Expr->Bool | .Starred _ _=>false | .Set _ _ _=>false | _=>true
theorem zaq{e:Expr}(h:okE e=true):zcm e=true:=by cases e<;>first | rfl | cases h
theorem zfd{e:Expr}{op:CmpOp}(h:okE e=true):behindInMarks op e=false:=by cases e<;>first | rfl | cases h
theorem zdZ{e:Expr}{env:PySem.Env}(h:okE e=true)(v:Value):foldedSetIterable e env v=pure v:=by cases e<;>first | rfl | cases h
def zbV:Expr->Bool | .IfExp _ _ _ _=>false | _=>true
def zbm(cl:Cf)(G:Genv)(k:Nat)(rc:Rec):Prop:=∀(X:Cx) (nm:Names) (N:List Str) (E:St->XK),Gx cl G k X nm N E->∀(e:Expr) (o:Bool) (f:Fe),rc nm N e=some (o,f) →
 (o=true->PE X e (tN cl E f))/\PE X e (tE cl E f)/\(zbV e=true->PT X e (tTr cl E f))/\okE e=true
def shE(rc:Rec)(nm:Names)(N:List Str)(e:Expr):Option Fe:=(rc nm N e).map (·.2)
def opE(rc:Rec)(nm:Names)(N:List Str)(e:Expr):Option Fe:=match e with
 | .Name x _=>(match zci nm N x with | some i=>some (zai i) | none=>shE rc nm N e)
 | _=>shE rc nm N e
def shL(rc:Rec)(nm:Names)(N:List Str):List Expr->Option (List Fe)
 | []=>some []
 | e::es=>(shE rc nm N e).bind fun f=>(shL rc nm N es).bind fun fs=>some (f::fs)
def opL(rc:Rec)(nm:Names)(N:List Str):List Expr->Option (List Fe)
 | []=>some []
 | e::es=>(opE rc nm N e).bind fun f=>(opL rc nm N es).bind fun fs=>some (f::fs)
section
variable{cl:Cf}{G:Genv}{k:Nat}{rc:Rec}{X:Cx}{nm:Names}{N:List Str}{E:St->XK}
theorem zaX(hs:zbm cl G k rc)(g:Gx cl G k X nm N E){e:Expr}{f:Fe}(h:shE rc nm N e=some f):PE X e (tE cl E f)/\(zbV e=true->PT X e (tTr cl E f))/\okE e=true:=by
 unfold shE at h
 cases hr:rc nm N e with
 | none=>rw [hr] at h;cases h
 | some p =>
  obtain ⟨o,f'⟩:=p;rw [hr] at h;cases h;obtain ⟨_,h2,h3,h4⟩:=hs X nm N E g e o _ hr;exact ⟨h2,h3,h4⟩
theorem zcg(hs:zbm cl G k rc)(g:Gx cl G k X nm N E){e:Expr}{f:Fe}(h:opE rc nm N e=some f):PE X e (tH cl E f)/\okE e=true:=by
 unfold opE at h;split at h
 ·rename_i x pos;split at h
  ·rename_i i hi;cases h;obtain ⟨h1,h2,h3,h4⟩:=g.slot hi;exact ⟨zrv h1 h2 h3 h4,rfl⟩
  ·obtain ⟨h1,_,h3⟩:=zaX hs g h;exact ⟨zkD h1,h3⟩
 ·obtain ⟨h1,_,h3⟩:=zaX hs g h;exact ⟨zkD h1,h3⟩
theorem zeW(hs:zbm cl G k rc)(g:Gx cl G k X nm N E):∀{es:List Expr} {fs:List Fe},shL rc nm N es=some fs->PA X es (tAs cl E fs)/\es.all zcm=true/\fs.length=es.length
 | [],fs,h=>by cases h;exact ⟨zfU,rfl,rfl⟩
 | e::es,fs,h=>by
  unfold shL at h
  cases h1:shE rc nm N e with
  | none=>rw [h1] at h;cases h
  | some f =>
   rw [h1] at h
   cases h2:shL rc nm N es with
   | none=>rw [h2] at h;cases h
   | some fs' =>
    rw [h2] at h;cases h;obtain ⟨a1,_,a3⟩:=zaX hs g h1;obtain ⟨b1,b2,b3⟩:=zeW hs g h2;exact ⟨zcF a1 b1 (zbv (zaq a3)),by rw [List.all_cons,zaq a3,b2];rfl,by rw [List.length_cons,List.length_cons,b3]⟩
theorem zoc(hs:zbm cl G k rc)(g:Gx cl G k X nm N E):∀{es:List Expr} {fs:List Fe},opL rc nm N es=some fs->PA X es (tHs cl E fs)/\es.all zcm=true/\fs.length=es.length
 | [],fs,h=>by cases h;exact ⟨zn0,rfl,rfl⟩
 | e::es,fs,h=>by
  unfold opL at h
  cases h1:opE rc nm N e with
  | none=>rw [h1] at h;cases h
  | some f =>
   rw [h1] at h
   cases h2:opL rc nm N es with
   | none=>rw [h2] at h;cases h
   | some fs' =>
    rw [h2] at h;cases h;obtain ⟨a1,a3⟩:=zcg hs g h1;obtain ⟨b1,b2,b3⟩:=zoc hs g h2;exact ⟨zkz a1 b1 (zbv (zaq a3)),by rw [List.all_cons,zaq a3,b2];rfl,by rw [List.length_cons,List.length_cons,b3]⟩
end
def zxv:Const->Option D
 | .int i=>some (.int i)
 | .bool b=>some (.bl b)
 | .none=>some .non
 | .str x=>some (.str x)
 | _=>none
def zvk:Operator->Option (D->D->Option D)
 | .Add=>some zb5 | .Sub=>some zqB | .Mult=>some zfO | .Mod=>some zkc | .FloorDiv=>some zsQ | _=>none
def zlu:Expr->Bool | .Constant .none _ _=>true | _=>false
def zlv:Expr->Bool | .Constant (.bool _) _ _=>true | _=>false
def ltD:=zqF fun i j=>decide (i<j)
def leD:=zqF fun i j=>decide (i<=j)
def gtD:=zqF fun i j=>decide (j<i)
def geD:=zqF fun i j=>decide (j<=i)
def zsT:CmpOp->Expr->Option (D->D->Option D)
 | .Eq,_=>some eqD | .NotEq,_=>some neD | .Lt,_=>some ltD | .LtE,_=>some leD | .Gt,_=>some gtD | .GtE,_=>some geD | .In,_=>some inD | .NotIn,_=>some zpE
 | .Is,b=>if zlu b then some zhq else if zlv b then some ztu else none
 | .IsNot,b=>if zlu b then some zmY else if zlv b then some zmZ else none
def zj6(rc:Rec)(nm:Names)(N:List Str)(op:BoolOp):List Expr->Option Fe
 | []=>none
 | [a]=>if zbV a then shE rc nm N a else none
 | a::b::r=>if zbV a then (shE rc nm N a).bind fun f=>(zj6 rc nm N op (b::r)).bind fun h=>some (match op with | .And=>zfK f h | .Or=>eOr f h) else none
structure BI where
 g:List D->Option D
 nw:Bool
def zl6(x:Str):Option BI :=
 if x = "len" then some ⟨zem,false⟩
 else if x = "all" then some ⟨zvv,false⟩
 else if x = "sum" then some ⟨zq0,false⟩
 else if x = "tuple" then some ⟨zb6,false⟩
 else if x = "list" then some ⟨zhn,true⟩
 else none
def zqN(x:Str):Option String:=if x = "int" then some "int" else if x = "bool" then some "bool" else if x = "tuple" then some "tuple" else if x = "str" then some "str" else if x = "list" then some "list" else none
def zvi(G:Genv)(t:Str):Bool:=if t = "ValueError" then G.blt t else G.exc t
def zqn(G:Genv)(rc:Rec)(nm:Names)(N:List Str)(x:Str)(args:List Expr):Option (Bool×Fe) :=
 if zco nm x then
  match G.fn x with
  | some fi=>if args.length=fi.ar then (shL rc nm N args).bind fun fs=>some (fi.own,eFn fi.run fs) else none
  | none=>if G.blt x then
    (if x = "isinstance" then (match args with
     | [a,.Name t _]=>if zco nm t&&G.blt t&&(zqN t).isSome then (zqN t).bind fun T=>(opE rc nm N a).bind fun f=>some (false,eUn (zeM T) f)
      else if zco nm t&&zvi G t then (opE rc nm N a).bind fun f=>some (false,eUn (zls G.isx t) f) else none
     | _=>none)
    else match args with
     | []=>none
     | _::_=>(zl6 x).bind fun bi=>(opL rc nm N args).bind fun fs=>some (bi.nw,zaE bi.g fs)) else none
 else none
def zsE:Expr->Bool | .Tuple _ _ _=>true | _=>false
def zib(G:Genv)(rc:Rec)(nm:Names)(N:List Str)(tg e:Expr):Option Fi:=match e with
 | .Call (.Name x p) args [] pos=>if x = "range" then (if zco nm x&&G.blt x then (match args with
   | [a]=>(shE rc nm N a).bind fun f=>some (zc7 f)
   | [a,b]=>(shE rc nm N a).bind fun f=>(shE rc nm N b).bind fun h=>some (zlP f h)
   | [a,b,c]=>(shE rc nm N a).bind fun f=>(shE rc nm N b).bind fun h=>(shE rc nm N c).bind fun g=>some (zlO f h g)
   | _=>none) else none)
  else if x = "enumerate" then (if zco nm x&&G.blt x&&zsE tg then (match args with
   | [a]=>(shE rc nm N a).bind fun f=>some (zgG f)
   | _=>none) else none)
  else (shE rc nm N e).map zaV
 | _=>(shE rc nm N e).map zaV
def zuk:Expr->Option (Str×Expr×Pos×Pos) | .Call (.Name y p) [a] [] q=>some (y,a,p,q) | _=>none
def spA:List Expr->Option (Str×Expr×Pos×Pos) | [e]=>zuk e | _=>none
theorem zre{args:List Expr}{c:Str×Expr×Pos×Pos}(h:spA args=some c):args=[.Call (.Name c.1 c.2.2.1) [c.2.1] [] c.2.2.2]:=by
 match args,h with
 | [e],h =>
  have h':zuk e=some c:=h;unfold zuk at h';split at h'
  ·cases h';rfl
  ·cases h'
def spG(G:Genv)(rc:Rec)(nm:Names)(N:List Str)(x:Str)(args:List Expr):Option (Bool×Fe):=(spA args).bind fun c =>
 if decide (x = "list")&&decide (c.1 = "range")&&zco nm "list" && G.blt "list" && zco nm "range" && G.blt "range" then (shE rc nm N c.2.1).map fun f=>(true,eUn lrD f)
 else none
section
variable{cl:Cf}{G:Genv}{k:Nat}{rc:Rec}{X:Cx}{nm:Names}{N:List Str}{E:St->XK}
theorem Gx.units(g:Gx cl G k X nm N E):X.A.units+64<cLine:=g.room.units
theorem zow{op:Operator}{gg:D->D->Option D}(h:zvk op=some gg):OpD X cl (binaryOp op) gg:=by
 cases op<;>simp [zvk] at h<;>subst h
 ·exact zsb
 ·exact zr4
 ·exact zr6
 ·exact zr7
 ·exact zsa
theorem zgf(g:Gx cl G k X nm N E){op:CmpOp}{b:Expr}{gg:D->D->Option D}(h:zsT op b=some gg):OpD X cl (compareOp op) gg:=by
 cases op<;>simp only [zsT] at h
 ·cases h;exact zuH g.kk g.units
 ·cases h;exact zuF g.kk g.units
 ·cases h;exact zgy zuB
 ·cases h;exact zgy zuC
 ·cases h;exact zgy zuD
 ·cases h;exact zgy zuE
 ·split at h
  ·cases h;exact zr8
  ·split at h
   ·cases h;exact zr9
   ·cases h
 ·split at h
  ·cases h;exact zpB
  ·split at h
   ·cases h;exact zpC
   ·cases h
 ·cases h;exact zuG g.kk g.units
 ·cases h;exact zr5 g.kk g.units
theorem zl5(hs:zbm cl G k rc)(g:Gx cl G k X nm N E){op:BoolOp}{pos:Pos}:∀{es:List Expr} {f:Fe},zj6 rc nm N op es=some f->PE X (.BoolOp op es pos) (tE cl E f)/\PW X (.BoolOp op es pos) (tTr cl E f)
 | [],f,h=>by cases h
 | [a],f,h=>by
  unfold zj6 at h;split at h
  ·rename_i ht;obtain ⟨h1,h2,_⟩:=zaX hs g h;refine ⟨zrQ h1,?_⟩
   cases op with
   | And=>exact zpe (h2 ht)
   | Or=>exact zrD (h2 ht)
  ·cases h
 | a::b::r,f,h=>by
  unfold zj6 at h;split at h
  ·rename_i ht
   cases h1:shE rc nm N a with
   | none=>rw [h1] at h;cases h
   | some fa =>
    rw [h1] at h
    cases h2:zj6 rc nm N op (b::r) with
    | none=>rw [h2] at h;cases h
    | some fb =>
     rw [h2] at h;obtain ⟨a1,a2,_⟩:=zaX hs g h1;obtain ⟨b1,b2⟩:=zl5 hs g (pos:=pos) h2
     cases op with
     | And=>cases h;exact ⟨zrw a1 b1,zqZ (a2 ht) b2⟩
     | Or=>cases h;exact ⟨zum a1 b1,zud (a2 ht) b2⟩
  ·cases h
theorem znK:bootBuiltins "all" = some (.builtin "all"):=by decide +kernel
theorem zgh:bootBuiltins "tuple" = some (.type "tuple"):=by decide +kernel
theorem zhD:bootBuiltins "list" = some (.type "list"):=by decide +kernel
theorem znJ:bootBuiltins "int" = some (.type "int"):=by decide +kernel
theorem zl4:bootBuiltins "bool" = some (.type "bool"):=by decide +kernel
theorem zty:bootBuiltins "max" = some (.builtin "max"):=by decide +kernel
theorem ztx:bootBuiltins "min" = some (.builtin "min"):=by decide +kernel
theorem ztz:bootBuiltins "abs" = some (.builtin "abs"):=by decide +kernel
theorem znI:bootBuiltins "str" = some (.type "str"):=by decide +kernel
theorem zs2(g:Gx cl G k X nm N E){x:Str}{bi:BI}{e:Expr}{es:List Expr}{fs:List Fe}{p pos:Pos}(h:zl6 x=some bi)(hg:zco nm x=true)(hb:G.blt x=true)(ha:PA X (e::es) (tHs cl E fs))(hp:(e::es).all zcm=true) :
  (bi.nw=true->PE X (.Call (.Name x p) (e::es) [] pos) (tN cl E (zaE bi.g fs)))/\PE X (.Call (.Name x p) (e::es) [] pos) (tE cl E (zaE bi.g fs)):=by
 obtain ⟨g1,g2,g3⟩:=g.glob hg;have m:=g.gok.blt x hb;rw [List.all_cons,Bool.and_eq_true] at hp;have st:=zbv (es:=es) (env:=X.env) hp.1;have pl:=zby (pos:=pos) (env:=X.env) hp.2
 have D1:∀{id:String} {gg:List D->Option D},zj9 X cl (.builtin id) gg->bootBuiltins x=some (.builtin id)->PE X (.Call (.Name x p) (e::es) [] pos) (tE cl E (zaE gg fs)):=fun hc hv =>
  PE.imp (zgx hc g1 m hv ha g3 g2 st pl) fun _ _ _ q=>zqW (fun _ _ _ z=>z) q
 have D2:∀{T:String} {gg:List D->Option D},zj9 X cl (.type T) gg->bootBuiltins x=some (.type T)->PE X (.Call (.Name x p) (e::es) [] pos) (tE cl E (zaE gg fs)):=fun hc hv =>
  PE.imp (zfa hc g1 m hv ha g3 g2 st pl) fun _ _ _ q=>zqW (fun _ _ _ z=>z) q
 have N2:∀{T:String} {gg:List D->Option D},zte X cl (.type T) gg->bootBuiltins x=some (.type T)->PE X (.Call (.Name x p) (e::es) [] pos) (tN cl E (zaE gg fs)):=fun hc hv =>
  PE.imp (zfa hc g1 m hv ha g3 g2 st pl) fun _ _ _ q=>zub (fun _ _ _ z=>z) q
 unfold zl6 at h;split at h
 ·rename_i e';cases h;exact ⟨(fun z=>absurd z (by decide)),D1 (zsW g.kk) (by rw [e'];exact PySem.boot_len)⟩
 split at h
 ·rename_i e';cases h;exact ⟨(fun z=>absurd z (by decide)),D1 (zsX g.calm) (by rw [e'];exact znK)⟩
 split at h
 ·rename_i e';cases h;exact ⟨(fun z=>absurd z (by decide)),D1 (zsV g.calm) (by rw [e'];exact PyProof.Rows.boot_sum)⟩
 split at h
 ·rename_i e';cases h;exact ⟨(fun z=>absurd z (by decide)),D2 znG (by rw [e'];exact zgh)⟩
 split at h
 ·rename_i e';cases h;have n:=N2 zqi (by rw [e'];exact zhD);exact ⟨fun _=>n,zdz n⟩
 ·cases h
theorem ztS{t:Str}{T:String}(h:zqN t=some T):bootBuiltins t=some (.type T):=by
 unfold zqN at h;split at h
 ·rename_i e;cases h;rw [e];exact znJ
 split at h
 ·rename_i e;cases h;rw [e];exact zl4
 split at h
 ·rename_i e;cases h;rw [e];exact zgh
 split at h
 ·rename_i e;cases h;rw [e];exact znI
 split at h
 ·rename_i e;cases h;rw [e];exact zhD
 ·cases h
theorem zqm(hs:zbm cl G k rc)(g:Gx cl G k X nm N E){x:Str}{args:List Expr}{o:Bool}{f:Fe}{p pos:Pos}(h:zqn G rc nm N x args=some (o,f)) :
  (o=true->PE X (.Call (.Name x p) args [] pos) (tN cl E f))/\PE X (.Call (.Name x p) args [] pos) (tE cl E f):=by
 unfold zqn at h;split at h
 ·rename_i hg;obtain ⟨g1,g2,g3⟩:=g.glob hg;split at h
  ·rename_i fi hfi;split at h
   ·rename_i hl;obtain ⟨fa,fd,ps,m1,m2,m3,m4⟩:=g.gok.fn x fi hfi
    cases h1:shL rc nm N args with
    | none=>rw [h1] at h;cases h
    | some fs =>
     rw [h1] at h;cases h;obtain ⟨a1,a2,a3⟩:=zeW hs g h1;have hlen:fs.length=fi.ar:=a3.trans hl
     have main:PE X (.Call (.Name x p) args [] pos) (zgZ (zg1 cl fi.ar fi.own fi.run) [] E (tAs cl E fs)):=by
      cases args with
      | nil =>
       cases h1;refine PE.imp (zk1 m4 g.room g1 m1 m2 m3 .nil g.pass g2) ?_;rintro σ H Q ⟨B,w,ρ,S,rfl,R,q⟩;exact q [] w R (Fut.refl _) .nil
      | cons e es =>
       rw [List.all_cons,Bool.and_eq_true] at a2;exact zmT m4 g.room g1 m1 m2 m3 .nil g.pass a1 g2 (zbv a2.1) (zby a2.2)
     cases ho:fi.own with
     | false =>
      rw [ho] at main;exact ⟨(fun z=>by cases z),PE.imp main fun _ _ _ q=>zs0 q hlen⟩
     | true =>
      rw [ho] at main;have n:PE X (.Call (.Name x p) args [] pos) (tN cl E (eFn fi.run fs)):=PE.imp main fun _ _ _ q=>zsZ q hlen
      exact ⟨fun _=>n,zdz n⟩
   ·cases h
  ·split at h
   ·rename_i hb;split at h
    ·rename_i hx;subst hx;split at h
     ·rename_i a t p2;split at h
      ·rename_i ht;rw [Bool.and_eq_true,Bool.and_eq_true] at ht;replace ht:=ht.1
       cases hT:zqN t with
       | none=>rw [hT] at h;cases h
       | some T =>
        rw [hT] at h
        cases h1:opE rc nm N a with
        | none=>rw [h1] at h;cases h
        | some fa =>
         rw [h1] at h;cases h;obtain ⟨t1,t2,t3⟩:=g.glob ht.1;obtain ⟨a1,a2⟩:=zcg hs g h1;exact ⟨(fun z=>by cases z),zo5 g1 (g.gok.blt _ hb) t1 (g.gok.blt _ ht.2) (ztS hT) t3 t2 (zaq a2) a1⟩
      ·split at h
       ·rename_i ht;rw [Bool.and_eq_true] at ht
        cases h1:opE rc nm N a with
        | none=>rw [h1] at h;cases h
        | some fa =>
         rw [h1] at h;cases h;obtain ⟨t1,t2,t3⟩:=g.glob ht.1;obtain ⟨a1,a2⟩:=zcg hs g h1;refine ⟨(fun z=>by cases z),?_⟩
         by_cases hv:t = "ValueError"
         ·subst hv
          have ht2:G.blt "ValueError" = true:=by simpa [zvi] using ht.2
          exact zn1 (vC:=.ty "ValueError") g1 (g.gok.blt _ hb) (zk2 t1 (g.gok.blt _ ht2) zj4 rfl t3 t2) (fun u r=>by rw [show u=Value.type "ValueError" from r];rfl) (fun c b hc=>g.gok.isx c _ b hc) (zaq a2) a1
         ·have ht2:G.exc t=true:=by simpa [zvi,hv] using ht.2
          exact zn1 (vC:=.ref (cl t)) g1 (g.gok.blt _ hb) (zkZ t1 (g.gok.exc t ht2).1 rfl t2) (fun u r=>by rw [show u=Value.ref (cl t) from r];unfold zsU;rw [if_neg hv]) (fun c b hc=>g.gok.isx c _ b hc) (zaq a2) a1
       ·cases h
     ·cases h
    ·split at h
     ·cases h
     ·rename_i e es
      cases h2:zl6 x with
      | none=>rw [h2] at h;cases h
      | some bi =>
       rw [h2] at h
       cases h1:opL rc nm N (e::es) with
       | none=>rw [h1] at h;cases h
       | some fs =>
        rw [h1] at h;cases h;obtain ⟨a1,a2,_⟩:=zoc hs g h1;exact zs2 g h2 hg hb a1 a2
   ·cases h
 ·cases h
theorem zia(hs:zbm cl G k rc)(g:Gx cl G k X nm N E){e tg:Expr}{fi:Fi}(h:zib G rc nm N tg e=some fi):PI X tg e (tI cl E fi)/\okE e=true:=by
 have gen:∀{e:Expr},(shE rc nm N e).map zaV=some fi->PI X tg e (tI cl E fi)/\okE e=true:=fun {e} h=>by
  cases h1:shE rc nm N e with
  | none=>rw [h1] at h;cases h
  | some f =>
   rw [h1] at h;cases h;obtain ⟨a1,_,a3⟩:=zaX hs g h1;exact ⟨zrh g.kk a1,a3⟩
 unfold zib at h;split at h
 ·rename_i x p args pos;split at h
  ·rename_i hx;subst hx;split at h
   ·rename_i hb;rw [Bool.and_eq_true] at hb;obtain ⟨g1,_,_⟩:=g.glob hb.1;have m:=g.gok.blt _ hb.2;split at h
    ·rename_i a
     cases h1:shE rc nm N a with
     | none=>rw [h1] at h;cases h
     | some f =>
      rw [h1] at h;cases h;obtain ⟨a1,_,a3⟩:=zaX hs g h1;exact ⟨zoY g1 m (zcF a1 zfU (zbv (zaq a3))) (zbv (zaq a3)),rfl⟩
    ·rename_i a b
     cases h1:shE rc nm N a with
     | none=>rw [h1] at h;cases h
     | some f =>
      rw [h1] at h
      cases h2:shE rc nm N b with
      | none=>rw [h2] at h;cases h
      | some f2 =>
       rw [h2] at h;cases h;obtain ⟨a1,_,a3⟩:=zaX hs g h1;obtain ⟨b1,_,b3⟩:=zaX hs g h2;have s1:=zbv (es:=[b]) (env:=X.env) (zaq a3);have s2:=zbv (es:=[]) (env:=X.env) (zaq b3);exact ⟨zoX g1 m (zcF a1 (zcF b1 zfU s2) s1) (by rw [s1,s2];rfl) s2,rfl⟩
    ·rename_i a b c
     cases h1:shE rc nm N a with
     | none=>rw [h1] at h;cases h
     | some f =>
      rw [h1] at h
      cases h2:shE rc nm N b with
      | none=>rw [h2] at h;cases h
      | some f2 =>
       rw [h2] at h
       cases h3:shE rc nm N c with
       | none=>rw [h3] at h;cases h
       | some f3 =>
        rw [h3] at h;cases h;obtain ⟨a1,_,a3⟩:=zaX hs g h1;obtain ⟨b1,_,b3⟩:=zaX hs g h2;obtain ⟨c1,_,c3⟩:=zaX hs g h3;have s1:=zbv (es:=[b,c]) (env:=X.env) (zaq a3);have s2:=zbv (es:=[c]) (env:=X.env) (zaq b3);have s3:=zbv (es:=[]) (env:=X.env) (zaq c3);exact ⟨zoW g1 m (zcF a1 (zcF b1 (zcF c1 zfU s3) s2) s1) s1 (zby (by simp [zaq b3,zaq c3])),rfl⟩
    ·cases h
   ·cases h
  split at h
  ·rename_i hx;subst hx;split at h
   ·rename_i hb;rw [Bool.and_eq_true,Bool.and_eq_true] at hb;obtain ⟨g1,_,_⟩:=g.glob hb.1.1;have m:=g.gok.blt _ hb.1.2;split at h
    ·rename_i a
     cases h1:shE rc nm N a with
     | none=>rw [h1] at h;cases h
     | some f =>
      rw [h1] at h;cases h;obtain ⟨a1,_,a3⟩:=zaX hs g h1
      cases tg with
      | Tuple es kk tp=>exact ⟨zoZ g1 m (zcF a1 zfU (zbv (zaq a3))) (zbv (zaq a3)),rfl⟩
      | _=>cases hb.2
    ·cases h
   ·cases h
  ·exact gen h
 ·exact gen h
theorem zuj(hs:zbm cl G k rc)(g:Gx cl G k X nm N E){x:Str}{args:List Expr}{p pos:Pos}{o:Bool}{f:Fe}(h:spG G rc nm N x args=some (o,f)):(o=true->PE X (.Call (.Name x p) args [] pos) (tN cl E f))/\PE X (.Call (.Name x p) args [] pos) (tE cl E f):=by
 unfold spG at h
 cases hc:spA args with
 | none=>rw [hc] at h;cases h
 | some c =>
 rw [hc] at h;obtain rfl:=zre hc;obtain ⟨y,a,p2,pos2⟩:=c;dsimp only [Option.bind] at h ⊢;clear hc;split at h
 ·rename_i hb;simp only [Bool.and_eq_true,decide_eq_true_eq] at hb;obtain ⟨⟨⟨⟨⟨rfl,rfl⟩,b1⟩,b2⟩,b3⟩,b4⟩:=hb;obtain ⟨g1,_,_⟩:=g.glob b1;obtain ⟨g2,_,_⟩:=g.glob b3
  cases h1:shE rc nm N a with
  | none=>rw [h1] at h;cases h
  | some fa =>
   rw [h1] at h;cases h;obtain ⟨a1,_,a3⟩:=zaX hs g h1;have n:=zun (p:=p) (p2:=p2) (pos:=pos) (pos2:=pos2) g.calm g1 (g.gok.blt _ b2) g2 (g.gok.blt _ b4) a1 (zbv (zaq a3));exact ⟨fun _=>n,zdz n⟩
 ·cases h
def zn3:Expr->Bool | .Name _ _=>true | .Call (.Name _ _) (_::_) _ _=>true | .Attribute (.Name _ _) _ _=>true | _=>false
def zpH(G:Genv)(rc:Rec)(nm:Names)(N:List Str)(o:Expr)(m:Str)(ap cp:Pos)(args:List Expr)(kws:List Keyword):Option (Bool×Fe) :=
 if kws.isEmpty&&zn3 o&&(ap.endLine == cp.line)&&decide (args.length<30) then (G.ob.mt m).bind fun c=>if args.length+1=c.2.ar then (shE rc nm N o).bind fun fo=>(shL rc nm N args).bind fun fs=>some (c.2.own,zbA c.1 m c.2.run fo fs) else none else none
def mkG(G:Genv)(rc:Rec)(nm:Names)(N:List Str)(x:Str)(args:List Expr):Option (Bool×Fe) :=
 if zco nm x&&!args.isEmpty then (G.ob.mks x).bind fun c=>(shL rc nm N args).bind fun fs =>
  if args.length+1=c.2.ar then some (false,eMk x [] c.2.run fs) else if args.length+c.1.length+1=c.2.ar then some (false,eMk x c.1 c.2.run fs) else none
 else none
def zgC:Expr->Bool | .Name _ _=>true | _=>false
def zvd(G:Genv)(rc:Rec)(nm:Names)(N:List Str)(o:Expr)(f:Str):Option (Bool×Fe):=if zgC o&&!G.ob.df f&&G.ob.fk G.ob.cur f then (shE rc nm N o).map fun fo=>(false,zfJ G.ob.cur f fo) else none
def zvn:Expr->Option (Expr×Str×Pos) | .Attribute o m p=>some (o,m,p) | _=>none
theorem zl8{e:Expr}{x:Expr×Str×Pos}(h:zvn e=some x):e=.Attribute x.1 x.2.1 x.2.2:=by cases e<;>first | (cases h;done) | (cases h;rfl)
def nmF:Expr->Option (Str×Pos) | .Name x p=>some (x,p) | _=>none
theorem ziV{e:Expr}{x:Str×Pos}(h:nmF e=some x):e=.Name x.1 x.2:=by cases e<;>first | (cases h;done) | (cases h;rfl)
def zom:List CmpOp->Bool | [.NotIn]=>true | _=>false
def zwt:List Expr->Option Expr | [a]=>some a | _=>none
def zuI(G:Genv)(rc:Rec)(nm:Names)(N:List Str)(a:Expr)(ops:List CmpOp)(bs:List Expr):Option (Bool×Fe) :=
 if zom ops then (zwt bs).bind fun b=>(zvn b).bind fun t=>if zgC t.1&&G.ob.df t.2.1&&G.ob.fk G.ob.cur t.2.1 then (shE rc nm N a).bind fun fa=>(shE rc nm N t.1).bind fun fo=>some (false,zop G.ob.cur t.2.1 fa fo) else none else none
def zva(G:Genv)(rc:Rec)(nm:Names)(N:List Str)(a i:Expr):Option (Bool×Fe) :=
 (zvn a).bind fun t=>if zgC t.1&&G.ob.df t.2.1&&G.ob.fk G.ob.cur t.2.1 then (nmF i).bind fun x=>(zci nm N x.1).bind fun j=>(shE rc nm N t.1).bind fun fo=>some (false,zjX G.ob.cur t.2.1 fo j) else none
theorem Gx.same(g:Gx cl G k X nm N E):Same' cl X:=⟨g.kk,g.pp,g.ww⟩
theorem Gx.u16(g:Gx cl G k X nm N E):X.A.units+16<cLine:=Nat.lt_of_le_of_lt (Nat.add_le_add_left (by decide) _) g.units
theorem zaC{α β:Type}{o:Option α}{f:α->Option β}{b:β}(h:o.bind f=some b):∃a,o=some a/\f a=some b:=by
 cases o with
 | none=>cases h
 | some a=>exact ⟨a,rfl,h⟩
theorem zsM(hs:zbm cl G k rc)(g:Gx cl G k X nm N E){o:Expr}{f:Str}{pos:Pos}{w:Bool}{fe:Fe}(h:zvd G rc nm N o f=some (w,fe)):w=false/\PE X (.Attribute o f pos) (tE cl E fe):=by
 unfold zvd at h;split at h
 ·rename_i hc;rw [Bool.and_eq_true,Bool.and_eq_true] at hc
  cases h1:shE rc nm N o with
  | none=>rw [h1] at h;cases h
  | some fo =>
   rw [h1] at h;cases h;refine ⟨rfl,zrt (g.gok.fk _ _ hc.2) g.kk (zaX hs g h1).1 ?_⟩
   cases o<;>first | rfl | cases hc.1.1
 ·cases h
theorem zsf(hs:zbm cl G k rc)(g:Gx cl G k X nm N E){a:Expr}{ops:List CmpOp}{bs:List Expr}{pos:Pos}{w:Bool}{fe:Fe}(h:zuI G rc nm N a ops bs=some (w,fe)):w=false/\PE X (.Compare a ops bs pos) (tE cl E fe)/\PT X (.Compare a ops bs pos) (tTr cl E fe):=by
 unfold zuI at h;split at h
 ·rename_i hn
  have eo:ops=[.NotIn]:=by
   unfold zom at hn;split at hn
   ·rfl
   ·cases hn
  subst eo;obtain ⟨b,h1,hz⟩:=zaC h;obtain ⟨t,h2,hy⟩:=zaC hz
  have eb:bs=[b]:=by
   unfold zwt at h1;split at h1
   ·cases h1;rfl
   ·cases h1
  have e2:=zl8 h2;clear h hz h1 h2;subst eb;subst e2;obtain ⟨o,f,ap⟩:=t;dsimp only at hy ⊢;split at hy
  ·rename_i hc;rw [Bool.and_eq_true,Bool.and_eq_true] at hc;obtain ⟨fa,h3,hy⟩:=zaC hy;obtain ⟨fo,h4,hy⟩:=zaC hy;cases hy
   have hb:attributeBase o f X.env (eval o X.env)=eval o X.env:=by cases o<;>first | rfl | cases hc.1.1
   exact ⟨rfl,zrq g.u16 g.same (g.gok.fk _ _ hc.2) (zaX hs g h3).1 (zaX hs g h4).1 hb rfl,zq4 g.u16 g.same (g.gok.fk _ _ hc.2) (zaX hs g h3).1 (zaX hs g h4).1 hb rfl⟩
  ·cases hy
 ·cases h
theorem zsJ(hs:zbm cl G k rc)(g:Gx cl G k X nm N E){a i:Expr}{pos:Pos}{w:Bool}{fe:Fe}(h:zva G rc nm N a i=some (w,fe)):w=false/\PE X (.Subscript a i pos) (tE cl E fe):=by
 unfold zva at h;obtain ⟨t,h2,hz⟩:=zaC h;have e2:=zl8 h2;clear h h2;subst e2;obtain ⟨o,f,ap⟩:=t;dsimp only at hz ⊢;split at hz
 ·rename_i hc;rw [Bool.and_eq_true,Bool.and_eq_true] at hc;obtain ⟨x,h3,hz⟩:=zaC hz;obtain ⟨j,h4,hz⟩:=zaC hz;obtain ⟨fo,h5,hz⟩:=zaC hz;cases hz;have e3:=ziV h3;clear h3;subst e3;obtain ⟨s1,s2,s3,s4⟩:=g.slot h4;refine ⟨rfl,zo6 s1 s2 s3 s4 g.u16 g.same (g.gok.fk _ _ hc.2) (zaX hs g h5).1 ?_ (fun _ _=>rfl)⟩
  cases o<;>first | rfl | cases hc.1.1
 ·cases hz
theorem zza{pos:Pos}{env:PySem.Env}{args:List Expr}(hp:args.all zcm=true)(hl:args.length<30):methodCallForm (args.length+0) (backTo pos (starEach args env)) (backToKw pos (keywordEach [] env))=true:=by
 have h:=zby (pos:=pos) (env:=env) hp;unfold methodCallForm
 have h1:(backTo pos (starEach args env)).all (!·.1)=true:=by
  rw [List.all_eq_not_any_not];simpa using h
 rw [h1];show (true&&true&&decide (args.length+0+0<30))=true;rw [decide_eq_true (by omega)];rfl
theorem zle{o:Expr}{m:Str}{ap pos:Pos}{env:PySem.Env}{args:List Expr}(hb:attributeBase o m env (eval o env)=eval o env)(hf:methodCallForm (args.length+0) (backTo pos (starEach args env)) (backToKw pos (keywordEach [] env))=true)(hp:(ap.endLine == pos.line)=true) :
  eval (.Call (.Attribute o m ap) args [] pos) env=(do
   let ov ← eval o env
   standAt ap.atName
   let (f,first) ← holding [ov] (getMethod ov m (do return (← importBound o env).getD true))
   callWith pos f first (backTo pos (starEach args env)) (backToKw pos (keywordEach [] env))):=by
 show (do
  let ov ← attributeBase o m env (eval o env)
  standAt ap.atName
  methodCall o m ap pos env ov (args.length+0) (backTo pos (starEach args env)) (backToKw pos (keywordEach [] env)))=_
 rw [hb]
 have e:∀ov,methodCall o m ap pos env ov (args.length+0) (backTo pos (starEach args env)) (backToKw pos (keywordEach [] env))=(do
   let (f,first) ← holding [ov] (getMethod ov m (do return (← importBound o env).getD true))
   callWith pos f first (backTo pos (starEach args env)) (backToKw pos (keywordEach [] env))):=fun ov=>by
  unfold methodCall calleeOf methodCallPos;rw [hf,hp];rfl
 simp only [e]
theorem zpG(hs:zbm cl G k rc)(g:Gx cl G k X nm N E){o:Expr}{m:Str}{args:List Expr}{kws:List Keyword}{ap pos:Pos}{w:Bool}{fe:Fe}(h:zpH G rc nm N o m ap pos args kws=some (w,fe)):(w=true->PE X (.Call (.Attribute o m ap) args kws pos) (tN cl E fe))/\PE X (.Call (.Attribute o m ap) args kws pos) (tE cl E fe):=by
 unfold zpH at h;split at h
 ·rename_i hc;simp only [Bool.and_eq_true,decide_eq_true_eq] at hc;obtain ⟨⟨⟨z1,z2⟩,z3⟩,z4⟩:=hc;obtain rfl:=List.isEmpty_iff.mp z1;obtain ⟨⟨c,fi⟩,h1,h⟩:=zaC h;dsimp only at h;split at h
  ·rename_i hl;obtain ⟨fo,h2,h⟩:=zaC h;obtain ⟨fs,h3,h⟩:=zaC h;cases h;obtain ⟨f,fd,ps,c1,c2,c3,c4⟩:=g.gok.mt m c fi h1;obtain ⟨a1,a2,a3⟩:=zeW hs g h3
   have hlen:fs.length+1=fi.ar:=by rw [a3];exact hl
   have hb:attributeBase o m X.env (eval o X.env)=eval o X.env:=by
    unfold zn3 at z2
    split at z2<;>first | rfl | cases z2
   have ht:=zle (ap:=ap) hb (zza (pos:=pos) a2 z4) z3
   have main:PE X (.Call (.Attribute o m ap) args [] pos) (zgX (cl c) m (zg1 cl fi.ar fi.own fi.run) [] E (tE cl E fo) (tAs cl E fs)):=by
    cases args with
    | nil =>
     cases h3;refine PE.imp (zkW (zaX hs g h2).1 c1 c2 c4 g.room c3 .nil g.pass ht) ?_;rintro σ H Q ⟨B,w,ρ,S,rfl,R,q⟩;refine ⟨B,w,ρ,S,rfl,R,?_⟩
     cases hfo:fo ρ S with
     | bad=>rw [hfo] at q;exact q
     | exc c S1=>rw [hfo] at q;exact q
     | ok d S1 =>
      rw [hfo] at q;intro v w1 R1 F1 sh;obtain ⟨a,dx,fs,e1,e2,e3,B',w',ρ',S',e4,R',q⟩:=q v w1 R1 F1 sh;refine ⟨a,dx,fs,e1,e2,e3,?_⟩;have:=q [] w' R' (Fut.refl _) .nil;rw [e4] at this;exact this
    | cons e es =>
     rw [List.all_cons,Bool.and_eq_true] at a2;exact zmQ (zaX hs g h2).1 c1 c2 c4 g.room c3 .nil g.pass a1 (zbv a2.1) (zby a2.2) ht
   cases ho:fi.own with
   | false =>
    rw [ho] at main;exact ⟨(fun z=>by cases z),PE.imp main fun _ _ _ q=>zsl q hlen⟩
   | true =>
    rw [ho] at main;have n:=PE.imp main fun _ _ _ q=>zsk q hlen
    exact ⟨fun _=>n,zdz n⟩
  ·cases h
 ·cases h
theorem zuJ(hs:zbm cl G k rc)(g:Gx cl G k X nm N E){x:Str}{args:List Expr}{p pos:Pos}{w:Bool}{fe:Fe}(h:mkG G rc nm N x args=some (w,fe)):w=false/\PE X (.Call (.Name x p) args [] pos) (tE cl E fe):=by
 unfold mkG at h;split at h
 ·rename_i hc;rw [Bool.and_eq_true] at hc;obtain ⟨⟨dds,fi⟩,h1,h⟩:=zaC h;obtain ⟨fs,h2,h⟩:=zaC h;dsimp only at h;obtain ⟨f,fd,ps,dvs,ds,k',hk,mC,M,B0,BD,vd,sd,F⟩:=g.gok.mks x dds fi h1;obtain ⟨a1,a2,a3⟩:=zeW hs g h2;obtain ⟨g1,g2,g3⟩:=g.glob hc.1
  cases args with
  | nil=>cases hc.2
  | cons e es =>
   rw [List.all_cons,Bool.and_eq_true] at a2;have hr:Room (k'+1) X.A:=g.room.mono hk;split at h
   ·rename_i hl;cases h;exact ⟨rfl,PE.imp (ziQ M F hr g1 mC B0 .nil g.pass a1 g2 (zbv a2.1) (zby a2.2)) fun _ _ _ q=>zww (dds:=[]) (fun _=>.nil) q (by rw [a3];exact hl)⟩
   ·split at h
    ·rename_i hl;cases h;exact ⟨rfl,PE.imp (ziQ M F hr g1 mC BD vd g.pass a1 g2 (zbv a2.1) (zby a2.2)) fun _ _ _ q=>zww sd q (by rw [a3];exact hl)⟩
    ·cases h
 ·cases h
end
end S2
namespace S2
open PySem PySem.Spec PyProof.Rows L2
def zpY:D->Bool | .lst _=>true | _=>false
theorem zpX{d:D}(h:zpY d=true):∃l,d=.lst l:=by cases d<;>first | exact ⟨_,rfl⟩ | cases h
def Base.ext(B:Base)(w:Wd)(bs:List Addr):Base:=⟨fun a=>if a∈bs then w.H a else B.Fr a,fun a=>if a∈bs then some .far else B.fw a⟩
def Far(cl:Cf)(B:Base)(w:Wd):List Addr->List (List D)->Prop:=Paired fun b row=>(w.ow b=some .far/\B.Fr b=none)/\∃xs,w.H b=some (.lst xs)/\Shds cl w xs row
section
variable{cl:Cf}{B:Base}{w w':Wd}{S:Sto}
theorem Far.mem:∀{bs:List Addr} {rows:List (List D)},Far cl B w bs rows->∀b∈bs,w.ow b=some .far/\B.Fr b=none/\∃xs,w.H b=some (.lst xs)
 | _,_,.nil,_,h=>by cases h
 | _,_,.cons h t,b,hb=>by
  rcases List.mem_cons.mp hb with rfl | hb
  ·obtain ⟨xs,e,_⟩:=h.2;exact ⟨h.1.1,h.1.2,xs,e⟩
  ·exact Far.mem t b hb
theorem Far.move{B':Base}:∀{bs:List Addr} {rows:List (List D)},Far cl B w bs rows->(F:Fut w w')->(∀b∈bs,w'.ow b=some .far/\B'.Fr b=none/\w'.H b=w.H b)->Far cl B' w' bs rows
 | _,_,.nil,_,_=>.nil
 | _,_,.cons h t,F,k=>by
  obtain ⟨xs,e,r⟩:=h.2;obtain ⟨k1,k2,k3⟩:=k _ (.head _);exact .cons ⟨⟨k1,k2⟩,xs,k3.trans e,r.up F⟩ (Far.move t F fun b hb=>k b (.tail _ hb))
theorem Far.snoc{b:Addr}{row:List D}(h:(w.ow b=some .far/\B.Fr b=none)/\∃xs,w.H b=some (.lst xs)/\Shds cl w xs row):∀{bs:List Addr} {rows:List (List D)},Far cl B w bs rows->Far cl B w (bs++[b]) (rows++[row])
 | _,_,.nil=>.cons h .nil
 | _,_,.cons h' t=>.cons h' (Far.snoc h t)
theorem Far.length:∀{bs:List Addr} {rows:List (List D)},Far cl B w bs rows->bs.length=rows.length
 | _,_,.nil=>rfl
 | _,_,.cons _ t=>by rw [List.length_cons,List.length_cons,Far.length t]
theorem World'.ext(W:World' cl B w S){bs:List Addr}(h:∀b∈bs,w.ow b=some .far):World' cl (B.ext w bs) w S where
 fr:=fun a o e=>by
  have e':(if a∈bs then w.H a else B.Fr a)=some o:=e;show w.H a=some o/\w.ow a=(if a∈bs then some .far else B.fw a);split at e'
  ·rename_i ha;rw [if_pos ha];exact ⟨e',h a ha⟩
  ·rename_i ha;rw [if_neg ha];exact W.fr a o e'
 own:=fun a r e=>by
  show r=.far\/(if a∈bs then w.H a else B.Fr a)=none
  by_cases ha:a∈bs
  ·rw [h a ha] at e;cases e;exact .inl rfl
  ·rw [if_neg ha];exact W.own a r e
 len:=W.len
 obj:=W.obj
theorem World'.unext{bs:List Addr}{w0:Wd}(W:World' cl (B.ext w0 bs) w S)(h:∀b∈bs,B.Fr b=none):World' cl B w S where
 fr:=fun a o e=>by
  by_cases ha:a∈bs
  ·rw [h a ha] at e;cases e
  ·have:=W.fr a o (by show (if a∈bs then w0.H a else B.Fr a)=_;rw [if_neg ha];exact e);refine ⟨this.1,this.2.trans ?_⟩;show (if a∈bs then some .far else B.fw a)=_;rw [if_neg ha]
 own:=fun a r e=>by
  by_cases ha:a∈bs
  ·exact .inr (h a ha)
  ·rcases W.own a r e with z | z
   ·exact .inl z
   ·have z':(if a∈bs then w0.H a else B.Fr a)=none:=z;rw [if_neg ha] at z';exact .inr z'
 len:=W.len
 obj:=W.obj
theorem World'.extAt{bs:List Addr}{w0:Wd}(W:World' cl (B.ext w0 bs) w S){b:Addr}(hb:b∈bs){o:HO}(h:w0.H b=some o):w.H b=some o/\w.ow b=some .far:=by
 have:=W.fr b o (by show (if b∈bs then w0.H b else B.Fr b)=_;rw [if_pos hb];exact h);refine ⟨this.1,this.2.trans ?_⟩;show (if b∈bs then some .far else B.fw b)=_;rw [if_pos hb]
def Wd.addFar(w:Wd)(p:Addr)(o:HO):Wd:=⟨upd w.H p o,fun a=>if a=p then some .far else w.ow a,w.mu⟩
theorem znn{p:Addr}(h:w.H p=none)(o:HO):Grow w (w.addFar p o) where
 keep:=fun a u ha=>by
  have n:a≠p:=zau ha h;refine ⟨?_,?_⟩
  ·show upd w.H p o a=_;rw [zam n];exact ha
  ·show (if a=p then some .far else w.ow a)=_;rw [if_neg n]
 new:=fun a r h1 h2=>by
  have h1':(if a=p then some .far else w.ow a)=some r:=h1;split at h1'
  ·cases h1';exact .inr rfl
  ·exact .inl h1'
 mu:=rfl
end
def tM(cl:Cf)(E:St->XK)(f:Fe):TE:=fun σ H Q=>∃B w ρ S,w.H=H/\Rel cl B σ w ρ S/\match f ρ S with
 | .ok d S'=>∀p bs rows w',d=.lst (rows.map D.lst)->Rel cl B σ w' ρ S'->Fut w w'->w'.H p=none->bs.Nodup->Far cl B w' bs rows->Q (.ref p) (upd w'.H p (.lst (bs.map V.ref)))
 | .exc c S'=>∀w',Rel cl B σ w' ρ S'->Fut w w'->E σ (.ref (cl c)) none w'.H
 | .bad=>False
def zfB(n:Nat)(tg:Tg)(it:Fi)(c elt:Fe)(caps:List Nat):Fe:=fun ρ S=>(it ρ S).bind fun ds S1=>match zbh tg c elt (zaF n caps ρ) ds S1 with
 | .ok ys S2=>if small ys.length&&ys.all zpY then .ok (.lst ys) S2 else .bad
 | _=>.bad
section
variable{X:Cx}{cl:Cf}{E:St->XK}
theorem zou{fi:Fi}{t:Tg}{fc fe:Fe}{n:Nat}{caps:List (Str×Nat)}{σ:St}{H:Hp}{Q:VK}(q:tM cl E (zfB n t fi fc fe (caps.map (·.2))) σ H Q) :
  zgY (tI cl E fi) (tG cl n t) (tTr cl noE fc) (tN cl noE fe) n caps σ H Q:=by
 obtain ⟨B,w,ρ,S,rfl,R,q⟩:=q;refine ⟨B,w,ρ,S,rfl,R,?_⟩;unfold zfB at q
 cases hf:fi ρ S with
 | bad=>rw [hf] at q;exact q
 | exc c S1=>rw [hf] at q;exact q
 | ok ds S1 =>
  rw [hf] at q;dsimp only [Out.bind] at q;intro J w0 R0 F0 hJ
  cases hcd:zbh t fc fe (zaF n (caps.map (·.2)) ρ) ds S1 with
  | bad=>rw [hcd] at q;exact q.elim
  | exc _ _=>rw [hcd] at q;exact q.elim
  | ok all Sf =>
   rw [hcd] at q;dsimp only at q
   cases hz:(small all.length&&all.all zpY) with
   | false=>rw [hz,if_neg (by decide)] at q;exact q.elim
   | true =>
    rw [hz,if_pos rfl] at q;rw [Bool.and_eq_true] at hz;obtain ⟨hz,hlst⟩:=hz;dsimp only at q
    refine ⟨fun i m ys σ' H'=>m=ds.length-i/\i<=ds.length/\σ'.length=n+caps.length/\σ'.drop n=(caps.map fun p=>(σ[p.2]?).join)/\∃w1 S2 bs rows zbS,w1.H=H'/\Fut w0.inn w1/\World' cl w0.base w1 S2/\ys=bs.map V.ref/\bs.Nodup/\Far cl w0.base w1 bs rows/\zbh t fc fe (zaF n (caps.map (·.2)) ρ) (ds.drop i) S2=.ok zbS Sf/\rows.map D.lst++zbS=all,
     ⟨ds.length,by simp,Nat.zero_le _,by simp [capσ],by simp [capσ],w0.inn,S1,[],[],all,rfl,Fut.refl _,R0.wd.enter,rfl,List.nodup_nil,.nil,by rw [List.drop_zero];exact hcd,rfl⟩,?_⟩
    rintro i m ys σ1 H1 ⟨rfl,hi,hl1,hd1,w1,S2,bs,rows,zbS,rfl,F1,W1,rfl,nd,fa,hrest,hall⟩;refine ⟨?_,?_⟩
    ·rw [List.length_map,fa.length];refine Nat.le_trans ?_ (za7 hz);rw [<-hall,List.length_append,List.length_map];omega
    have F1':Fut w0 w1:=(zb9 w0).trans F1
    by_cases hlt:i<ds.length
    ·obtain ⟨d,hdi⟩:∃d,ds[i]?=some d:=⟨ds[i],List.getElem?_eq_getElem hlt⟩
     have hdr:ds.drop i=d::ds.drop (i+1):=by
      rw [List.drop_eq_getElem_cons hlt];rw [List.getElem?_eq_getElem hlt] at hdi;cases hdi;rfl
     rw [hdr] at hrest;unfold zbh at hrest;refine .inr ⟨hJ.go w1 F1' i hlt,fun x H' y=>?_⟩;obtain ⟨w2,rfl,g2,s2⟩:=hJ.yld w1 F1' i d x H' hdi y;have fm:=fa.mem;have WB:World' cl (w0.base.ext w1 bs) w1 S2:=W1.ext fun b hb=>(fm b hb).1
     have R1:Rel cl (w0.base.ext w1 bs) σ1 w2 (zaF n (caps.map (·.2)) ρ) S2:=zht R0 (WB.grow g2) (F1'.trans g2.fut) hl1 hd1
     have late:∀{w4:Wd} {S4:Sto},World' cl (w0.base.ext w1 bs) w4 S4->Fut w1 w4->World' cl w0.base w4 S4/\Far cl w0.base w4 bs rows:=fun {w4 S4} W4 F4 =>
      ⟨W4.unext fun b hb=>(fm b hb).2.1,fa.move F4 fun b hb=>by
       obtain ⟨_,h2,xs,h3⟩:=fm b hb;obtain ⟨k1,k2⟩:=W4.extAt hb h3
       exact ⟨k2,h2,k1.trans h3.symm⟩⟩
     cases hp:t.put (zaF n (caps.map (·.2)) ρ) d with
     | none=>rw [hp] at hrest;cases hrest
     | some ρ1 =>
      rw [hp] at hrest;dsimp only at hrest;refine ⟨w0.base.ext w1 bs,w2,_,S2,d,ρ1,rfl,R1,s2,hp,fun σ2 hk1 hk2 R2=>⟨w0.base.ext w1 bs,w2,ρ1,S2,rfl,R2,?_⟩⟩
      cases hc:fc ρ1 S2 with
      | bad=>rw [hc] at hrest;cases hrest
      | exc _ _=>rw [hc] at hrest;cases hrest
      | ok b S3 =>
       rw [hc] at hrest;dsimp only [Out.bind] at hrest ⊢
       cases hb:isB b with
       | none=>rw [hb] at hrest;cases hrest
       | some bb =>
        rw [hb] at hrest;intro w3 R3 F3
        cases bb with
        | false =>
         obtain ⟨W3,fa3⟩:=late R3.wd (g2.fut.trans F3);exact znj ⟨ds.length-(i+1),by omega,rfl,hlt,hk1.trans hl1,hk2.trans hd1,w3,S3,bs,rows,zbS,rfl,F1.trans (g2.fut.trans F3),W3,rfl,nd,fa3,hrest,hall⟩
        | true =>
         refine zni ⟨w0.base.ext w1 bs,w3,ρ1,S3,rfl,R3,?_⟩;dsimp only at hrest
         cases he:fe ρ1 S3 with
         | bad=>rw [he] at hrest;cases hrest
         | exc _ _=>rw [he] at hrest;cases hrest
         | ok yv S4 =>
          rw [he] at hrest;dsimp only at hrest
          cases hr:zbh t fc fe (zaF n (caps.map (·.2)) ρ) (ds.drop (i+1)) S4 with
          | bad=>rw [hr] at hrest;cases hrest
          | exc _ _=>rw [hr] at hrest;cases hrest
          | ok zs S5 =>
           rw [hr] at hrest;cases hrest;intro p o w4 R4 F4 hp4 top4;have ff:=g2.fut.trans (F3.trans F4);obtain ⟨W4,fa4⟩:=late R4.wd ff;have hyl:zpY yv=true:=List.all_eq_true.mp hlst yv (by rw [<-hall];exact List.mem_append_right _ (.head _));obtain ⟨row,rfl⟩:=zpX hyl
           cases top4 with
           | lst rs =>
           rename_i xs;have gf:=znn (w:=w4) hp4 (.lst xs)
           have hpB:w0.base.Fr p=none:=by
            cases z:w0.base.Fr p with
            | none=>rfl
            | some u=>have:=(W4.fr p u z).1;rw [hp4] at this;cases this
           have fm4:=fa4.mem
           have hpn:p ∉ bs:=fun z=>by obtain ⟨_,_,xs',e⟩:=fm4 p z;rw [hp4] at e;cases e
           refine ⟨ds.length-(i+1),by omega,rfl,hlt,hk1.trans hl1,hk2.trans hd1,w4.addFar p (.lst xs),S4,bs++[p],rows++[row],zs,rfl,F1.trans (ff.trans gf.fut),W4.grow gf,?_,?_,?_,hr,?_⟩
           ·rw [List.map_append];rfl
           ·rw [List.nodup_append];refine ⟨nd,by simp,fun a ha b hb=>?_⟩;rw [List.mem_singleton.mp hb];exact fun z=>hpn (z ▸ ha)
           ·refine Far.snoc ⟨⟨if_pos rfl,hpB⟩,xs,zaH,rs.up gf.fut⟩ (fa4.move gf.fut fun b hb=>?_);obtain ⟨h1,h2,xs',h3⟩:=fm4 b hb;have:=gf.keep b _ h3;exact ⟨this.2.trans h1,h2,this.1.trans h3.symm⟩
           ·rw [List.map_append,List.append_assoc];exact hall
    ·have e:i=ds.length:=by omega
     subst e;rw [List.drop_length] at hrest;cases hrest;rw [List.append_nil] at hall;subst hall;refine .inl ⟨hJ.stop w1 F1',fun p hp=>?_⟩;obtain ⟨Rb,Fb⟩:=R0.leave W1 F1;have fm:=fa.mem;refine q p bs rows (w0.back w1) rfl Rb (F0.trans Fb) hp nd (fa.move (zcO W1) fun b hb=>?_);obtain ⟨h1,h2,_⟩:=fm b hb;refine ⟨?_,?_,rfl⟩
     ·show (if (w0.base.Fr b).isSome=true then w0.ow b else Root.out (w1.ow b))=_;rw [h2,h1];rfl
     ·cases z:B.Fr b with
      | none=>rfl
      | some u=>have:=zdn R0.wd z;rw [h2] at this;cases this
end
def Wd.addNst(w:Wd)(p:Addr)(bs:List Addr)(r:Root):Wd:=⟨upd w.H p (.lst (bs.map V.ref)),fun a=>if a=p\/a∈bs then some r else if w.ow a=some r then some .far else w.ow a,w.mu⟩
section
variable{cl:Cf}{B:Base}{σ:St}{w:Wd}{ρ:Env}{S:Sto}
theorem Rel.own2{i:Nat}{p:Addr}{bs:List Addr}{rows:List (List D)}(R:Rel cl B σ w ρ S)(hp:w.H p=none)(nd:bs.Nodup)(fa:Far cl B w bs rows):Rel cl B (σ.set i (some (.ref p))) (w.addNst p bs (.slot i)) (ρ.set i (some (true,zgQ (rows.map D.lst)))) S/\Fut w (w.addNst p bs (.slot i)):=by
 have fm:=fa.mem
 have kp:∀a u,w.H a=some u->w.ow a≠some (.slot i)->w.ow a≠some .far->(w.addNst p bs (.slot i)).H a=some u/\(w.addNst p bs (.slot i)).ow a=w.ow a:=fun a u ha hk hf=>by
  have n:a≠p:=zau ha hp;have n2:¬ (a=p\/a∈bs):=fun z=>z.elim n fun z=>hf (fm a z).1
  refine ⟨?_,?_⟩
  ·show upd w.H p _ a=_;rw [zam n];exact ha
  ·show (if a=p\/a∈bs then _ else if w.ow a=some (Root.slot i) then some Root.far else w.ow a)=_;rw [if_neg n2,if_neg hk]
 have ff:Fut w (w.addNst p bs (.slot i)):=⟨fun a u ha hk=>by
  have:=kp a u ha (by rw [hk];exact fun z=>by cases z) (by rw [hk];exact fun z=>by cases z)
  exact ⟨this.1,this.2.trans hk⟩,fun _ _ h=>h⟩
 have hBp:B.Fr p=none:=by
  cases z:B.Fr p with
  | none=>rfl
  | some u=>have:=(R.wd.fr p u z).1;rw [hp] at this;cases this
 refine ⟨⟨⟨fun a u h=>?_,fun a r h=>?_,R.wd.len,fun n ob h=>?_⟩,by rw [List.length_set,List.length_set];exact R.len,fun j b e hj=>?_⟩,ff⟩
 ·have hne:w.ow a≠some (.slot i):=fun z=>by
   rcases R.wd.own a _ z with y | y
   ·cases y
   ·rw [h] at y;cases y
  have h0:=R.wd.fr a u h;have n:a≠p:=zau h0.1 hp
  have n2:¬ (a=p\/a∈bs):=fun z=>z.elim n fun z=>by rw [(fm a z).2.1] at h;cases h
  refine ⟨?_,?_⟩
  ·show upd w.H p _ a=_;rw [zam n];exact h0.1
  ·show (if a=p\/a∈bs then _ else if w.ow a=some (Root.slot i) then some Root.far else w.ow a)=_;rw [if_neg n2,if_neg hne];exact h0.2
 ·have h':(if a=p\/a∈bs then some (Root.slot i) else if w.ow a=some (Root.slot i) then some Root.far else w.ow a)=some r:=h;split at h'
  ·rename_i e
   rcases e with e | e
   ·rw [e];exact .inr hBp
   ·exact .inr (fm a e).2.1
  ·split at h'
   ·cases h';exact .inl rfl
   ·exact R.wd.own a r h'
 ·obtain ⟨a,e,x⟩:=R.wd.obj n ob h;exact ⟨a,e,x.keep ff fun b u hb hn=>kp b u hb (fun z=>by rw [z] at hn;exact hn) fun z=>by rw [z] at hn;exact hn⟩
 ·by_cases hij:i=j
  ·subst hij
   have hlt:i<ρ.length:=by
    have:=(List.getElem?_eq_some_iff.mp hj).1;rw [List.length_set] at this;exact this
   rw [List.getElem?_set_self hlt] at hj;cases hj
   have hpn:p ∉ bs:=fun z=>by obtain ⟨_,_,xs,e⟩:=fm p z;rw [hp] at e;cases e
   have rowsOk:∀{cs:List Addr} {rs:List (List D)},(∀b∈cs,b∈bs)->Far cl B w cs rs->zfL cl (w.addNst p bs (.slot i)) (.slot i) cs rs:=by
    intro cs rs hsub h
    induction h with
    | nil=>exact .nil
    | cons h t ih =>
     rename_i b row cs rs;obtain ⟨xs,e,r⟩:=h.2;have hb:=hsub b (.head _);refine .cons ⟨if_pos (.inr hb),xs,?_,r.up ff⟩ (ih fun b hb=>hsub b (.tail _ hb));show upd w.H p _ b=_;rw [zam (by rintro rfl;exact hpn hb)];exact e
   exact ⟨.ref p,by rw [List.getElem?_set_self (by rw [R.len];exact hlt)],.inr ⟨p,bs,rows,rfl,rfl,if_pos (.inl rfl),zaH,hpn,nd,rowsOk (fun _ h=>h) fa⟩⟩
  ·rw [List.getElem?_set_ne hij] at hj ⊢;obtain ⟨v,e1,x⟩:=R.slots j b e hj;refine ⟨v,e1,x.keep ff fun a u ha hr=>?_⟩;have:=kp a u ha (by rw [hr];exact fun z=>hij (by cases z;rfl)) (by rw [hr];exact fun z=>by cases z);exact ⟨this.1,this.2.trans hr⟩
theorem zfL.mem{r:Root}:∀{bs:List Addr} {rows:List (List D)},zfL cl w r bs rows->∀{k:Nat} {b:Addr},bs[k]?=some b->∃row,rows[k]?=some row/\w.ow b=some r/\∃xs,w.H b=some (.lst xs)/\Shds cl w xs row
 | _,_,.nil,k,b,h=>by cases h
 | _,_,.cons h t,0,b,e=>by cases e;exact ⟨_,rfl,h⟩
 | _,_,.cons h t,k+1,b,e=>zfL.mem t (k:=k) e
theorem zfL.len{r:Root}:∀{bs:List Addr} {rows:List (List D)},zfL cl w r bs rows->bs.length=rows.length
 | _,_,.nil=>rfl
 | _,_,.cons _ t=>by rw [List.length_cons,List.length_cons,zfL.len t]
theorem zfL.set{r:Root}{w':Wd}(F:Fut w w'):∀{bs:List Addr} {rows:List (List D)},zfL cl w r bs rows->bs.Nodup->∀{k:Nat} {b:Addr} {row:List D},bs[k]?=some b->(∀a,a≠b->w'.H a=w.H a)->w'.ow=w.ow->(∃xs,w'.H b=some (.lst xs)/\Shds cl w' xs row)->zfL cl w' r bs (rows.set k row)
 | [],[],.nil,_,k,b,row,h,_,_,_=>by cases h
 | a0::bs,r0::rows,.cons h t,nd,0,b,row,e,k1,k2,k3=>by
  cases e;rw [List.nodup_cons] at nd;refine .cons ⟨by rw [k2];exact h.1,k3⟩ ?_
  have go:∀{bs:List Addr} {rows:List (List D)},zfL cl w r bs rows->a0 ∉ bs->zfL cl w' r bs rows:=by
   intro bs rows h
   induction h with
   | nil=>intro _;exact .nil
   | cons h t ih =>
    rename_i c row' cs rs;intro hb;obtain ⟨xs,e,r⟩:=h.2;refine .cons ⟨by rw [k2];exact h.1,xs,?_,r.up F⟩ (ih fun z=>hb (.tail _ z));rw [k1 c (by rintro rfl;exact hb (.head _))];exact e
  exact go t nd.1
 | a0::bs,r0::rows,.cons h t,nd,k+1,b,row,e,k1,k2,k3=>by
  rw [List.nodup_cons] at nd;have e':bs[k]?=some b:=e;have hm:b∈bs:=List.mem_of_getElem? e';obtain ⟨xs,e2,r⟩:=h.2;refine .cons ⟨by rw [k2];exact h.1,xs,?_,r.up F⟩ (zfL.set F t nd.2 (k:=k) e' k1 k2 k3);rw [k1 a0 (by rintro rfl;exact nd.1 hm)];exact e2
theorem Rel.mut2{i k:Nat}{a b:Addr}{bs:List Addr}{rows:List (List D)}{xs:List V}{row:List D}(R:Rel cl B σ w ρ S)(hs:σ[i]?=some (some (.ref a)))(ha:w.ow a=some (.slot i))(hH:w.H a=some (.lst (bs.map V.ref)))(hn:a ∉ bs)(nd:bs.Nodup)(nr:zfL cl w (.slot i) bs rows)(hb:bs[k]?=some b)(sh:Shds cl w xs row) :
  Rel cl B σ (w.mut b (.lst xs)) (ρ.set i (some (true,zgQ ((rows.set k row).map D.lst)))) S/\Fut w (w.mut b (.lst xs)):=by
 obtain ⟨_,_,hk,_⟩:=nr.mem hb;have ff:=zer (w:=w) (p:=b) (o:=.lst xs) (by rw [hk];exact Option.some_ne_none _)
 have kp:∀a u,w.H a=some u->w.ow a≠some (.slot i)->(w.mut b (.lst xs)).H a=some u/\(w.mut b (.lst xs)).ow a=w.ow a:=fun a u ha hn=>⟨by
  show upd w.H b _ a=_
  rw [zam (fun z=>hn (by rw [z];exact hk))];exact ha,rfl⟩
 refine ⟨⟨⟨fun a u h=>?_,R.wd.own,R.wd.len,fun n ob h=>?_⟩,by rw [List.length_set];exact R.len,fun j o e hj=>?_⟩,ff⟩
 ·have hne:w.ow a≠some (.slot i):=fun z=>by
   rcases R.wd.own a _ z with y | y
   ·cases y
   ·rw [h] at y;cases y
  have:=kp a u (R.wd.fr a u h).1 hne;exact ⟨this.1,(R.wd.fr a u h).2⟩
 ·obtain ⟨a,e,x⟩:=R.wd.obj n ob h;exact ⟨a,e,x.keep ff fun b u hb hn=>kp b u hb fun z=>by rw [z] at hn;exact hn⟩
 ·by_cases hij:i=j
  ·subst hij
   have hlt:i<ρ.length:=by
    have:=(List.getElem?_eq_some_iff.mp hj).1;rw [List.length_set] at this;exact this
   rw [List.getElem?_set_self hlt] at hj;cases hj;have hab:a≠b:=fun z=>hn (z ▸ List.mem_of_getElem? hb)
   refine ⟨.ref a,hs,.inr ⟨a,bs,rows.set k row,rfl,rfl,ha,?_,hn,nd,nr.set ff nd hb (fun c hc=>zam hc) rfl ⟨xs,zaH,sh.up ff⟩⟩⟩;show upd w.H b _ a=_;rw [zam hab];exact hH
  ·rw [List.getElem?_set_ne hij] at hj;obtain ⟨v,e1,x⟩:=R.slots j o e hj;refine ⟨v,e1,x.keep ff fun a u ha hr=>?_⟩;have:=kp a u ha (by rw [hr];exact fun z=>hij (by cases z;rfl));exact ⟨this.1,this.2.trans hr⟩
end
def zhU(i:Nat)(f:Fe):Fs:=fun ρ S=>match f ρ S with | .ok (.lst l) S'=>.nx (ρ.set i (some (true,zgQ l))) S' | .ok _ _=>.bad | .exc c S'=>.ex c ρ S' | .bad=>.bad
section
variable{X:Cx}{cl:Cf}{E:St->XK}{own:Bool}{e:Expr}{fe:Fe}{pos pos':Pos}
theorem zs7{i:Nat}{De:Ends}{σ:St}{H:Hp}(q:tS cl E own (zhU i fe) De σ H):znU (tM cl E fe) (zie i) De σ H:=by
 obtain ⟨B,w,ρ,S,rfl,R,q⟩:=q;refine ⟨B,w,ρ,S,rfl,R,?_⟩;unfold zhU at q
 cases hf:fe ρ S with
 | bad=>rw [hf] at q;exact q
 | exc c S1=>rw [hf] at q;exact fun w' R' F'=>q σ w' R' F'
 | ok d S1 =>
  rw [hf] at q;intro p bs rows w' ed R' F' hp nd fa;subst ed;obtain ⟨R2,F2⟩:=R'.own2 (i:=i) hp nd fa;exact q _ _ R2 (F'.trans F2)
def pkI(l:List D)(c:Int):Option Int:=match atI l c with | some (.int n)=>some n | _=>none
theorem zsC{n k:Nat}{i:Int}(h:ixN n i=some k):k<n:=(zh9 h).2.1
theorem zn7{l:List D}{c n:Int}(h:pkI l c=some n):atI l c=some (.int n):=by
 unfold pkI at h;split at h
 ·rename_i e;cases h;exact e
 ·cases h
def zhS(i j:Nat)(c1 c2:Int)(fe:Fe):Fs:=fun ρ S=>match fe ρ S with
 | .ok d S1=>(match ρ[i]?,ρ[j]? with
  | some (some (true,.dic [(.exc _,.lst l)])),some (some (false,.tup y))=>(match pkI y c1,pkI y c2 with
   | some n,some m=>(match ixN l.length n with
    | some k=>(match l[k]? with
     | some (.lst row)=>(match ixN row.length m with
      | some k2=>.nx (ρ.set i (some (true,zgQ (l.set k (.lst (row.set k2 d)))))) S1
      | none=>.bad)
     | _=>.bad)
    | none=>.bad)
   | _,_=>.bad)
  | _,_=>.bad)
 | .exc c S1=>.ex c ρ S1 | .bad=>.bad
theorem zoL{i j:Nat}{x y:Str}{c1 c2:Int}{k1 k2:Nat}{p2 p3 p4 p5 p6 p7 p8 p9 p10:Pos}(hN:X.N[i]?=some x)(hv:Vis X.env.scope x)(hd:(x == ("__debug__":Str))=false)(hcd:(x == ("__classdict__":Str))=false)
  (hN':X.N[j]?=some y) (hv':Vis X.env.scope y) (hd':(y == ("__debug__":Str))=false) (hcd':(y == ("__classdict__":Str))=false) (he:PE X e (tE cl E fe))
  (sw1:swapsWithSole [.Subscript (.Subscript (.Name x p2) (.Subscript (.Name y p4) (.Constant (.int c1) k1 p5) p6) p7) (.Subscript (.Name y p8) (.Constant (.int c2) k2 p9) p10) p3] e pos.line X.env=pure false)
  (sw2:swappedStores [.Subscript (.Subscript (.Name x p2) (.Subscript (.Name y p4) (.Constant (.int c1) k1 p5) p6) p7) (.Subscript (.Name y p8) (.Constant (.int c2) k2 p9) p10) p3] e X.env=pure none) :
  PS X (.Assign [.Subscript (.Subscript (.Name x p2) (.Subscript (.Name y p4) (.Constant (.int c1) k1 p5) p6) p7) (.Subscript (.Name y p8) (.Constant (.int c2) k2 p9) p10) p3] e pos) (tS cl E own (zhS i j c1 c2 fe)):=by
 refine PS.imp (zkP he (zn9 (zkX zh8 (zcz hN hv hd hcd) (zkX zlp (zcz hN' hv' hd' hcd') zkY fun _ _=>rfl) fun _ _=>rfl) (zkX zlp (zcz hN' hv' hd' hcd') zkY fun _ _=>rfl) zmu) sw1 sw2 rfl) ?_;rintro De σ H ⟨B,w,ρ,S,rfl,R,q⟩;refine ⟨B,w,ρ,S,rfl,R,?_⟩;unfold zhS at q
 cases hf:fe ρ S with
 | bad=>rw [hf] at q;exact q
 | exc c S1=>rw [hf] at q;exact fun w' R' F'=>q σ w' R' F'
 | ok d S1 =>
  rw [hf] at q;intro v w1 R1 F1 h1;dsimp only at q;split at q
  ·rename_i s l ys hi hj;split at q
   ·rename_i n m hn hm;split at q
    ·rename_i k hk;split at q
     ·rename_i row hrow;split at q
      ·rename_i k2' hk2;obtain ⟨vx,ex,z | hx⟩:=R1.slots i true _ hi
       ·obtain ⟨a,o,_,_,_,t⟩:=z
        cases t with
        | dicK h=>cases h
       obtain ⟨a,bs,rows,rfl,ed,ha,hH,hna,nd,nr⟩:=hx.ex
       have el:l=rows.map D.lst/\s = "":=by
        unfold zgQ at ed
        injection ed with ed
        injection ed with ed _
        injection ed with e1 e2
        injection e1 with e1
        injection e2 with e2
        exact ⟨e2,e1⟩
       obtain ⟨rfl,rfl⟩:=el;obtain ⟨vy,ey,hy⟩:=R1.slots j false _ hj
       obtain ⟨t,zs,rfl,et,kt,rz⟩:∃t zs,vy=.ref t/\w1.H t=some (.tup zs)/\w1.ow t=none/\Shds cl w1 zs ys:=by
        cases hy with
        | tup e k r=>exact ⟨_,_,rfl,e,k,r⟩
       obtain ⟨v1,av1,sv1⟩:=zeN rz (zn7 hn);obtain ⟨v2,av2,sv2⟩:=zeN rz (zn7 hm);cases sv1;cases sv2;rw [List.length_map] at hk;have hlen:=nr.len
       have hkb:k<bs.length:=by rw [hlen];exact zsC hk
       have hb:bs[k]?=some bs[k]:=List.getElem?_eq_getElem hkb;obtain ⟨row',hr',hob,xs,hxs,shr⟩:=nr.mem hb
       have err:row'=row:=by
        rw [List.getElem?_map,hr'] at hrow;cases hrow;rfl
       subst err
       have hat:atI (bs.map V.ref) n=some (.ref bs[k]):=by
        unfold atI;rw [List.length_map,hlen,hk];show (bs.map V.ref)[k]?=_;rw [List.getElem?_map,hb];rfl
       refine ⟨_,ex,_,ey,t,zs,_,_,rfl,rfl,SqT.of et,av1,a,_,n,_,rfl,rfl,SqL.of hH,hat,?_⟩;refine ⟨_,ey,t,zs,_,_,rfl,rfl,SqT.of et,av2,?_⟩;obtain ⟨R2,F2⟩:=R1.mut2 ex ha hH hna nd nr hb (shr.set h1 k2');refine ⟨bs[k],xs,m,k2',rfl,rfl,hxs,by rw [shr.length];exact hk2,?_⟩
       have em:(rows.set k (row'.set k2' d)).map D.lst=(rows.map D.lst).set k (.lst (row'.set k2' d)):=by rw [List.map_set]
       rw [em] at R2;exact q σ _ R2 (F1.trans F2)
      ·exact q.elim
     ·exact q.elim
    ·exact q.elim
   ·exact q.elim
  ·exact q.elim
end
end S2
namespace S2
open PySem PySem.Spec PyProof.Rows L2
def zsj:Expr->Option Str | .Name x _=>some x | _=>none
def zu4(df:Bool):Option NameKind->Bool | some .local=>true | some .cell=>df | _=>false
def tgI(df:Bool)(nm:Names)(N:List Str)(n:Nat)(x:Str):Option Nat:=if zu4 df (nm.lookup x) then (idx N x).bind fun i=>if i<n then some i else none else none
def zqA(df:Bool)(nm:Names)(N:List Str)(n:Nat):List Expr->Option (List Nat)
 | []=>some []
 | .Name x _::es=>(tgI df nm N n x).bind fun i=>(zqA df nm N n es).bind fun is=>some (i::is)
 | _::_=>none
def tgG(df:Bool)(nm:Names)(N:List Str)(n:Nat):Expr->Option Tg
 | .Name x _=>(tgI df nm N n x).map .one
 | .Tuple es _ _=>(zqA df nm N n es).map .tup
 | _=>none
structure Sto'(X:Cx)(nm:Names)(df:Bool):Prop where
 fn:df=true->∀x,nm.lookup x=some .cell->X.fn x=true
section
variable{cl:Cf}{G:Genv}{k:Nat}{X:Cx}{nm:Names}{N:List Str}{E:St->XK}{df:Bool}{n:Nat}
theorem zeU(g:Gx cl G k X nm N E)(sd:Sto' X nm df){x:Str}{i:Nat}(h:tgI df nm N n x=some i):i<n/\X.N.Nodup/\X.N[i]?=some x/\Loc X.env.scope x/\(X.fn x=true\/X.env.scope.names.lookup x=some .local):=by
 unfold tgI at h;split at h
 ·rename_i hl
  cases hi:idx N x with
  | none=>rw [hi] at h;cases h
  | some j =>
   rw [hi] at h;dsimp only [Option.bind] at h;split at h
   ·rename_i hn;cases h;refine ⟨hn,by rw [g.eN];exact g.nd,by rw [g.eN];exact zfo hi,?_,?_⟩
    ·cases hk:nm.lookup x with
     | none=>rw [hk] at hl;cases hl
     | some kd =>
      obtain ⟨kd',e,z⟩:=g.vis x kd hk;rw [hk] at hl;unfold L2.Loc;rw [e]
      rcases z with rfl | ⟨rfl,_⟩
      ·cases kd'<;>first | exact .inl rfl | exact .inr rfl | cases hl
      ·cases hl
    ·cases hk:nm.lookup x with
     | none=>rw [hk] at hl;cases hl
     | some kd =>
      rw [hk] at hl
      cases kd<;>first | exact .inr (g.fnx x hk) | exact .inl (sd.fn hl x hk) | cases hl
   ·cases h
 ·cases h
theorem zkj(g:Gx cl G k X nm N E)(sd:Sto' X nm df):∀{es:List Expr} {is:List Nat},zqA df nm N n es=some is->PGs X es (tGs cl n is)/\(assignEach es X.env).length=is.length/\(assignEach es X.env).findIdx? (·.1)=none
 | [],is,h=>by cases h;exact ⟨zo0,rfl,rfl⟩
 | e::es,is,h=>by
  cases e with
  | Name x pos =>
   unfold zqA at h
   cases h1:tgI df nm N n x with
   | none=>rw [h1] at h;cases h
   | some i =>
    rw [h1] at h
    cases h2:zqA df nm N n es with
    | none=>rw [h2] at h;cases h
    | some is' =>
     rw [h2] at h;cases h;obtain ⟨a1,a2,a3,a4,a5⟩:=zeU g sd h1;obtain ⟨b1,b2,b3⟩:=zkj g sd h2;refine ⟨zmt a1 a2 a3 a4 a5 b1,?_,?_⟩
     ·show (assignEach es X.env).length+1=_;rw [b2];rfl
     ·show ((false,assign (.Name x pos) X.env)::assignEach es X.env).findIdx? (·.1)=none;rw [List.findIdx?_cons];simp [b3]
  | _=>cases h
theorem zmo(g:Gx cl G k X nm N E)(sd:Sto' X nm df){tg:Expr}{t:Tg}(h:tgG df nm N n tg=some t):PG X tg (tG cl n t):=by
 unfold tgG at h;split at h
 ·rename_i x pos
  cases h1:tgI df nm N n x with
  | none=>rw [h1] at h;cases h
  | some i =>
   rw [h1] at h;cases h;obtain ⟨a1,a2,a3,a4,a5⟩:=zeU g sd h1;exact zrj a1 a2 a3 a4 a5
 ·rename_i es kk pos
  cases h1:zqA df nm N n es with
  | none=>rw [h1] at h;cases h
  | some is =>
   rw [h1] at h;cases h;obtain ⟨b1,b2,b3⟩:=zkj g sd h1;exact zri g.calm b1 b2 b3
 ·cases h
end
def zax:Expr->List Str
 | .Name x _=>[x]
 | .Tuple es _ _=>es.filterMap zsj
 | _=>[]
def zaG(names:Names)(N:List Str):List (Str×Nat):=names.filterMap fun p=>if p.2=.free then (idx N p.1).map fun i=>(p.1,i) else none
def zy3:Option NameKind->Bool | some .cell=>true | some .free=>true | _=>false
def zjl(nm:Names)(scope:Scope)(xs:List Str)(caps:List (Str×Nat)):Bool :=
 decide (scope.kind=.function)&&decide ((scope.names.map (·.1)).Nodup)&&scope.names.all (fun y=>!decide (y.2=.local)||decide (scope.names.lookup y.1=some .local))
 && scope.names.all (fun y=>!decide (y.2=.free)||zy3 (nm.lookup y.1))&&caps.all (fun p=>scope.names.all fun z=>!decide (z.1=p.1)||decide (z.2=.free))&&decide ((xs++caps.map (·.1)).Nodup)
def zlV(rc:Rec)(nm:Names)(N:List Str):List Expr->Option Fe
 | []=>some zfI
 | [c]=>if zbV c then shE rc nm N c else none
 | _=>none
def zj0(G:Genv)(rc:Rec)(nm:Names)(N:List Str)(elt:Expr)(g:Comprehension)(scope:Scope):Option Fe :=
 if decide (g.is_async=0)&&zjl nm scope (zax g.target) (zaG scope.names N) then
  (zib G rc nm N g.target g.iter).bind fun it =>
  (tgG true scope.names (zax g.target++(zaG scope.names N).map (·.1)) (zax g.target).length g.target).bind fun t =>
  (zlV rc scope.names (zax g.target++(zaG scope.names N).map (·.1)) g.ifs).bind fun c =>
  (shE rc scope.names (zax g.target++(zaG scope.names N).map (·.1)) elt).bind fun el =>
  some (zcZ (zax g.target).length t it c el ((zaG scope.names N).map (·.2)))
 else none
def znF(G:Genv)(rc:Rec)(nm:Names)(N:List Str)(elt:Expr)(g:Comprehension)(scope:Scope):Option Fe :=
 if decide (g.is_async=0)&&zjl nm scope (zax g.target) (zaG scope.names N) then
  (zib G rc nm N g.target g.iter).bind fun it =>
  (tgG true scope.names (zax g.target++(zaG scope.names N).map (·.1)) (zax g.target).length g.target).bind fun t =>
  (zlV rc scope.names (zax g.target++(zaG scope.names N).map (·.1)) g.ifs).bind fun c =>
  (rc scope.names (zax g.target++(zaG scope.names N).map (·.1)) elt).bind fun el =>
  if el.1 then some (zfB (zax g.target).length t it c el.2 ((zaG scope.names N).map (·.2))) else none
 else none
theorem zdH{scope:Scope}{env:PySem.Env}:∀{names:Names} {x:Str} {kd:NameKind},names.lookup x=some kd →
  ∃kd',(names.map fun (n,k)=>if (k == NameKind.free&&env.scope.kind == .function&&env.kindOf n == some .cell) then (n,NameKind.cell) else (n,k)).lookup x=some kd'/\(kd'=kd\/(kd=.free/\kd'=.cell))
 | [],_,_,h=>by cases h
 | (n,k0)::r,x,kd,h=>by
  rw [List.lookup_cons] at h;rw [List.map_cons];dsimp only
  by_cases hc:(k0 == NameKind.free&&env.scope.kind == .function&&env.kindOf n == some .cell)=true
  ·rw [if_pos hc,List.lookup_cons]
   cases hx:x == n with
   | true =>
    rw [hx] at h;cases h;simp only [Bool.and_eq_true,beq_iff_eq] at hc;exact ⟨_,rfl,.inr ⟨hc.1.1,rfl⟩⟩
   | false=>rw [hx] at h;exact zdH (scope:=scope) h
  ·rw [if_neg hc,List.lookup_cons]
   cases hx:x == n with
   | true=>rw [hx] at h;cases h;exact ⟨_,rfl,.inl rfl⟩
   | false=>rw [hx] at h;exact zdH (scope:=scope) h
section
variable{cl:Cf}{G:Genv}{k:Nat}{rc:Rec}{X:Cx}{nm:Names}{N:List Str}{E:St->XK}
theorem zgd(g:Gx cl G k X nm N E){scope:Scope}{xs:List Str}(h:zjl nm scope xs (zaG scope.names N)=true):CompScopeG X.env.scope scope X.N xs (zaG scope.names N)/\(xs++(zaG scope.names N).map (·.1)).Nodup:=by
 unfold zjl at h;simp only [Bool.and_eq_true,List.all_eq_true,decide_eq_true_eq,Bool.or_eq_true,Bool.not_eq_true',decide_eq_false_iff_not] at h;obtain ⟨⟨⟨⟨⟨h1,h2⟩,h3⟩,h4⟩,h5⟩,h6⟩:=h
 have fr:∀y∈scope.names,y.2=.free->X.env.scope.names.lookup y.1=some .cell\/X.env.scope.names.lookup y.1=some .free:=fun y hy hf=>by
  rcases h4 y hy with z | z
  ·exact absurd hf z
  ·cases hk:nm.lookup y.1 with
   | none=>rw [hk] at z;cases z
   | some kd =>
    obtain ⟨kd',e,zz⟩:=g.vis y.1 kd hk;rw [hk] at z;rw [e]
    rcases zz with rfl | ⟨_,rfl⟩
    ·cases kd'<;>first | exact .inl rfl | exact .inr rfl | cases z
    ·exact .inl rfl
 refine ⟨⟨h2,h1,fun y hy hl=>(h3 y hy).elim (fun z=>absurd hl z) fun z=>z,fr,fun p hp=>?_,fun p hp z hz e=>(h5 p hp z hz).elim (fun w=>absurd e w) fun w=>w⟩,h6⟩;unfold zaG at hp;obtain ⟨q,hq,e⟩:=List.mem_filterMap.mp hp;split at e
 ·rename_i hf
  cases hi:idx N q.1 with
  | none=>rw [hi] at e;cases e
  | some i =>
   rw [hi] at e;have e':(q.1,i)=p:=Option.some.inj e;subst e';refine ⟨by rw [g.eN];exact zfo hi,by rw [<-hf];exact hq,?_⟩
   rcases fr q hq hf with z | z<;>rw [z]<;>exact fun w=>by cases w
 ·cases e
theorem zdt(g:Gx cl G k X nm N E){scope:Scope}{xs:List Str}(hn:(xs++(zaG scope.names N).map (·.1)).Nodup)(cl':List (Str×Addr))(C:Addr)(s:Shared)(H:Hp)(fp:List Addr) :
  Gx cl G k (za4 X xs (zaG scope.names N) scope cl' C s H fp) scope.names (xs++(zaG scope.names N).map (·.1)) noE where
 gok:=g.gok
 room:=g.room
 calm:=g.calm
 pass:=fun pins σ H s e s' I q=>by
  obtain ⟨a,cls,a0,H',B,_,_,_,_,_,_,_,_,_,z⟩:=q;exact z.elim
 eN:=rfl
 kk:=g.kk
 pp:=g.pp
 ww:=g.ww
 nd:=hn
 vis:=fun x kd h=>zdH (scope:=scope) h
 fnx:=fun x h=>lookup_relabel_local h
theorem zlU(hs:zbm cl G k rc)(g:Gx cl G k X nm N noE){ifs:List Expr}{c:Fe}(h:zlV rc nm N ifs=some c):PIf X ifs (tTr cl noE c):=by
 unfold zlV at h;split at h
 ·cases h;intro pins s σ H Q I q;obtain ⟨B,w,ρ,S,rfl,R,q⟩:=q;exact zpo pins s σ w.H Q I (q w R (Fut.refl _))
 ·split at h
  ·rename_i c ht;obtain ⟨_,a2,_⟩:=zaX hs g h;exact zpn (a2 ht)
  ·cases h
 ·cases h
theorem zge(hs:zbm cl G k rc)(g:Gx cl G k X nm N E){elt:Expr}{gg:Comprehension}{scope:Scope}{f:Fe}(h:zj0 G rc nm N elt gg scope=some f) :
  ∃it t c el,f=zcZ (zax gg.target).length t it c el ((zaG scope.names N).map (·.2))/\gg=⟨gg.target,gg.iter,gg.ifs,0⟩/\CompScopeG X.env.scope scope X.N (zax gg.target) (zaG scope.names N)/\PI X gg.target gg.iter (tI cl E it)/\okE gg.iter=true ∧
   (∀cl' C s H fp,PG (za4 X (zax gg.target) (zaG scope.names N) scope cl' C s H fp) gg.target (tG cl (zax gg.target).length t)) ∧
   (∀cl' C s H fp,PIf (za4 X (zax gg.target) (zaG scope.names N) scope cl' C s H fp) gg.ifs (tTr cl noE c)) ∧
   ∀cl' C s H fp,PE (za4 X (zax gg.target) (zaG scope.names N) scope cl' C s H fp) elt (tE cl noE el):=by
 unfold zj0 at h;split at h
 ·rename_i hc;rw [Bool.and_eq_true] at hc;obtain ⟨S,hn⟩:=zgd g hc.2
  cases h1:zib G rc nm N gg.target gg.iter with
  | none=>rw [h1] at h;cases h
  | some it =>
   rw [h1] at h;dsimp only [Option.bind] at h
   cases h2:tgG true scope.names (zax gg.target++(zaG scope.names N).map (·.1)) (zax gg.target).length gg.target with
   | none=>rw [h2] at h;cases h
   | some t =>
    rw [h2] at h;dsimp only at h
    cases h3:zlV rc scope.names (zax gg.target++(zaG scope.names N).map (·.1)) gg.ifs with
    | none=>rw [h3] at h;cases h
    | some c =>
     rw [h3] at h;dsimp only at h
     cases h4:shE rc scope.names (zax gg.target++(zaG scope.names N).map (·.1)) elt with
     | none=>rw [h4] at h;cases h
     | some el =>
      rw [h4] at h;cases h;obtain ⟨i1,i2⟩:=zia hs g (tg:=gg.target) h1;refine ⟨it,t,c,el,rfl,?_,S,i1,i2,fun cl' C s H fp=>zmo (zdt g hn cl' C s H fp) ⟨fun _ x hx=>decide_eq_true hx⟩ h2,fun cl' C s H fp=>zlU hs (zdt g hn cl' C s H fp) h3,fun cl' C s H fp=>(zaX hs (zdt g hn cl' C s H fp) h4).1⟩;have:=of_decide_eq_true hc.1;cases gg;simp only at this;rw [this]
 ·cases h
theorem zjq{α β:Type}{o:Option α}{f:α->Option β}{b:β}(h:o.bind f=some b):∃a,o=some a/\f a=some b:=by
 cases o with
 | none=>cases h
 | some a=>exact ⟨a,rfl,h⟩
theorem ziq(hs:zbm cl G k rc)(g:Gx cl G k X nm N E){elt:Expr}{gg:Comprehension}{scope:Scope}{f:Fe}(h:znF G rc nm N elt gg scope=some f) :
  ∃it t c el,f=zfB (zax gg.target).length t it c el ((zaG scope.names N).map (·.2))/\gg=⟨gg.target,gg.iter,gg.ifs,0⟩/\CompScopeG X.env.scope scope X.N (zax gg.target) (zaG scope.names N)/\PI X gg.target gg.iter (tI cl E it)/\okE gg.iter=true ∧
   (∀cl' C s H fp,PG (za4 X (zax gg.target) (zaG scope.names N) scope cl' C s H fp) gg.target (tG cl (zax gg.target).length t)) ∧
   (∀cl' C s H fp,PIf (za4 X (zax gg.target) (zaG scope.names N) scope cl' C s H fp) gg.ifs (tTr cl noE c)) ∧
   ∀cl' C s H fp,PE (za4 X (zax gg.target) (zaG scope.names N) scope cl' C s H fp) elt (tN cl noE el):=by
 unfold znF at h;split at h
 ·rename_i hc;rw [Bool.and_eq_true] at hc;obtain ⟨S,hn⟩:=zgd g hc.2;obtain ⟨it,h1,h⟩:=zjq h;obtain ⟨t,h2,h⟩:=zjq h;obtain ⟨c,h3,h⟩:=zjq h;obtain ⟨⟨o,el⟩,h4,h⟩:=zjq h;split at h
  ·rename_i ho;cases h;have ho':o=true:=ho;subst ho';obtain ⟨i1,i2⟩:=zia hs g (tg:=gg.target) h1;refine ⟨it,t,c,el,rfl,?_,S,i1,i2,fun cl' C s H fp=>zmo (zdt g hn cl' C s H fp) ⟨fun _ x hx=>decide_eq_true hx⟩ h2,fun cl' C s H fp=>zlU hs (zdt g hn cl' C s H fp) h3,fun cl' C s H fp=>(hs _ _ _ _ (zdt g hn cl' C s H fp) elt true el h4).1 rfl⟩;have:=of_decide_eq_true hc.1;cases gg;simp only at this;rw [this]
  ·cases h
 ·cases h
theorem zlX(hs:zbm cl G k rc)(g:Gx cl G k X nm N E){elt:Expr}{gg:Comprehension}{scope:Scope}{f:Fe}{pos:Pos}(h:zj0 G rc nm N elt gg scope=some f):PE X (.ListComp elt [gg] scope pos) (tN cl E f):=by
 obtain ⟨it,t,c,el,rfl,eg,S,i1,i2,i3,i4,i5⟩:=zge hs g h;rw [eg];exact PE.imp (ziR g.calm S i1 i3 i4 i5 (zdZ i2)) fun _ _ _ q=>zot q
end
def zxq:Expr->Bool | .Slice _ _ _ _=>false | _=>true
def ztk(rc:Rec)(nm:Names)(N:List Str):Option Expr->Option (Option Fe)
 | none=>some none
 | some e=>(opE rc nm N e).map some
def zwv(m:Str):Option (List D->D->Option D):=if m = "count" then some zdj else if m = "index" then some zf6 else none
theorem zlT:∀(l:List D) (d r:D),zdj l d=some r->∃n,r=.int n:=by
 intro l d r h;unfold zdj at h;split at h
 ·cases h;exact ⟨_,rfl⟩
 ·cases h
theorem zly:∀(l:List D) (d r:D),zf6 l d=some r->∃n,r=.int n:=by
 intro l d r h;unfold zf6 at h;split at h
 ·cases h;exact ⟨_,rfl⟩
 ·cases h
def unG(rc:Rec)(nm:Names)(N:List Str)(a:Expr):UnaryOp->Option (Bool×Fe)
 | .Not=>if zbV a then (shE rc nm N a).map fun f=>(false,eUn zeL f) else none
 | .USub=>(opE rc nm N a).map fun f=>(false,eUn zkb f)
 | _=>none
def zsS(rc:Rec)(nm:Names)(N:List Str)(a:Expr):List CmpOp->List Expr->Option (Bool×Fe)
 | [op],[b]=>(zsT op b).bind fun g=>(opE rc nm N a).bind fun f=>(opE rc nm N b).bind fun h=>some (false,zaf g f h)
 | [op,op'],[b,c]=>(zsT op b).bind fun g=>(zsT op' c).bind fun g'=>(opE rc nm N a).bind fun f=>(opE rc nm N b).bind fun h=>(opE rc nm N c).bind fun k=>some (false,zcD g g' f h k)
 | _,_=>none
def zwp(rc:Rec)(nm:Names)(N:List Str)(a:Expr):Expr->Option (Bool×Fe)
 | .Slice lo hi none _=>(opE rc nm N a).bind fun f=>(ztk rc nm N lo).bind fun l=>(ztk rc nm N hi).bind fun u=>some (false,eSl f l u)
 | i=>if zxq i then (opE rc nm N a).bind fun f=>(opE rc nm N i).bind fun h=>some (false,zaf ixD f h) else none
def zxw(rc:Rec)(nm:Names)(N:List Str)(x m:Str)(ap cp:Pos):List Expr->List Keyword->Option (Bool×Fe)
 | [a],[]=>if ap.endLine == cp.line then (zci nm N x).bind fun i=>(opE rc nm N a).bind fun f=>(zwv m).bind fun g=>some (false,eMt g i f) else none
 | _,_=>none
def zov(G:Genv)(rc:Rec)(nm:Names)(N:List Str)(args:List Expr)(kws:List Keyword)(cp:Pos):Expr->Option (Bool×Fe)
 | .Attribute o m ap=>(match (nmF o).bind fun x=>zxw rc nm N x.1 m ap cp args kws with | some p=>some p | none=>zpH G rc nm N o m ap cp args kws)
 | .Name x _=>if kws.isEmpty then (match mkG G rc nm N x args with | some p=>some p | none=>(match spG G rc nm N x args with | some p=>some p | none=>zqn G rc nm N x args)) else none
 | _=>none
def lcG(G:Genv)(rc:Rec)(nm:Names)(N:List Str)(elt:Expr)(scope:Scope):List Comprehension->Option (Bool×Fe)
 | [g]=>(zj0 G rc nm N elt g scope).map fun f=>(true,f)
 | _=>none
def zio(G:Genv)(rc:Rec):Rec:=fun nm N e=>match e with
 | .Constant c _ _=>(zxv c).map fun d=>(false,zah d)
 | .Name x _=>(match zci nm N x with
  | some i=>some (false,zad i)
  | none=>if zco nm x then (G.con x).map fun d=>(false,zah d) else none)
 | .Tuple es _ _=>(shL rc nm N es).map fun fs=>(false,zcv fs)
 | .List es _=>(shL rc nm N es).map fun fs=>(true,zeu fs)
 | .BinOp a op b _=>if zpW a&&zsF op then (opE rc nm N a).bind fun f=>(opE rc nm N b).bind fun h=>some (true,zaf zjL f h) else (zvk op).bind fun g=>(opE rc nm N a).bind fun f=>(opE rc nm N b).bind fun h=>some (false,zaf g f h)
 | .UnaryOp op a _=>unG rc nm N a op
 | .BoolOp op es _=>(zj6 rc nm N op es).map fun f=>(false,f)
 | .Compare a ops bs _=>(match zuI G rc nm N a ops bs with | some p=>some p | none=>zsS rc nm N a ops bs)
 | .IfExp c a b _=>if zbV c then (shE rc nm N c).bind fun g=>(shE rc nm N a).bind fun f=>(shE rc nm N b).bind fun h=>some (false,eIf g f h) else none
 | .Subscript a i _=>(match zva G rc nm N a i with | some p=>some p | none=>zwp rc nm N a i)
 | .Attribute o f _=>zvd G rc nm N o f
 | .Call f args kws cp=>zov G rc nm N args kws cp f
 | .ListComp elt gs scope _=>lcG G rc nm N elt scope gs
 | _=>none
def zvh(G:Genv):Nat->Rec
 | 0=>fun _ _ _=>none
 | n+1=>zio G (zvh G n)
section
variable{cl:Cf}{G:Genv}{k:Nat}{rc:Rec}
theorem znh{i:Expr}(h:zxq i=true):zgP i:=by
 intro o j
 cases i<;>first | rfl | cases h
theorem zaa{α β:Type}{o:Option α}{f:α->Option β}{b:β}(h:o.bind f=some b):∃a,o=some a/\f a=some b:=by
 cases o with
 | none=>cases h
 | some a=>exact ⟨a,rfl,h⟩
theorem za1{α β:Type}{o:Option α}{f:α->β}{b:β}(h:o.map f=some b):∃a,o=some a/\f a=b:=by
 cases o with
 | none=>cases h
 | some a=>exact ⟨a,rfl,Option.some.inj h⟩
theorem ziS{X:Cx}{nm:Names}{N:List Str}{E:St->XK}(hs:zbm cl G k rc)(g:Gx cl G k X nm N E){o:Option Expr}{f:Option Fe}(h:ztk rc nm N o=some f):PO X o (ztj cl E f):=by
 unfold ztk at h;split at h
 ·cases h;exact zpl
 ·obtain ⟨a,h1,rfl⟩:=za1 h;exact zpk (zcg hs g h1).1
theorem znB(hs:zbm cl G k rc):zbm cl G k (zio G rc):=by
 intro X nm N E g e o f h;unfold zio at h;split at h
 ·obtain ⟨d,h1,h2⟩:=za1 h;cases h2;rename_i c kk pos
  have p:PE X (.Constant c kk pos) (tE cl E (zah d)):=by
   cases c<;>simp [zxv] at h1<;>subst h1
   ·exact zkC zrS fun w=>.non
   ·exact zkC zuA fun w=>.bl _
   ·exact zkC zkY fun w=>.int _
   ·exact zkC zrN fun w=>.str _
  exact ⟨(fun z=>by cases z),p,fun _=>zbD p (fun _=>rfl),rfl⟩
 ·rename_i x pos;split at h
  ·rename_i i hi;cases h;obtain ⟨h1,h2,h3,h4⟩:=g.slot hi;have p:PE X (.Name x pos) (tE cl E (zad i)):=zrm h1 h2 h3 h4;exact ⟨(fun z=>by cases z),p,fun _=>zbD p (fun _=>rfl),rfl⟩
  ·split at h
   ·rename_i hg;obtain ⟨d,h1,h2⟩:=za1 h;cases h2;obtain ⟨g1,g2,g3⟩:=g.glob hg;obtain ⟨v,u,m,r,sh⟩:=g.gok.con x d h1;have p:PE X (.Name x pos) (tE cl E (zah d)):=zkC (zkZ g1 m r g2) sh;exact ⟨(fun z=>by cases z),p,fun _=>zbD p (fun _=>rfl),rfl⟩
   ·cases h
 ·obtain ⟨fs,h1,h2⟩:=za1 h;cases h2;rename_i es kk pos;have p:PE X (.Tuple es kk pos) (tE cl E (zcv fs)):=zrn (zeW hs g h1).1;exact ⟨(fun z=>by cases z),p,fun _=>zbD p (fun _=>rfl),rfl⟩
 ·obtain ⟨fs,h1,h2⟩:=za1 h;cases h2;rename_i es pos;have p:PE X (.List es pos) (tN cl E (zeu fs)):=zrs (zeW hs g h1).1;exact ⟨fun _=>p,zdz p,fun _=>zbD (zdz p) (fun _=>rfl),rfl⟩
 ·split at h
  ·rename_i a op b pos hm;obtain ⟨fa,h2,h⟩:=zaa h;obtain ⟨fb,h3,h⟩:=zaa h;cases h;rw [Bool.and_eq_true] at hm
   have ho:op=.Mult:=by cases op<;>first | rfl | cases hm.2
   subst ho;have p:PE X (.BinOp a .Mult b pos) (tN cl E (zaf zjL fa fb)):=zo4 (zcg hs g h2).1 (zcg hs g h3).1;exact ⟨fun _=>p,zdz p,fun _=>zbD (zdz p) (fun _=>rfl),rfl⟩
  obtain ⟨gg,h1,h⟩:=zaa h;obtain ⟨fa,h2,h⟩:=zaa h;obtain ⟨fb,h3,h⟩:=zaa h;cases h;exact ⟨(fun z=>by cases z),zn2 (zow h1) (zcg hs g h2).1 (zcg hs g h3).1,fun _=>zbD (zn2 (zow h1) (zcg hs g h2).1 (zcg hs g h3).1) (fun _=>rfl),rfl⟩
 ·rename_i op a pos;unfold unG at h;split at h
  ·split at h
   ·rename_i ht;obtain ⟨fa,h1,h2⟩:=za1 h;cases h2;obtain ⟨a1,a2,_⟩:=zaX hs g h1;exact ⟨(fun z=>by cases z),zrp a1,fun _=>zq3 (a2 ht),rfl⟩
   ·cases h
  ·obtain ⟨fa,h1,h2⟩:=za1 h;cases h2;have p:PE X (.UnaryOp .USub a pos) (tE cl E (eUn zkb fa)):=zul zqL (zcg hs g h1).1;exact ⟨(fun z=>by cases z),p,fun _=>zbD p (fun _=>rfl),rfl⟩
  ·cases h
 ·obtain ⟨fa,h1,h2⟩:=za1 h;cases h2;rename_i op es pos;obtain ⟨b1,b2⟩:=zl5 hs g (pos:=pos) h1;exact ⟨(fun z=>by cases z),b1,fun _=>b2.pt,rfl⟩
 ·rename_i a ops bs pos;split at h
  ·rename_i p hp;obtain ⟨w,fe⟩:=p;cases h;obtain ⟨rfl,n1,n2⟩:=zsf hs g (pos:=pos) hp;exact ⟨(fun z=>by cases z),n1,fun _=>n2,rfl⟩
  unfold zsS at h;split at h
  ·obtain ⟨gg,h1,h⟩:=zaa h;obtain ⟨fa,h2,h⟩:=zaa h;obtain ⟨fb,h3,h⟩:=zaa h;cases h;obtain ⟨a1,_⟩:=zcg hs g h2;obtain ⟨b1,b2⟩:=zcg hs g h3;exact ⟨(fun z=>by cases z),zru (zgf g h1) a1 b1 (zfd b2),fun _=>zq5 (zgf g h1) a1 b1 (zfd b2),rfl⟩
  ·obtain ⟨gg,h1,h⟩:=zaa h;obtain ⟨gg',h1',h⟩:=zaa h;obtain ⟨fa,h2,h⟩:=zaa h;obtain ⟨fb,h3,h⟩:=zaa h;obtain ⟨fc,h4,h⟩:=zaa h;cases h;obtain ⟨a1,_⟩:=zcg hs g h2;obtain ⟨b1,_⟩:=zcg hs g h3;obtain ⟨c1,c2⟩:=zcg hs g h4;have hm:∀{op op':CmpOp} {b c:Expr},okE c=true->lastMarks [op,op'] [b,c]=false:=fun h=>zfd h
   exact ⟨(fun z=>by cases z),zmw (zgf g h1) (zgf g h1') a1 b1 c1 (hm c2),fun _=>zmp (zgf g h1) (zgf g h1') a1 b1 c1 (hm c2),rfl⟩
  ·cases h
 ·split at h
  ·rename_i c a b pos ht;obtain ⟨fc,h1,h⟩:=zaa h;obtain ⟨fa,h2,h⟩:=zaa h;obtain ⟨fb,h3,h⟩:=zaa h;cases h;obtain ⟨_,c2,_⟩:=zaX hs g h1;exact ⟨(fun z=>by cases z),zup (c2 ht) (zaX hs g h2).1 (zaX hs g h3).1,(fun z=>by cases z),rfl⟩
  ·cases h
 ·rename_i a i pos;split at h
  ·rename_i p hp;obtain ⟨w,fe⟩:=p;cases h;obtain ⟨rfl,n1⟩:=zsJ hs g (pos:=pos) hp;exact ⟨(fun z=>by cases z),n1,fun _=>zbD n1 (fun _=>rfl),rfl⟩
  unfold zwp at h;split at h
  ·obtain ⟨fa,h1,h⟩:=zaa h;obtain ⟨fl,h2,h⟩:=zaa h;obtain ⟨fu,h3,h⟩:=zaa h;cases h;exact ⟨(fun z=>by cases z),zro (zcg hs g h1).1 (ziS hs g h2) (ziS hs g h3),fun _=>zbD (zro (zcg hs g h1).1 (ziS hs g h2) (ziS hs g h3)) (fun _=>rfl),rfl⟩
  ·split at h
   ·rename_i hix;obtain ⟨fa,h1,h⟩:=zaa h;obtain ⟨fb,h2,h⟩:=zaa h;cases h;have p:PE X (.Subscript a _ pos) (tE cl E (zaf ixD fa fb)):=zuo (zu5 g.kk) (zcg hs g h1).1 (zcg hs g h2).1 (znh hix);exact ⟨(fun z=>by cases z),p,fun _=>zbD p (fun _=>rfl),rfl⟩
   ·cases h
 ·rename_i o fl pos;obtain ⟨rfl,n1⟩:=zsM hs g (pos:=pos) h;exact ⟨(fun z=>by cases z),n1,fun _=>zbD n1 (fun _=>rfl),rfl⟩
 ·rename_i fn args kws cp;unfold zov at h;split at h
  ·rename_i o m ap;split at h
   rotate_left
   ·obtain ⟨a1,a2⟩:=zpG hs g (ap:=ap) (pos:=cp) h;exact ⟨a1,a2,fun _=>zbD a2 (fun _=>rfl),rfl⟩
   rename_i pp hpp;obtain ⟨⟨x,p⟩,e1,h2⟩:=zaa hpp;have e2:=ziV e1;have h3:=h;cases h3;clear hpp e1;subst e2;replace h:=h2;clear h2;dsimp only at h ⊢;unfold zxw at h;split at h
   ·rename_i a;split at h
    ·rename_i hln;obtain ⟨i,h1,h⟩:=zaa h;obtain ⟨fa,h2,h⟩:=zaa h;obtain ⟨gg,h3,h⟩:=zaa h;cases h;obtain ⟨n1,n2,n3,n4⟩:=g.slot h1;obtain ⟨a1,a2⟩:=zcg hs g h2
     have p:PE X (.Call (.Attribute (.Name x p) m ap) [a] [] cp) (tE cl E (eMt gg i fa)):=by
      unfold zwv at h3;split at h3
      ·rename_i em;cases h3;subst em;exact zrr PySem.F.slot_list_count PySem.F.type_list_count (zm5 g.kk g.units) zlT n1 n2 n3 n4 a1 (zaq a2) hln
      ·split at h3
       ·rename_i em;cases h3;subst em;exact zrr PySem.F.slot_list_index PySem.F.type_list_index (zm4 g.kk g.units) zly n1 n2 n3 n4 a1 (zaq a2) hln
       ·cases h3
     exact ⟨(fun z=>by cases z),p,fun _=>zbD p (fun _=>rfl),rfl⟩
    ·cases h
   ·cases h
  ·rename_i x p;split at h
   ·rename_i hk
    have hk':kws=[]:=by simpa using hk
    subst hk';split at h
    ·rename_i pm hmk;obtain ⟨w,fe⟩:=pm;cases h;obtain ⟨rfl,n1⟩:=zuJ hs g (p:=p) (pos:=cp) hmk;exact ⟨(fun z=>by cases z),n1,fun _=>zbD n1 (fun _=>rfl),rfl⟩
    split at h
    ·rename_i hsp;cases h;obtain ⟨a1,a2⟩:=zuj hs g (p:=p) (pos:=cp) hsp;exact ⟨a1,a2,fun _=>zbD a2 (fun _=>rfl),rfl⟩
    ·obtain ⟨a1,a2⟩:=zqm hs g (p:=p) (pos:=cp) h;exact ⟨a1,a2,fun _=>zbD a2 (fun _=>rfl),rfl⟩
   ·cases h
  ·cases h
 ·rename_i elt gs scope pos;unfold lcG at h;split at h
  ·obtain ⟨fa,h1,h2⟩:=za1 h;cases h2;rename_i gg;have p:PE X (.ListComp elt [gg] scope pos) (tN cl E f):=zlX hs g h1;exact ⟨fun _=>p,zdz p,fun _=>zbD (zdz p) (fun _=>rfl),rfl⟩
  ·cases h
 ·cases h
theorem zor:∀n,zbm cl G k (zvh G n)
 | 0=>fun _ _ _ _ _ _ _ _ h=>by cases h
 | n+1=>znB (zor n)
end
end S2
namespace S2
open PySem PySem.Spec PyProof.Rows L2
def zme(X:Cx)(E:St->XK):Prop:=∀(C:Addr) (pins:Z3) (σ:St) (H:Hp) (s:Shared) (e:Addr) (h':Heap) (vs:List Value),Inv X pins σ H s->Heap.MadeExcOf s.heap h' e (.ref C) vs->E σ (.ref C) none H->X.xe (.ref e) { s with heap:=h' }
def zoI(C:Addr)(E:St->XK)(t:TA):TS:=fun _ σ H=>t σ H fun vs H1=>vs.length<=sizeLine/\E σ (.ref C) none H1
theorem zkO{X:Cx}{x:Str}{C:Addr}{E:St->XK}{np cpos pos:Pos}{e:Expr}{es:List Expr}{t:TA}(hr:zme X E)(hc:X.calm=true)(hg:Gl X x)(hm:X.mg x=some (.ref C))
  (z:PySem.W.excIn X.K C bmV "ValueError.__new__" = true) (ha:PA X (e::es) t)
  (he:starEach (e::es) X.env=(false,eval e X.env)::starEach es X.env) (hpl:(backTo cpos (starEach es X.env)).any (·.1)=false) (hdb:(x == ("__debug__":Str))=false) :
  PS X (.Raise (some (.Call (.Name x np) (e::es) [] cpos)) none pos) (zoI C E t):=by
 intro pins s σ H D I h;obtain ⟨bm,N,nm,qn,bs,hd,sn,sub,ab,col,dd,c0,c1,c2,c3,c5,mN,o1,o2,o3,o4⟩:=zik I.mod.kin z
 refine wpAny_Raise_call_subU (C:=C) (nm:=nm) (q:=qn) (N:=N) (bs:=bs) (bm:=bm) (hdct:=hd) (sn:=sn) (sub:=sub) (ab:=ab) (col:=col) (dd:=dd) (k0:=c0) (k1:=c1) (k2:=c2) (k3:=c3) (k5:=c5)
  PySem.F.excBase_ValueError (by decide +kernel) PySem.F.excBase_ValueError (mN:=mN) (o4.hasType PySem.F.excBase_ValueError.hasBase) (I.ok.hd hc) (by rw [he];show (false||(backTo cpos (starEach es X.env)).any (·.1))=false;rw [hpl];rfl) o3 (zen I hg hm ⟨rfl,?_⟩ hdb)
 have go:=ha cpos pins s σ H _ I h;rw [he] at go ⊢;exact Calls.evalArgs_plain (thn go fun us s2 ⟨vs,H2,I2,r2,q1,q2⟩=>⟨rfl,by rw [<-r2.length];exact q1,I2.bk _ _ o1,o2.keeps I2.bk,o4.keeps I2.bk,fun h' a mk=>hr C pins σ H2 s2 a h' us I2 mk q2⟩)
def sRz(c:Str)(fs:List Fe):Fs:=fun ρ S=>match zan fs ρ S with | .ok ds S'=>if small ds.length then .ex c ρ S' else .bad | .exc x S'=>.ex x ρ S' | .bad=>.bad
def znR(X:Cx)(pins:Z3)(E:St->XK):Cx:={ X with pn:=X.pn++pins,xe:=fun e s'=>∃σ H1 s1,Inv X pins σ H1 s1/\CXE X.prog X.w X.stack H1 s1 (E σ) e s' }
section
variable{X:Cx}{pins:Z3}{σ:St}{H:Hp}{s:Shared}{E:St->XK}
theorem zr2(ok:X.Ok):(znR X pins E).Ok :=
 ⟨ok.mod,ok.kind,ok.glob,ok.blt,ok.above,ok.inj,ok.has,ok.cab,ok.hd,ok.frames,ok.stk,ok.exf,ok.bs,ok.bsz,ok.noex,ok.exfs,ok.funs,ok.frf⟩
theorem zmX(ok:(znR X pins E).Ok):X.Ok :=
 ⟨ok.mod,ok.kind,ok.glob,ok.blt,ok.above,ok.inj,ok.has,ok.cab,ok.hd,ok.frames,ok.stk,ok.exf,ok.bs,ok.bsz,ok.noex,ok.exfs,ok.funs,ok.frf⟩
theorem zpZ(I:Inv X pins σ H s):Inv (znR X pins E) [] σ H s :=
 ⟨zr2 I.ok,I.os,I.bare,I.base,I.loc,I.cell,I.free,I.freeC,fun p hp=>I.pin p (by simpa [znR] using hp),I.hok,I.len⟩
theorem zdc{pins':Z3}(I:Inv (znR X pins E) pins' σ H s):Inv X pins σ H s :=
 ⟨zmX I.ok,I.os,I.bare,I.base,I.loc,I.cell,I.free,I.freeC,fun p hp=>I.pin p (List.mem_append_left _ hp),I.hok,I.len⟩
theorem zmq{De:Ends}{f:Flow}(h:SP (znR X pins E) [] De f s):SP X pins De f s:=by
 cases f with
 | next=>obtain ⟨σ',H',I,q⟩:=h;exact ⟨σ',H',zdc I,q⟩
 | brk=>obtain ⟨σ',H',I,q⟩:=h;exact ⟨σ',H',zdc I,q⟩
 | cont=>obtain ⟨σ',H',I,q⟩:=h;exact ⟨σ',H',zdc I,q⟩
 | ret u=>obtain ⟨v,σ',H',I,r,q⟩:=h;exact ⟨v,σ',H',zdc I,r,q⟩
end
def ztX(K:PySem.W.Frag)(C:Addr)(i:Nat)(th:TS)(De:Ends):St->XK:=fun σ cls _ H'=>∃C',cls=.ref C'/\znN K C' C/\∀a ob,H' a=none->ob.cls=.ref C'->th (De.goes i) (σ.set i (some (.ref a))) (upd H' a (.frz ob (.own a)))
theorem zph{X:Cx}{body:List Stmt}{b0:Stmt}{suite:List Stmt}{c n:Str}{C:Addr}{i:Nat}{bD:List Value}{iD:String}{tb:(St->XK)->TS}{th:TS}{np hpos pos:Pos}(hs:X.stack=X.env::X.outer)(hf:X.env.frame=some X.env.locals)(hN:X.N.Nodup)(hi:X.N[i]?=some n)
  (hk:X.env.scope.names.lookup n=some .local) (hg:Gl X c) (hm:X.mg c=some (.ref C)) (z:PySem.W.excIn X.K C bD iD=true) (hb:bD.contains (.type "BaseException")=true) (h1:∀pins E,PSs (znR X pins E) body (tb E)) (h2:∀a,PSs (X.inH a) (b0::suite) th) (hdb:(c == ("__debug__":Str))=false) :
  PS X (.Try body [.ExceptHandler (some (.Name c np)) (some n) (b0::suite) hpos] [] [] pos) (fun De σ H=>tb (ztX X.K C i th De) De σ H):=by
 intro pins s σ H D I h
 have hfr:X.A.frames=some (X.env::X.outer):=by rw [<-hs];exact I.ok.frames
 refine wpAny_Try_except (wpAny_mono (h1 pins (ztX X.K C i th D) [] s σ H D (zpZ I) h) (fun f s1 q=>?_) fun e s1 q=>?_)
 ·have q':=zmq q
  cases f with
  | next=>exact wpAny_execs_nil q'
  | ret v=>exact q'
  | brk=>exact q'
  | cont=>exact q'
 ·obtain ⟨σ1,H1,s2,I1,a,cls,a0,H',B,rfl,fl,c1,c2,c3,os,bare,un,hok,C',rfl,⟨⟨bC,iC,zC⟩,up⟩,q⟩:=q;have fl':=fl;rw [hs] at fl';refine wpAny_looks_onW hfr hf fl' fun h4 hd4 u4=>?_
  refine wpAny_landsW hd4 fun h5 fl5 u5=>?_
  rw [<-hs] at fl5;obtain ⟨I5,ob5,oc5,og5,_,_⟩:=zgg (s':=s1) I1 fl5 (u4.trans u5) c1 c2 c3 os bare un hok;refine wpAny_handleBy_cons (codeAny_handlers_test ?_) (by intro q;cases q);refine zen (I5.inH a) hg hm ?_ hdb;refine zgA I5.kIn zC z og5 oc5 hb up ?_;refine codeAny_handlers_suite_as ?_;refine lands_againW fl5 fun h6 fl6 u6=>?_
  obtain ⟨_,ob,oc,og,na,I6⟩:=zgg (s':=s1) I1 fl6 ((u4.trans u5).trans u6) c1 c2 c3 os bare un hok;refine zdS (v:=.ref a) I6 hN hi (.inl hk) rfl (fun s7 I7=>?_) (.inr hk);exact wpAny_mono (h2 a pins s7 _ _ (D.goes i) (I7.inH a) (q a ob na oc)) (fun f s8 q8=>zoU I.ok hN hi hk q8) fun _ _ z=>z.elim
def zqC(und:Str->Str->Bool)(C:Str)(i j:Nat)(fb:Fs):Fs:=fun ρ S=>match fb ρ S with
 | .ex c ρ' S'=>if und c C&&decide (i<ρ'.length) then .nx ((ρ'.set j (some (false,.exc c))).set i none) S' else .bad
 | o=>o
theorem Rel.clear{cl:Cf}{B:Base}{σ:St}{w:Wd}{ρ:Env}{S:Sto}(R:Rel cl B σ w ρ S)(i:Nat):Rel cl B (σ.set i none) w (ρ.set i none) S where
 wd:=R.wd
 len:=by rw [List.length_set,List.length_set];exact R.len
 slots:=fun j o e hj=>by
  by_cases hij:i=j
  ·subst hij
   have hlt:i<ρ.length:=by
    have:=(List.getElem?_eq_some_iff.mp hj).1;rw [List.length_set] at this;exact this
   rw [List.getElem?_set_self hlt] at hj;cases hj
  ·rw [List.getElem?_set_ne hij] at hj ⊢;exact R.slots j o e hj
section
variable{X:Cx}{cl:Cf}{E:St->XK}{own:Bool}
theorem zml{K:PySem.W.Frag}{und:Str->Str->Bool}{C:Str}{i j:Nat}{fb:Fs}(hij:i≠j)(hu:∀c,und c C=true->znN K (cl c) (cl C)){De:Ends}{σ:St}{H:Hp}(q:tS cl E own (zqC und C i j fb) De σ H) :
  tS cl (ztX K (cl C) i (znU (zwl i) (zie j)) De) own fb De σ H:=by
 obtain ⟨B,w,ρ,S,rfl,R,q⟩:=q;refine ⟨B,w,ρ,S,rfl,R,?_⟩;unfold zqC at q;have hl:ρ.length=σ.length:=R.len.symm
 cases hf:fb ρ S with
 | nx ρ' S'=>rw [hf] at q;exact q
 | bk ρ' S'=>rw [hf] at q;exact q
 | ct ρ' S'=>rw [hf] at q;exact q
 | rt d S'=>rw [hf] at q;exact q
 | bad=>rw [hf] at q;exact q
 | ex c ρ' S' =>
  rw [hf] at q;dsimp only at q
  cases hc:und c C&&decide (i<ρ'.length) with
  | false=>rw [hc,if_neg (by decide)] at q;exact q.elim
  | true =>
   rw [hc,if_pos rfl] at q;rw [Bool.and_eq_true] at hc;intro σ' w' R' F';refine ⟨cl c,rfl,hu c hc.1,fun a ob ha hob=>?_⟩;have g:=zaI (w:=w') ha (.frz ob (.own a));have sh:Shd cl (w'.add a (.frz ob (.own a))) (.ref a) (.exc c):=.exc zmc zhM hob
   have hi':i<σ'.length:=by rw [R'.len];exact of_decide_eq_true hc.2
   refine ⟨.ref a,List.getElem?_set_self hi',?_⟩;have R2:=((R'.grow g).put (i:=j) sh).clear i;refine q _ (w'.add a (.frz ob (.own a))) ?_ (F'.trans g.fut)
   have e:((σ'.set i (some (V.ref a))).set j (some (.ref a))).set i none=(σ'.set j (some (V.ref a))).set i none:=by
    rw [List.set_comm _ _ hij,List.set_set]
   show Rel cl B (((σ'.set i (some (V.ref a))).set j (some (.ref a))).set i none) _ _ _;rw [e];exact R2
end
end S2
namespace S2
open PySem PySem.Spec PyProof.Rows L2
section
variable{cl:Cf}{B:Base}{σ:St}{w:Wd}{ρ:Env}{S:Sto}
end
def tO(cl:Cf)(E:St->XK):Bool->Fe->TE | true,f=>tN cl E f | false,f=>tE cl E f
section
variable{X:Cx}{cl:Cf}{E:St->XK}{own:Bool}
end
def zf5:Expr->Bool | .ListComp _ _ _ _=>true | .SetComp _ _ _ _=>true | .DictComp _ _ _ _ _=>true | _=>false
theorem zgl{e:Expr}{t:Option Expr}{l:Nat}{env:PySem.Env}(h:zf5 e=false):swapsWith e t l env=pure false:=by
 cases e<;>first | rfl | cases h
structure Gd(cl:Cf)(G:Genv)(k:Nat)(X:Cx)(nm:Names)(N:List Str)(E:St->XK)(full:Bool):Prop where
 gx:Gx cl G k X nm N E
 fn:∀x,X.fn x=true
 kind:X.env.scope.kind=.function
 sc:X.env.scope.names=nm
 own:full=true->PassesOwn (model X.prog X.w) X.A X.env X.xe
 raises:full=true->zme X E
 stk:X.stack=X.env::X.outer
 frm:X.env.frame=some X.env.locals
def zcL:Nat->Names->List Str->Expr->List Nat
 | 0,_,_,_=>[]
 | n+1,nm,N,e =>
  let rc:=zcL n nm N
  let op:=fun (e:Expr)=>match e with | .Name _ _=>[] | e=>rc e
  match e with
  | .Name x _=>(zci nm N x).toList
  | .Tuple es _ _=>es.flatMap rc
  | .List es _=>es.flatMap rc
  | .BinOp a _ b _=>op a++op b
  | .UnaryOp _ a _=>rc a
  | .BoolOp _ es _=>es.flatMap rc
  | .Compare a _ bs _=>op a++bs.flatMap op
  | .IfExp c a b _=>rc c++rc a++rc b
  | .Subscript a (.Slice lo hi _ _) _=>op a++lo.toList.flatMap op++hi.toList.flatMap op
  | .Subscript a i _=>op a++op i
  | .Call (.Name f _) args [] _=>if (zl6 f).isSome||decide (f = "isinstance") then args.flatMap op else args.flatMap rc
  | .Call (.Attribute o _ _) args [] _=>op o++args.flatMap rc
  | .Attribute o _ _=>op o
  | .ListComp _ [g] scope _=>rc g.iter++(zaG scope.names N).map (·.2)
  | _=>[]
def zhT(t:Tg)(f:Fe):Fs:=fun ρ S=>match f ρ S with
 | .ok d S'=>(match t.put ρ d with | some ρ'=>.nx ρ' S' | none=>.bad)
 | .exc c S'=>.ex c ρ S'
 | .bad=>.bad
def zxr:Expr->Bool | .Constant _ _ _=>true | _=>false
def zqd:Expr->Option (List (Option Expr)×List Expr×Pos) | .Dict ks vs p=>some (ks,vs,p) | _=>none
theorem znz{e:Expr}{x:List (Option Expr)×List Expr×Pos}(h:zqd e=some x):e=.Dict x.1 x.2.1 x.2.2:=by cases e<;>first | (cases h;done) | (cases h;rfl)
def zic(e:Expr):Bool:=match zqd e with | some x=>x.1.isEmpty&&x.2.1.isEmpty | none=>false
theorem znA{e:Expr}(h:zic e=true):∃p,e=.Dict [] [] p:=by
 unfold zic at h
 cases h1:zqd e with
 | none=>rw [h1] at h;cases h
 | some x =>
  rw [h1] at h;dsimp only at h;rw [Bool.and_eq_true,List.isEmpty_iff,List.isEmpty_iff] at h;exact ⟨_,by rw [znz h1,h.1,h.2]⟩
def zod{α:Type}:List α->Option α | [a]=>some a | _=>none
theorem zf1{α:Type}{l:List α}{a:α}(h:zod l=some a):l=[a]:=by
 cases l with
 | nil=>cases h
 | cons b t=>cases t with
  | nil=>cases h;rfl
  | cons _ _=>cases h
def zd2:Expr->Option (Str×Pos) | .Name x p=>some (x,p) | _=>none
theorem zb0{e:Expr}{x:Str×Pos}(h:zd2 e=some x):e=.Name x.1 x.2:=by cases e<;>first | (cases h;done) | (cases h;rfl)
def zqo:Expr->Option (Expr×List Expr×List Keyword×Pos) | .Call f a k p=>some (f,a,k,p) | _=>none
theorem zjo{e:Expr}{x:Expr×List Expr×List Keyword×Pos}(h:zqo e=some x):e=.Call x.1 x.2.1 x.2.2.1 x.2.2.2:=by cases e<;>first | (cases h;done) | (cases h;rfl)
def zqG:Expr->Option (Expr×Str×Pos) | .Attribute o m p=>some (o,m,p) | _=>none
theorem zix{e:Expr}{x:Expr×Str×Pos}(h:zqG e=some x):e=.Attribute x.1 x.2.1 x.2.2:=by cases e<;>first | (cases h;done) | (cases h;rfl)
def zxx:Stmt->Option (List Expr×Expr×Pos) | .Assign t e p=>some (t,e,p) | _=>none
theorem zqs{e:Stmt}{x:List Expr×Expr×Pos}(h:zxx e=some x):e=.Assign x.1 x.2.1 x.2.2:=by cases e<;>first | (cases h;done) | (cases h;rfl)
def zqz:Expr->Option (List Expr×Nat×Pos) | .Tuple es k p=>some (es,k,p) | _=>none
theorem zoD{e:Expr}{x:List Expr×Nat×Pos}(h:zqz e=some x):e=.Tuple x.1 x.2.1 x.2.2:=by cases e<;>first | (cases h;done) | (cases h;rfl)
def zq1:Expr->Option (Expr×Expr×Pos) | .Subscript a i p=>some (a,i,p) | _=>none
theorem zhQ{e:Expr}{x:Expr×Expr×Pos}(h:zq1 e=some x):e=.Subscript x.1 x.2.1 x.2.2:=by cases e<;>first | (cases h;done) | (cases h;rfl)
def lcE:Expr->Option (Expr×List Comprehension×Scope×Pos) | .ListComp elt gs scope p=>some (elt,gs,scope,p) | _=>none
theorem zsn{e:Expr}{x:Expr×List Comprehension×Scope×Pos}(h:lcE e=some x):e=.ListComp x.1 x.2.1 x.2.2.1 x.2.2.2:=by cases e<;>first | (cases h;done) | (cases h;rfl)
def zvs(G:Genv)(rc:Rec)(nm:Names)(N:List Str)(x:Str)(e:Expr):Option Fs :=
 (tgI true nm N N.length x).bind fun i=>match lcE e with
  | some c=>(zod c.2.1).bind fun g=>if G.ns x then (znF G rc nm N c.1 g c.2.2.1).bind fun f=>some (zhU i f) else (zj0 G rc nm N c.1 g c.2.2.1).bind fun f=>some (zaW i true f)
  | none=>if zf5 e then none else (rc nm N e).bind fun p=>some (zaW i p.1 p.2)
def zvr(rc:Rec)(nm:Names)(N:List Str)(t:List Expr×Nat×Pos)(e:Expr):Option Fs:=match zqz e with
 | some _=>none
 | none=>(tgG true nm N N.length (.Tuple t.1 t.2.1 t.2.2)).bind fun t=>(shE rc nm N e).bind fun f=>some (zhT t f)
def zvu(G:Genv)(rc:Rec)(nm:Names)(N:List Str)(o:Expr)(f:Str)(e:Expr):Option Fs :=
 (nmF o).bind fun x=>if zic e then (if G.ob.df f&&G.ob.fk G.ob.cur f then (zci nm N x.1).map fun i=>zjE G.ob.cur f i else none) else (if G.ob.df f||!G.ob.fk G.ob.cur f then none else (shE rc nm N o).bind fun fo=>(shE rc nm N e).bind fun fe=>some (zgq G.ob.cur f fo fe))
def zvt(G:Genv)(rc:Rec)(nm:Names)(N:List Str)(o:Expr)(f:Str)(ix e:Expr):Option Fs :=
 if zgC o&&G.ob.df f&&!zf5 e&&G.ob.fk G.ob.cur f then (nmF ix).bind fun x=>(zci nm N x.1).bind fun i=>(shE rc nm N o).bind fun fo=>(shE rc nm N e).bind fun fe=>some (zjD G.ob.cur f fo i fe) else none
def zqE:Expr->Option (Int×Nat×Pos) | .Constant (.int c) k p=>some (c,k,p) | _=>none
theorem zp0{e:Expr}{x:Int×Nat×Pos}(h:zqE e=some x):e=.Constant (.int x.1) x.2.1 x.2.2:=by
 unfold zqE at h;split at h
 ·cases h;rfl
 ·cases h
def pkE(e:Expr):Option ((Str×Pos)×(Int×Nat×Pos)×Pos):=(zq1 e).bind fun u=>(zd2 u.1).bind fun y=>(zqE u.2.1).bind fun c=>some (y,c,u.2.2)
theorem zn8{e:Expr}{z:(Str×Pos)×(Int×Nat×Pos)×Pos}(h:pkE e=some z):e=.Subscript (.Name z.1.1 z.1.2) (.Constant (.int z.2.1.1) z.2.1.2.1 z.2.1.2.2) z.2.2:=by
 unfold pkE at h
 cases h1:zq1 e with
 | none=>rw [h1] at h;cases h
 | some u =>
  rw [h1] at h;have h':((zd2 u.1).bind fun y=>(zqE u.2.1).bind fun c=>some (y,c,u.2.2))=some z:=h
  cases h2:zd2 u.1 with
  | none=>rw [h2] at h';cases h'
  | some y =>
   rw [h2] at h';have h'':((zqE u.2.1).bind fun c=>some (y,c,u.2.2))=some z:=h'
   cases h3:zqE u.2.1 with
   | none=>rw [h3] at h'';cases h''
   | some c =>
    rw [h3] at h'';cases h'';rw [zhQ h1,zb0 h2,zp0 h3]
def ztD(rc:Rec)(nm:Names)(N:List Str)(q:Expr×Expr×Pos)(e:Expr):Option Fs :=
 (zq1 q.1).bind fun s=>(zd2 s.1).bind fun x=>(pkE s.2.1).bind fun y1=>(pkE q.2.1).bind fun y2 =>
  if decide (y2.1.1=y1.1.1)&&!zf5 e then (zci nm N x.1).bind fun i=>(zci nm N y1.1.1).bind fun j=>(shE rc nm N e).bind fun f=>some (zhS i j y1.2.1.1 y2.2.1.1 f) else none
def zs8(G:Genv)(rc:Rec)(nm:Names)(N:List Str)(q:Expr×Expr×Pos)(e:Expr):Option Fs:=match zqG q.1 with
 | some a=>zvt G rc nm N a.1 a.2.1 q.2.1 e
 | none=>none
def ztC(G:Genv)(rc:Rec)(nm:Names)(N:List Str)(tg e:Expr):Option Fs:=match zd2 tg with
 | some x=>zvs G rc nm N x.1 e
 | none=>match zqz tg with
  | some t=>zvr rc nm N t e
  | none=>match zqG tg with
   | some a=>zvu G rc nm N a.1 a.2.1 e
   | none=>(zq1 tg).bind fun q=>match ztD rc nm N q e with | some f=>some f | none=>zs8 G rc nm N q e
structure Mc where
 x:Str
 px:Pos
 m:Str
 ap:Pos
 a:Expr
 cp:Pos
def zm3(e:Expr):Option Mc:=(zqo e).bind fun c=>if c.2.2.1.isEmpty then (zqG c.1).bind fun t=>(zd2 t.1).bind fun x=>(zod c.2.1).bind fun a=>some ⟨x.1,x.2,t.2.1,t.2.2,a,c.2.2.2⟩ else none
def zqa(G:Genv)(rc:Rec)(nm:Names)(N:List Str)(e:Expr):Option Fs:=match zm3 e with
 | some c=>if decide (c.m = "append")&&(c.ap.endLine == c.cp.line) then (zci nm N c.x).bind fun i=>(shE rc nm N c.a).bind fun f=>some (zg6 i f)
  else if decide (c.m = "extend")&&(c.ap.endLine == c.cp.line) then (zci nm N c.x).bind fun i=>(opE rc nm N c.a).bind fun f=>some (zqD i f) else if zf5 e then none else (shE rc nm N e).map zo7
 | none=>if zf5 e then none else (shE rc nm N e).map zo7
def zus(rc:Rec)(nm:Names)(N:List Str)(own:Bool)(e:Expr):Option Fs:=match own with
 | true=>(match e with
  | .Name x _=>(zci nm N x).map zgo
  | e=>(rc nm N e).bind fun p=>if p.1 then some (zbp p.2) else none)
 | false=>(shE rc nm N e).map zbp
def rzG(G:Genv)(rc:Rec)(nm:Names)(N:List Str)(full:Bool)(a b:Option Expr):Option Fs:=if b.isNone then a.bind fun e=>(zqo e).bind fun c=>(zd2 c.1).bind fun x=>if c.2.2.1.isEmpty&&!c.2.1.isEmpty&&full&&zco nm x.1&&G.exc x.1 then (shL rc nm N c.2.1).bind fun fs=>some (sRz x.1 fs) else none else none
def zwk(G:Genv)(rs:Bool->List Stmt->Option Fs)(nm:Names)(N:List Str)(body:List Stmt):ExceptHandler->Option Fs
 | .ExceptHandler t n b _=>t.bind fun te=>(zd2 te).bind fun C=>n.bind fun nn=>(zod b).bind fun st=>(zxx st).bind fun as=>(zod as.1).bind fun tg=>(zd2 tg).bind fun m=>(zd2 as.2.1).bind fun n' =>
  if zco nm C.1&&G.exc C.1&&decide (nn=n'.1)&&decide (nm.lookup nn=some .local)&&zhj nn then (idx N nn).bind fun i=>(tgI true nm N N.length m.1).bind fun j=>if i=j then none else (rs false body).bind fun b=>some (zqC G.und C.1 i j b) else none
def ztW(G:Genv)(rs:Bool->List Stmt->Option Fs)(nm:Names)(N:List Str)(body:List Stmt)(hs:List ExceptHandler)(es fs:List Stmt):Option Fs:=if es.isEmpty&&fs.isEmpty then (zod hs).bind fun h=>zwk G rs nm N body h else none
def stG(G:Genv)(rc:Rec)(rs:Bool->List Stmt->Option Fs)(nm:Names)(N:List Str)(own full:Bool)(st:Stmt):Option Fs:=match st with
 | .Pass _=>some sNx
 | .Break _=>some sBk
 | .Assign ts e _=>(zod ts).bind fun tg=>ztC G rc nm N tg e
 | .Expr e _=>zqa G rc nm N e
 | .AugAssign tg op e _=>(zd2 tg).bind fun x=>(ztA op).bind fun gg=>(tgI true nm N N.length x.1).bind fun i=>(shE rc nm N e).bind fun f=>some (zo8 i gg f)
 | .Return o _=>(match o with | some e=>zus rc nm N own e | none=>if own then none else some zmx)
 | .If c a b _=>if zbV c then (shE rc nm N c).bind fun f=>(rs full a).bind fun g=>(rs full b).bind fun h=>some (sIf f g h) else none
 | .For tg it body el _=>if full&&el.isEmpty then (zib G rc nm N tg it).bind fun i=>(tgG true nm N N.length tg).bind fun t=>(rs full body).bind fun b=>some (zeX t i b) else none
 | .Raise a b _=>rzG G rc nm N full a b
 | .Try body hs es fs _=>ztW G rs nm N body hs es fs
 | _=>none
end S2
namespace S2
open PySem PySem.Spec PyProof.Rows L2
def zpm(n:Nat)(own:Bool)(nm:Names)(N:List Str):Stmt->List Nat
 | .Assign [_] e _=>zcL n nm N e
 | .Expr (.Call (.Attribute _ _ _) args [] _) _=>args.flatMap (zcL n nm N)
 | .Expr e _=>zcL n nm N e
 | .Return (some (.Name x p)) _=>if own then [] else zcL n nm N (.Name x p)
 | .Return (some e) _=>zcL n nm N e
 | .If c _ _ _=>zcL n nm N c
 | .For _ it _ _ _=>zcL n nm N it
 | .While c _ _ _=>zcL n nm N c
 | _=>[]
def blk(ds:Stmt->Option Fs):List Stmt->Option Fs
 | []=>some sNx
 | s::r=>(ds s).bind fun f=>(blk ds r).bind fun g=>some (zag f g)
def znC(G:Genv)(own:Bool):Nat->Bool->Names->List Str->Stmt->Option Fs
 | 0,_,_,_,_=>none
 | n+1,full,nm,N,st=>(stG G (zvh G n) (fun fl b=>blk (znC G own n fl nm N) b) nm N own full st).map (sFz (zpm n own nm N st))
section
variable{cl:Cf}{G:Genv}{k:Nat}{rc:Rec}{X:Cx}{nm:Names}{N:List Str}{E:St->XK}{own full:Bool}
theorem Gd.sto(g:Gd cl G k X nm N E full):Sto' X nm true:=⟨fun _ x _=>g.fn x⟩
theorem zfS{elt:Expr}{gs:List Comprehension}{scope:Scope}{p px:Pos}{x:Str}{l:Nat}{env:PySem.Env}:∃b,swapsWith (.ListComp elt gs scope p) (some (.Name x px)) l env=pure b:=⟨_,rfl⟩
theorem zmb{n:Nat}{t:Tg}{f:Fe}{De:Ends}{σ:St}{H:Hp}(q:tS cl E own (zhT t f) De σ H):znU (tE cl E f) (tG cl n t) De σ H:=by
 obtain ⟨B,w,ρ,S,rfl,R,q⟩:=q;refine ⟨B,w,ρ,S,rfl,R,?_⟩;unfold zhT at q
 cases hf:f ρ S with
 | bad=>rw [hf] at q;exact q
 | exc c S1=>rw [hf] at q;exact fun w' R' F'=>q σ w' R' F'
 | ok d S1 =>
  rw [hf] at q;intro v w' R' F' h';dsimp only at q
  cases hp:t.put ρ d with
  | none=>rw [hp] at q;exact q.elim
  | some ρ'=>rw [hp] at q;exact ⟨B,w',ρ,S1,d,ρ',rfl,R',h',hp,fun σ' _ _ R2=>q σ' w' R2 F'⟩
theorem znE(hs:zbm cl G k rc)(g:Gd cl G k X nm N E full){elt:Expr}{gg:Comprehension}{scope:Scope}{x:Str}{i:Nat}{f:Fe}{p px pos:Pos}(hi:tgI true nm N N.length x=some i)(h:zj0 G rc nm N elt gg scope=some f) :
  PS X (.Assign [.Name x px] (.ListComp elt [gg] scope p) pos) (tS cl E own (zaW i true f)):=by
 obtain ⟨a1,a2,a3,a4,a5⟩:=zeU g.gx g.sto hi;obtain ⟨b,hb⟩:=zfS (elt:=elt) (gs:=[gg]) (scope:=scope) (p:=p) (px:=px) (x:=x) (l:=pos.line) (env:=X.env)
 cases b with
 | false=>exact zkw a2 a3 a4 (zlX hs g.gx h) hb a5
 | true =>
  obtain ⟨it,t,c,el,rfl,eg,S,i1,i2,i3,i4,i5⟩:=zge hs g.gx h;rw [eg] at hb ⊢;refine PS.imp (ziO g.gx.calm S a2 a3 a4 i1 i3 i4 i5 hb a5 (zdZ i2)) ?_;intro De σ H q;exact zot (zs6 q)
theorem zl0(hs:zbm cl G k rc)(g:Gd cl G k X nm N E full){elt:Expr}{gg:Comprehension}{scope:Scope}{x:Str}{i:Nat}{f:Fe}{p px pos:Pos}(hi:tgI true nm N N.length x=some i)(h:znF G rc nm N elt gg scope=some f) :
  PS X (.Assign [.Name x px] (.ListComp elt [gg] scope p) pos) (tS cl E own (zhU i f)):=by
 obtain ⟨a1,a2,a3,a4,a5⟩:=zeU g.gx g.sto hi;obtain ⟨b,hb⟩:=zfS (elt:=elt) (gs:=[gg]) (scope:=scope) (p:=p) (px:=px) (x:=x) (l:=pos.line) (env:=X.env);obtain ⟨it,t,c,el,rfl,eg,S,i1,i2,i3,i4,i5⟩:=ziq hs g.gx h;rw [eg] at hb ⊢
 cases b with
 | false=>exact PS.imp (ziN a2 a3 a4 (PE.imp (ziR g.gx.calm S i1 i3 i4 i5 (zdZ i2)) fun _ _ _ q=>zou q) hb a5) fun _ _ _ q=>zs7 q
 | true =>
  refine PS.imp (ziO g.gx.calm S a2 a3 a4 i1 i3 i4 i5 hb a5 (zdZ i2)) ?_;intro De σ H q;exact zou (zs7 q)
theorem znV{a i e:Expr}{p:Pos}{l:Nat}{env:PySem.Env}:swapsWithSole [.Subscript a i p] e l env=pure false:=by cases e<;>rfl
theorem znX{a i e:Expr}{p:Pos}{env:PySem.Env}:swappedStores [.Subscript a i p] e env=pure none:=by cases e<;>rfl
theorem zqY{es:List Expr}{kk l:Nat}{p:Pos}{e:Expr}{env:PySem.Env}:swapsWithSole [.Tuple es kk p] e l env=pure false:=by cases e<;>rfl
theorem zq2{es:List Expr}{kk:Nat}{p:Pos}{e:Expr}{env:PySem.Env}(h:zqz e=none):swappedStores [.Tuple es kk p] e env=pure none:=by cases e<;>first | rfl | cases h
theorem znW{o e:Expr}{f:Str}{p:Pos}{l:Nat}{env:PySem.Env}:swapsWith e (some (.Attribute o f p)) l env=pure false:=by cases e<;>rfl
theorem zqt(hs:zbm cl G k rc)(g:Gd cl G k X nm N E full){e:Expr}{x:Str}{px:Pos}{f:Fs}{pos:Pos}(h:zvs G rc nm N x e=some f):PS X (.Assign [.Name x px] e pos) (tS cl E own f):=by
 unfold zvs at h;obtain ⟨i,h1,h⟩:=zaa h
 cases hl:lcE e with
 | some c =>
  rw [hl] at h;obtain ⟨gg,h2,h⟩:=zaa h;rw [zsn hl,zf1 h2];split at h
  ·obtain ⟨fe,h3,h⟩:=zaa h;cases h;exact zl0 hs g h1 h3
  ·obtain ⟨fe,h3,h⟩:=zaa h;cases h;exact znE hs g h1 h3
 | none =>
  rw [hl] at h;dsimp only at h;split at h
  ·cases h
  ·rename_i hc;obtain ⟨⟨o,fe⟩,h2,h⟩:=zaa h;cases h;obtain ⟨a1,a2,a3,a4,a5⟩:=zeU g.gx g.sto h1;obtain ⟨b1,b2,_,_⟩:=hs X nm N E g.gx _ o fe h2;have sw:=zgl (t:=some (.Name x px)) (l:=pos.line) (env:=X.env) (by simpa using hc)
   cases o with
   | false=>exact zrc a2 a3 a4 b2 sw a5
   | true=>exact zkw a2 a3 a4 (b1 rfl) sw a5
theorem zqr(hs:zbm cl G k rc)(g:Gd cl G k X nm N E full){e:Expr}{t:List Expr×Nat×Pos}{f:Fs}{pos:Pos}(h:zvr rc nm N t e=some f):PS X (.Assign [.Tuple t.1 t.2.1 t.2.2] e pos) (tS cl E own f):=by
 have tupCase:swappedStores [.Tuple t.1 t.2.1 t.2.2] e X.env=pure none->((tgG true nm N N.length (.Tuple t.1 t.2.1 t.2.2)).bind fun t=>(shE rc nm N e).bind fun f=>some (zhT t f))=some f->PS X (.Assign [.Tuple t.1 t.2.1 t.2.2] e pos) (tS cl E own f):=by
  intro sw2 h;obtain ⟨t',h1,h⟩:=zaa h;obtain ⟨fe,h2,h⟩:=zaa h;cases h;exact PS.imp (zkP (zaX hs g.gx h2).1 (zmo g.gx g.sto h1) zqY sw2 rfl) fun _ _ _ q=>zmb q
 unfold zvr at h
 cases hv:zqz e with
 | none =>
  rw [hv] at h;exact tupCase (zq2 hv) h
 | some v=>rw [hv] at h;cases h
theorem zqv(hs:zbm cl G k rc)(g:Gd cl G k X nm N E full){o e:Expr}{fl:Str}{ap:Pos}{f:Fs}{pos:Pos}(h:zvu G rc nm N o fl e=some f):PS X (.Assign [.Attribute o fl ap] e pos) (tS cl E own f):=by
 unfold zvu at h;obtain ⟨x,h1,hz⟩:=zaa h;have e1:=ziV h1;clear h h1;subst e1;split at hz
 ·rename_i hd;split at hz
  ·rename_i hf;rw [Bool.and_eq_true] at hf;obtain ⟨i,h1,hz⟩:=za1 hz;subst hz;obtain ⟨s1,s2,s3,s4⟩:=g.gx.slot h1;obtain ⟨p,rfl⟩:=znA hd;exact zoS s1 s2 s3 s4 g.gx.same (g.gx.gok.fk _ _ hf.2) znW
  ·cases hz
 ·split at hz
  ·cases hz
  ·rename_i hf;rw [Bool.not_eq_true,Bool.or_eq_false_iff,Bool.not_eq_false'] at hf;obtain ⟨fo,h2,hz⟩:=zaa hz;obtain ⟨fe,h3,hz⟩:=zaa hz;cases hz;exact zoR g.gx.same (g.gx.gok.fk _ _ hf.2) (zaX hs g.gx h2).1 (zaX hs g.gx h3).1 znW
theorem zqu(hs:zbm cl G k rc)(g:Gd cl G k X nm N E full){o ix e:Expr}{fl:Str}{ap p3:Pos}{f:Fs}{pos:Pos}(h:zvt G rc nm N o fl ix e=some f):PS X (.Assign [.Subscript (.Attribute o fl ap) ix p3] e pos) (tS cl E own f):=by
 unfold zvt at h;split at h
 ·rename_i hc;rw [Bool.and_eq_true,Bool.and_eq_true,Bool.and_eq_true,Bool.not_eq_true'] at hc;obtain ⟨x,h1,hz⟩:=zaa h;have e1:=ziV h1;clear h h1;subst e1;obtain ⟨i,h1,hz⟩:=zaa hz;obtain ⟨fo,h2,hz⟩:=zaa hz;obtain ⟨fe,h3,hz⟩:=zaa hz;cases hz;obtain ⟨s1,s2,s3,s4⟩:=g.gx.slot h1;refine zoP s1 s2 s3 s4 g.gx.u16 g.gx.same (g.gx.gok.fk _ _ hc.2) (zaX hs g.gx h2).1 ?_ (zaX hs g.gx h3).1 znV znX ?_
  ·cases o<;>first | rfl | cases hc.1.1.1
  ·intro _;rfl
 ·cases h
theorem zqw(hs:zbm cl G k rc)(g:Gd cl G k X nm N E full){q:Expr×Expr×Pos}{e:Expr}{f:Fs}{pos:Pos}(h:ztD rc nm N q e=some f):PS X (.Assign [.Subscript q.1 q.2.1 q.2.2] e pos) (tS cl E own f):=by
 unfold ztD at h;obtain ⟨s,h1,h⟩:=zaa h;obtain ⟨x,h2,h⟩:=zaa h;obtain ⟨y1,h3,h⟩:=zaa h;obtain ⟨y2,h4,h⟩:=zaa h;split at h
 ·rename_i hc;rw [Bool.and_eq_true,Bool.not_eq_true'] at hc;have hy:=of_decide_eq_true hc.1;obtain ⟨i,h5,h⟩:=zaa h;obtain ⟨j,h6,h⟩:=zaa h;obtain ⟨fe,h7,h⟩:=zaa h;cases h;obtain ⟨s1,s2,s3,s4⟩:=g.gx.slot h5;obtain ⟨t1,t2,t3,t4⟩:=g.gx.slot h6;rw [zhQ h1,zb0 h2,zn8 h3,zn8 h4,hy];exact zoL s1 s2 s3 s4 t1 t2 t3 t4 (zaX hs g.gx h7).1 znV znX
 ·cases h
theorem zs5(hs:zbm cl G k rc)(g:Gd cl G k X nm N E full){tg e:Expr}{f:Fs}{pos:Pos}(h:ztC G rc nm N tg e=some f):PS X (.Assign [tg] e pos) (tS cl E own f):=by
 unfold ztC at h
 cases h1:zd2 tg with
 | some x=>rw [h1] at h;rw [zb0 h1];exact zqt hs g h
 | none =>
  rw [h1] at h
  cases h2:zqz tg with
  | some t=>rw [h2] at h;rw [zoD h2];exact zqr hs g h
  | none =>
   rw [h2] at h
   cases h3:zqG tg with
   | some a=>rw [h3] at h;rw [zix h3];exact zqv hs g h
   | none =>
    rw [h3] at h;obtain ⟨q,h4,h⟩:=zaa h;rw [zhQ h4]
    cases ha2:ztD rc nm N q e with
    | some f'=>rw [ha2] at h;cases h;exact zqw hs g ha2
    | none =>
    rw [ha2] at h;dsimp only at h;unfold zs8 at h
    cases h5:zqG q.1 with
    | some a=>rw [h5] at h;rw [zix h5];exact zqu hs g h
    | none =>
     rw [h5] at h;cases h
theorem zm2{e:Expr}{c:Mc}(h:zm3 e=some c):e=.Call (.Attribute (.Name c.x c.px) c.m c.ap) [c.a] [] c.cp:=by
 unfold zm3 at h;obtain ⟨c1,h1,h⟩:=zaa h;split at h
 ·rename_i hk;obtain ⟨t,h2,h⟩:=zaa h;obtain ⟨x,h3,h⟩:=zaa h;obtain ⟨a,h4,h⟩:=zaa h;cases h;rw [zjo h1,zix h2,zb0 h3,zf1 h4,List.isEmpty_iff.mp hk]
 ·cases h
theorem zp9(hs:zbm cl G k rc)(g:Gd cl G k X nm N E full){e:Expr}{f:Fs}{pos:Pos}(h:zqa G rc nm N e=some f):PS X (.Expr e pos) (tS cl E own f):=by
 unfold zqa at h
 cases hc:zm3 e with
 | some c =>
  obtain ⟨x,px,m,ap,a,cp⟩:=c;obtain rfl:=zm2 hc;rw [hc] at h;dsimp only at h;split at h
  ·rename_i hm;rw [Bool.and_eq_true] at hm;have em:=of_decide_eq_true hm.1;subst em;obtain ⟨i,h1,h⟩:=zaa h;obtain ⟨fe,h2,h⟩:=zaa h;cases h;obtain ⟨s1,s2,s3,s4⟩:=g.gx.slot h1;obtain ⟨a1,_,a3⟩:=zaX hs g.gx h2;exact zrd s1 s2 s3 s4 a1 (zaq a3) hm.2
  split at h
  ·rename_i hm;rw [Bool.and_eq_true] at hm;have em:=of_decide_eq_true hm.1;subst em;obtain ⟨i,h1,h⟩:=zaa h;obtain ⟨fe,h2,h⟩:=zaa h;cases h;obtain ⟨s1,s2,s3,s4⟩:=g.gx.slot h1;obtain ⟨a1,a3⟩:=zcg hs g.gx h2;exact zq9 s1 s2 s3 s4 a1 (zaq a3) hm.2
  split at h
  ·cases h
  ·rename_i hc;obtain ⟨fe,h2,h⟩:=za1 h;subst h;exact znY (zaX hs g.gx h2).1 (zgl (by simpa using hc))
 | none =>
  rw [hc] at h;dsimp only at h;split at h
  ·cases h
  ·rename_i hc;obtain ⟨fe,h2,h⟩:=za1 h;subst h;exact znY (zaX hs g.gx h2).1 (zgl (by simpa using hc))
theorem zrz(hs:zbm cl G k rc)(g:Gd cl G k X nm N E full){e:Expr}{f:Fs}{pos:Pos}(h:zus rc nm N own e=some f):PS X (.Return (some e) pos) (tS cl E own f):=by
 unfold zus at h;split at h
 ·split at h
  ·obtain ⟨i,h1,h⟩:=za1 h;subst h;obtain ⟨s1,s2,s3,s4⟩:=g.gx.slot h1;exact zoM s1 s2 s3 s4
  ·obtain ⟨⟨o,fe⟩,h1,h⟩:=zaa h;dsimp only at h;split at h
   ·rename_i ho;cases h;exact zoN ((hs X nm N E g.gx _ o fe h1).1 ho)
   ·cases h
 ·obtain ⟨fe,h2,h⟩:=za1 h;subst h;exact zq6 (zaX hs g.gx h2).1
theorem zqP(g:Gd cl G k X nm N E full)(pins:Z3)(E':St->XK):Gd cl G k (znR X pins E') nm N E' false where
 gx:=⟨g.gx.gok,g.gx.room,g.gx.calm,fun pins' σ H s e s' I q=>⟨σ,H,s,zdc I,q⟩,g.gx.eN,g.gx.kk,g.gx.pp,g.gx.ww,g.gx.nd,g.gx.vis,g.gx.fnx⟩
 fn:=g.fn
 kind:=g.kind
 sc:=g.sc
 own:=fun z=>by cases z
 raises:=fun z=>by cases z
 stk:=g.stk
 frm:=g.frm
theorem zug(hs:zbm cl G k rc){rs:Bool->List Stmt->Option Fs}(hr:∀(fl:Bool) (X:Cx) (E:St->XK),Gd cl G k X nm N E fl->∀b f,rs fl b=some f->PSs X b (tS cl E own f))(g:Gd cl G k X nm N E full){st:Stmt}{f:Fs}(h:stG G rc rs nm N own full st=some f):PS X st (tS cl E own f):=by
 cases st with
 | Pass p=>cases h;exact zoQ
 | Break p=>cases h;exact zra
 | Assign ts e p =>
  obtain ⟨tg,h1,h⟩:=zaa (show ((zod ts).bind fun tg=>ztC G rc nm N tg e)=some f from h);obtain rfl:=zf1 h1;exact zs5 hs g h
 | Expr e p=>exact zp9 hs g h
 | AugAssign tg op e p =>
  obtain ⟨x,h1,hz⟩:=zaa (show ((zd2 tg).bind fun x=>(ztA op).bind fun gg=>(tgI true nm N N.length x.1).bind fun i=>(shE rc nm N e).bind fun f=>some (zo8 i gg f))=some f from h);obtain ⟨gg,h2,hz⟩:=zaa hz;obtain ⟨i,h3,hz⟩:=zaa hz;obtain ⟨fe,h4,hz⟩:=zaa hz;cases hz;rw [zb0 h1];obtain ⟨_,a2,a3,a4,a5⟩:=zeU g.gx g.sto h3;exact zrb h2 a2 a3 a4 (zaX hs g.gx h4).1 a5
 | Return o p =>
  cases o with
  | some e=>exact zrz hs g h
  | none =>
   have h':(if own then none else some zmx)=some f:=h;split at h'
   ·cases h'
   ·rename_i ho;cases h'
    have:own=false:=by simpa using ho
    subst this;exact zoO
 | If c a b p =>
  have h':(if zbV c then (shE rc nm N c).bind fun f=>(rs full a).bind fun g=>(rs full b).bind fun h=>some (sIf f g h) else none)=some f:=h;split at h'
  ·rename_i ht;obtain ⟨fc,h1,h⟩:=zaa h';obtain ⟨fa,h2,h⟩:=zaa h;obtain ⟨fb,h3,h⟩:=zaa h;cases h;exact zuh ((zaX hs g.gx h1).2.1 ht) (hr full X E g a fa h2) (hr full X E g b fb h3)
  ·cases h'
 | For tg it body el p =>
  have h':(if full&&el.isEmpty then (zib G rc nm N tg it).bind fun i=>(tgG true nm N N.length tg).bind fun t=>(rs full body).bind fun b=>some (zeX t i b) else none)=some f:=h;split at h'
  ·rename_i hf;rw [Bool.and_eq_true] at hf;obtain rfl:=List.isEmpty_iff.mp hf.2;obtain ⟨it,h1,h⟩:=zaa h';obtain ⟨t,h2,h⟩:=zaa h;obtain ⟨fb,h3,h⟩:=zaa h;cases h;obtain ⟨i1,i2⟩:=zia hs g.gx (tg:=_) h1;exact zq8 (g.own hf.1) g.gx.calm i1 (zmo g.gx g.sto h2) (hr full X E g _ fb h3) (zdZ i2)
  ·cases h'
 | Raise ea eb p =>
  have h':rzG G rc nm N full ea eb=some f:=h;unfold rzG at h';split at h'
  ·rename_i hb;obtain rfl:=Option.isNone_iff_eq_none.mp hb;obtain ⟨e0,e1,hz⟩:=zaa h';obtain ⟨c0,h1,hy⟩:=zaa hz;obtain ⟨⟨c,p⟩,h2,hx⟩:=zaa hy;have e2:=zjo h1;obtain ⟨fn,args,kws,cp⟩:=c0;have e3:fn=.Name c p:=zb0 h2;clear h h' hz hy h1 h2;subst e1;subst e2;subst e3;dsimp only at hx ⊢;split at hx
   ·rename_i hf;simp only [Bool.and_eq_true] at hf;obtain ⟨⟨⟨⟨k0,a0⟩,f0⟩,g0⟩,x0⟩:=hf;obtain rfl:=List.isEmpty_iff.mp k0
    cases args with
    | nil=>cases a0
    | cons e es =>
    obtain ⟨fs,h1,h⟩:=zaa hx;cases h;obtain ⟨g1,g2,_⟩:=g.gx.glob g0;obtain ⟨m,z⟩:=g.gx.gok.exc c x0;obtain ⟨a1,a2,_⟩:=zeW hs g.gx h1;rw [List.all_cons,Bool.and_eq_true] at a2;refine PS.imp (zkO (g.raises f0) g.gx.calm g1 m z a1 (zbv a2.1) (zby a2.2) g2) ?_;rintro De σ H ⟨B,w,ρ,S,rfl,R,q⟩;refine ⟨B,w,ρ,S,rfl,R,?_⟩;unfold sRz at q
    cases hv:zan fs ρ S with
    | bad=>rw [hv] at q;exact q
    | exc c S1=>rw [hv] at q;exact fun w' R' F'=>q σ w' R' F'
    | ok ds S1 =>
     rw [hv] at q;dsimp only at q
     cases hz:small ds.length with
     | false=>rw [hz,if_neg (by decide)] at q;exact q.elim
     | true =>
      rw [hz,if_pos rfl] at q;exact fun vs w' R' F' sh=>⟨by rw [sh.length];exact za7 hz,q σ w' R' F'⟩
   ·cases hx
  ·cases h'
 | Try body hs' es' fs' p =>
  have h':ztW G rs nm N body hs' es' fs'=some f:=h;unfold ztW at h';split at h'
  ·rename_i he;rw [Bool.and_eq_true] at he;obtain rfl:=List.isEmpty_iff.mp he.1;obtain rfl:=List.isEmpty_iff.mp he.2;obtain ⟨hd,h1,hz⟩:=zaa h';have e1:=zf1 h1;clear h h' h1;subst e1;obtain ⟨ty,nn,bb,hp⟩:=hd;unfold zwk at hz;obtain ⟨te,e2,hz⟩:=zaa hz;obtain ⟨⟨C,np⟩,h2,hz⟩:=zaa hz;obtain ⟨n,e3,hz⟩:=zaa hz;obtain ⟨st,h3,hz⟩:=zaa hz;obtain ⟨⟨ts,v,ap⟩,h4,hz⟩:=zaa hz;obtain ⟨tg,h5,hz⟩:=zaa hz;obtain ⟨⟨m,mp⟩,h6,hz⟩:=zaa hz;obtain ⟨⟨n',n'p⟩,h7,h⟩:=zaa hz;rw [e2,e3,zb0 h2,zf1 h3,zqs h4];dsimp only at h5 h7 h ⊢;rw [zf1 h5,zb0 h6,zb0 h7];dsimp only;split at h
   ·rename_i hc;simp only [Bool.and_eq_true,decide_eq_true_eq] at hc;obtain ⟨⟨⟨⟨c1,c2⟩,c3⟩,c4⟩,c5⟩:=hc;subst c3;obtain ⟨i,h1,h⟩:=zaa h;obtain ⟨j,h2,h⟩:=zaa h;split at h
    ·cases h
    ·rename_i hij;obtain ⟨fb,h3,h⟩:=zaa h;cases h;obtain ⟨g1,g2,_⟩:=g.gx.glob c1;obtain ⟨mC,zC⟩:=g.gx.gok.exc C c2;obtain ⟨o1,o2,_⟩:=zfc c5
     have hnl:X.env.scope.names.lookup n=some .local:=by rw [g.sc];exact c4
     have hNi:X.N[i]?=some n:=by rw [g.gx.eN];exact zfo h1
     obtain ⟨_,a2,a3,a4,a5⟩:=zeU g.gx g.sto h2;refine PS.imp (zph (tb:=fun E'=>tS cl E' own fb) g.stk g.frm (by rw [g.gx.eN];exact g.gx.nd) hNi hnl g1 mC zC (by decide +kernel) (fun pins E'=>hr false _ E' (zqP g pins E') _ fb h3) (fun a=>zpf (ziN (X:=X.inH a) a2 a3 a4 (zcz (X:=X.inH a) hNi (.inl hnl) o1 o2) rfl a5)) g2) ?_;intro De σ H q;exact zml hij (fun c hc'=>g.gx.gok.und c C hc') q
   ·cases h
  ·cases h'
 | _=>cases h
theorem zjp{ds:Stmt->Option Fs}(hd:∀st f,ds st=some f->PS X st (tS cl E own f)):∀{b:List Stmt} {f:Fs},blk ds b=some f->PSs X b (tS cl E own f)
 | [],f,h=>by cases h;exact zq7
 | s::r,f,h=>by
  unfold blk at h;obtain ⟨f1,h1,h⟩:=zaa h;obtain ⟨f2,h2,h⟩:=zaa h;cases h;exact zoT (hd s f1 h1) (zjp hd h2)
theorem zgH:∀(n:Nat) (fl:Bool) (X:Cx) (E:St->XK),Gd cl G k X nm N E fl->∀st f,znC G own n fl nm N st=some f->PS X st (tS cl E own f)
 | 0,_,_,_,_,_,_,h=>by cases h
 | n+1,fl,X,E,g,st,f,h=>by
  unfold znC at h;obtain ⟨f1,h1,h⟩:=za1 h;subst h;exact zui _ (zug (zor n) (fun fl X E g b f hb=>zjp (fun st f hst=>zgH n fl X E g st f hst) hb) g h1)
end
def zbR(nN:Nat)(own:Bool)(fs:Fs)(ds:List D)(S:Sto):Out D:=match fs (ds.map (fun d=>some (false,d))++List.replicate (nN-ds.length) none) S with
 | .rt d S'=>.ok d S'
 | .nx _ S'=>if own then .bad else .ok .non S'
 | .ex c _ S'=>.exc c S'
 | _=>.bad
def zap(G:Genv)(own:Bool)(N:List Str)(st:Stmt):Option Fs:=blk (znC G own 40 true (zac st).names N) (zbr st)
theorem znr{P:Program}{wo:PySem.World}{K:PySem.W.Frag}{mg:Z6}{base:Heap}{cl:Cf}{G:Genv}{k:Nat}{x qual:Str}{st:Stmt}{f:Addr}{fd:FuncData}{N ps:List Str}{own:Bool}{fs:Fs}(F:Fun K x qual st f fd)(S:FnScope N ps (zac st))(hG:GOk cl G P wo K mg base k)
  (hk:K=cl.K) (hP:P=cl.P) (hW:wo=cl.wo) (hd:zap G own N st=some fs):FnOk P wo K mg base (CXE P wo) (k+1) f fd ps (zg1 cl ps.length own (zbR N.length own fs)):=by
 obtain ⟨oc,od,kV,doc,pm,an,cdv,ct,osl,rfl,lk,hcd⟩:=F.ex;refine zsL lk hcd S (fun vs H Q E h=>h.1) fun A outer s H vs Q E hr hsp=>?_
 refine ⟨tS cl (fun _=>E) own fs,?_,?_⟩
 ·have g:Gd cl G k (zlR (CXE P wo) P wo K mg base N qual (zac st) f cdv A outer s H E) (zac st).names N (fun _=>E) true :=
   ⟨⟨hG,hr,rfl,fun pins σ H1 s1 e s' I q=>zrV pins σ H1 s1 e s' I q,rfl,hk,hP,hW,S.nd,fun x kd h=>⟨kd,h,.inl rfl⟩,fun x h=>h⟩,fun _=>rfl,S.kind,rfl,fun _=>PassesOwn.leaving,fun _ C pins σ H1 s1 e h' vs I mk q=>zkK C pins σ H1 s1 e h' vs I mk q,rfl,rfl⟩
  exact zjp (fun st f hst=>zgH 40 true _ _ g st f hst) hd
 ·obtain ⟨hl,B,w,ds,S0,rfl,W,sh,q⟩:=hsp;have hdl:ds.length=vs.length:=sh.length.symm;refine ⟨B,w,ds.map (fun d=>some (false,d))++List.replicate (N.length-ds.length) none,S0,rfl,⟨W,?_,fun i o d hi=>?_⟩,?_⟩
  ·unfold L2.zeV;rw [List.length_append,List.length_append,List.length_map,List.length_map,List.length_replicate,List.length_replicate,hdl]
  ·by_cases hlt:i<ds.length
   ·rw [List.getElem?_append_left (by rw [List.length_map];exact hlt),List.getElem?_map] at hi
    cases hdi:ds[i]? with
    | none=>rw [hdi] at hi;cases hi
    | some d' =>
     rw [hdi] at hi;cases hi;obtain ⟨v,e1,e2⟩:=sh.at hdi;refine ⟨v,?_,e2⟩;unfold L2.zeV;rw [List.getElem?_append_left (by rw [List.length_map];omega),List.getElem?_map,e1];rfl
   ·rw [List.getElem?_append_right (by rw [List.length_map];omega),List.getElem?_replicate] at hi
    split at hi<;>cases hi
  ·unfold zbR at q
   cases hf:fs (ds.map (fun d=>some (false,d))++List.replicate (N.length-ds.length) none) S0 with
   | bad=>rw [hf] at q;exact q
   | bk _ _=>rw [hf] at q;exact q.elim
   | ct _ _=>rw [hf] at q;exact q.elim
   | rt d S'=>rw [hf] at q;exact q
   | ex c ρ' S'=>rw [hf] at q;exact fun σ' w' R' F'=>q w' R'.wd F'
   | nx ρ' S' =>
    rw [hf] at q;dsimp only at q
    cases own with
    | true=>exact q.elim
    | false=>exact fun σ' w' R' F'=>q .non w' R'.wd F' .non
structure FunD(K:PySem.W.Frag)(x qual:Str)(st:Stmt)(f:Addr)(fd:FuncData)(items:Array Value):Prop where
 ex:∃(oc:Value) (od:Option Addr) (T:Addr) (o:Obj) (n:Nat) (kV doc pm:Value) (an:Option Addr) (cdv ct:Value) (osl:Array (Option Value)),
  fd=PySem.W.fnOf x qual (zbB st) (zbr st) (zac st) (.ref T) kV doc pm an cdv ct/\K.lookup f=some ⟨oc,od,.func fd,osl⟩/\PySem.W.codeIn K cdv qual=true/\K.lookup T=some o/\o.data=.seq items n
def inC(j:Nat):Stmt->Stmt | .ClassDef _ _ _ b ..=>b.getD j (.Pass ⟨0,0,0,0⟩) | s=>s
theorem zsK{P:Program}{wo:PySem.World}{K:PySem.W.Frag}{mg:Z6}{base:Heap}{cl:Cf}{G:Genv}{k:Nat}{x qual:Str}{st:Stmt}{f:Addr}{fd:FuncData}{N ps:List Str}{own:Bool}{fs:Fs}{items:Array Value}(F:FunD K x qual st f fd items)(S:FnScope N ps (zac st))(hG:GOk cl G P wo K mg base k)
  (hk:K=cl.K) (hP:P=cl.P) (hW:wo=cl.wo) (hd:zap G own N st=some fs):FnOk P wo K mg base (CXE P wo) (k+1) f fd ps (zg1 cl ps.length own (zbR N.length own fs)):=by
 obtain ⟨oc,od,T,o,n,kV,doc,pm,an,cdv,ct,osl,rfl,lk,hcd,_⟩:=F.ex;refine zsL lk hcd S (fun vs H Q E h=>h.1) fun A outer s H vs Q E hr hsp=>?_
 refine ⟨tS cl (fun _=>E) own fs,?_,?_⟩
 ·have g:Gd cl G k (zlR (CXE P wo) P wo K mg base N qual (zac st) f cdv A outer s H E) (zac st).names N (fun _=>E) true :=
   ⟨⟨hG,hr,rfl,fun pins σ H1 s1 e s' I q=>zrV pins σ H1 s1 e s' I q,rfl,hk,hP,hW,S.nd,fun x kd h=>⟨kd,h,.inl rfl⟩,fun x h=>h⟩,fun _=>rfl,S.kind,rfl,fun _=>PassesOwn.leaving,fun _ C pins σ H1 s1 e h' vs I mk q=>zkK C pins σ H1 s1 e h' vs I mk q,rfl,rfl⟩
  exact zjp (fun st f hst=>zgH 40 true _ _ g st f hst) hd
 ·obtain ⟨hl,B,w,ds,S0,rfl,W,sh,q⟩:=hsp;have hdl:ds.length=vs.length:=sh.length.symm;refine ⟨B,w,ds.map (fun d=>some (false,d))++List.replicate (N.length-ds.length) none,S0,rfl,⟨W,?_,fun i o d hi=>?_⟩,?_⟩
  ·unfold L2.zeV;rw [List.length_append,List.length_append,List.length_map,List.length_map,List.length_replicate,List.length_replicate,hdl]
  ·by_cases hlt:i<ds.length
   ·rw [List.getElem?_append_left (by rw [List.length_map];exact hlt),List.getElem?_map] at hi
    cases hdi:ds[i]? with
    | none=>rw [hdi] at hi;cases hi
    | some d' =>
     rw [hdi] at hi;cases hi;obtain ⟨v,e1,e2⟩:=sh.at hdi;refine ⟨v,?_,e2⟩;unfold L2.zeV;rw [List.getElem?_append_left (by rw [List.length_map];omega),List.getElem?_map,e1];rfl
   ·rw [List.getElem?_append_right (by rw [List.length_map];omega),List.getElem?_replicate] at hi
    split at hi<;>cases hi
  ·unfold zbR at q
   cases hf:fs (ds.map (fun d=>some (false,d))++List.replicate (N.length-ds.length) none) S0 with
   | bad=>rw [hf] at q;exact q
   | bk _ _=>rw [hf] at q;exact q.elim
   | ct _ _=>rw [hf] at q;exact q.elim
   | rt d S'=>rw [hf] at q;exact q
   | ex c ρ' S'=>rw [hf] at q;exact fun σ' w' R' F'=>q w' R'.wd F'
   | nx ρ' S' =>
    rw [hf] at q;dsimp only at q
    cases own with
    | true=>exact q.elim
    | false=>exact fun σ' w' R' F'=>q .non w' R'.wd F' .non
end S2
namespace S2
open PySem PySem.Spec PyProof.Rows L2
structure Tab where
 con:List (Str×D)
 blt:List Str
 exc:List Str
 und:List (Str×Str)
 rz:List Str
 fk:List (Str×Str)
 df:List Str
 ns:List Str
def ztt(rz exc:List Str)(c C:Str):Option Bool:=if rz.contains c then (if C = "ValueError" then some true else if exc.contains C then some (decide (C=c)||decide (C = "FloorError")) else none) else none
def zqJ(l:List (Str×Str))(c C:Str):Bool:=l.contains (c,C)
structure Fn3 where
 cur:Str
 fs:List (Str×FnI)
 ms:List (Str×Str×FnI)
 ks:List (Str×List D×FnI)
def Gn(T:Tab)(F:Fn3):Genv:=⟨fun x=>T.con.lookup x,fun x=>F.fs.lookup x,fun x=>T.blt.contains x,fun x=>T.exc.contains x,zqJ T.und,ztt T.rz T.exc,⟨F.cur,zqJ T.fk,fun f=>T.df.contains f,fun m=>F.ms.lookup m,fun c=>F.ks.lookup c⟩,fun x=>T.ns.contains x⟩
def Fn3.fn(F:Fn3)(x:Str)(fi:FnI):Fn3:=⟨F.cur,(x,fi)::F.fs,F.ms,F.ks⟩
def Fn3.mt(F:Fn3)(m c:Str)(fi:FnI):Fn3:=⟨F.cur,F.fs,(m,c,fi)::F.ms,F.ks⟩
def Fn3.cls(F:Fn3)(c:Str)(dds:List D)(fi:FnI):Fn3:=⟨F.cur,F.fs,F.ms,(c,dds,fi)::F.ks⟩
def Fn3.at(F:Fn3)(c:Str):Fn3:=⟨c,F.fs,F.ms,F.ks⟩
section
variable{cl:Cf}{T:Tab}{P:Program}{wo:PySem.World}{K:PySem.W.Frag}{mg:Z6}{base:Heap}{k:Nat}{fs:Fn3}
theorem zcn{α:Type}{x y:Str}{a:α}{l:List (Str×α)}{b:α}(h:((x,a)::l).lookup y=some b):(y=x/\b=a)\/l.lookup y=some b:=by
 rw [List.lookup_cons] at h
 cases e:y == x with
 | true=>rw [e] at h;cases h;exact .inl ⟨eq_of_beq e,rfl⟩
 | false=>rw [e] at h;exact .inr h
theorem zd8{α:Type}{p:α->Prop}:∀x∈([]:List α),p x:=fun _ h=>nomatch h
theorem zaj{α:Type}{p:α->Prop}{a:α}{l:List α}(h:p a)(t:∀x∈l,p x):∀x∈a::l,p x:=fun x hx=>(List.mem_cons.mp hx).elim (fun e=>e ▸ h) (t x)
theorem zhm{α:Type}{x:Str}{a:α}:∀{l:List (Str×α)},l.lookup x=some a->(x,a)∈l
 | [],h=>by cases h
 | (y,b)::l,h=>by
  rcases zcn h with ⟨rfl,rfl⟩ | h
  ·exact List.mem_cons_self
  ·exact List.mem_cons_of_mem _ (zhm h)
def ztd(K:PySem.W.Frag)(cl:Cf)(exc:List Str)(c:Str):Prop:=PySem.W.ExcCls K (cl c)/\PySem.W.kitOne K (.ref (cl c)) (.type "ValueError")=some true/\∀C∈exc,PySem.W.kitOne K (.ref (cl c)) (.ref (cl C))=some (decide (C=c)||decide (C = "FloorError"))
theorem zy6(hc:∀p∈T.con,∃v u,mg p.1=some u/\zbx v u/\∀w,Shd cl w v p.2)(hb:∀x∈T.blt,mg x=none)(he:∀c∈T.exc,mg c=some (.ref (cl c))/\PySem.W.excIn K (cl c) bmV "ValueError.__new__" = true)(hu:∀p∈T.und,L2.znN K (cl p.1) (cl p.2))(hx:∀c∈T.rz,ztd K cl T.exc c)(hfk:∀p∈T.fk,Cls cl.K (cl p.1)/\zdF cl.K (cl p.1) p.2):GOk cl (Gn T ⟨"",[],[],[]⟩) P wo K mg base 0 where
 fk:=fun c f h=>hfk (c,f) (by simpa using (show T.fk.contains (c,f)=true from h))
 mt:=fun m c fi h=>by cases h
 mks:=fun c dds fi h=>by cases h
 con:=fun x d h=>hc (x,d) (zhm h)
 fn:=fun x fi h=>by cases h
 blt:=fun x h=>hb x (by simpa using (show T.blt.contains x=true from h))
 exc:=fun c h=>he c (by simpa using (show T.exc.contains c=true from h))
 und:=fun c C h=>hu (c,C) (by simpa using (show T.und.contains (c,C)=true from h))
 isx:=fun c C b h=>by
  have h':ztt T.rz T.exc c C=some b:=h;unfold ztt at h';split at h'
  ·rename_i hc;obtain ⟨x1,x2,x3⟩:=hx c (by simpa using hc);refine ⟨x1,?_⟩;unfold zsU;split at h'
   ·rename_i hC;cases h';rw [if_pos hC];exact x2
   ·rename_i hC;rw [if_neg hC];split at h'
    ·rename_i hm;cases h';exact x3 C (by simpa using hm)
    ·cases h'
  ·cases h'
theorem GOk.add{x:Str}{fi:FnI}{f:Addr}{fd:FuncData}{ps:List Str}(g:GOk cl (Gn T fs) P wo K mg base k)(m:mg x=some (.ref f))(kp:PySem.W.keepIn K (.ref f)=true)(b:zch K fd ps [])(F:FnOk P wo K mg base (CXE P wo) (k+1) f fd ps (zg1 cl fi.ar fi.own fi.run)) :
  GOk cl (Gn T (fs.fn x fi)) P wo K mg base (k+1) where
 con:=g.con
 fn:=fun y fj h=>by
  rcases zcn h with ⟨rfl,rfl⟩ | h
  ·exact ⟨f,fd,ps,m,kp,b,F⟩
  ·obtain ⟨f',fd',ps',h1,h2,h3,h4⟩:=g.fn y fj h;exact ⟨f',fd',ps',h1,h2,h3,h4.mono (Nat.le_succ _)⟩
 blt:=g.blt
 exc:=g.exc
 und:=g.und
 isx:=g.isx
 fk:=g.fk
 mt:=fun m c fi h=>by
  obtain ⟨f',fd',ps',h1,h2,h3,h4⟩:=g.mt m c fi h;exact ⟨f',fd',ps',h1,h2,h3,h4.mono (Nat.le_succ _)⟩
 mks:=fun c dds fi h=>by
  obtain ⟨f',fd',ps',dvs,ds,k',hk,z⟩:=g.mks c dds fi h;exact ⟨f',fd',ps',dvs,ds,k',Nat.le_succ_of_le hk,z⟩
theorem GOk.at(g:GOk cl (Gn T fs) P wo K mg base k)(c:Str):GOk cl (Gn T (fs.at c)) P wo K mg base k:=⟨g.con,g.fn,g.blt,g.exc,g.und,g.isx,g.fk,g.mt,g.mks⟩
theorem GOk.up{k':Nat}(g:GOk cl (Gn T fs) P wo K mg base k)(hk:k<=k'):GOk cl (Gn T fs) P wo K mg base k' where
 con:=g.con
 fn:=fun y fj h=>by
  obtain ⟨f',fd',ps',h1,h2,h3,h4⟩:=g.fn y fj h;exact ⟨f',fd',ps',h1,h2,h3,h4.mono hk⟩
 blt:=g.blt
 exc:=g.exc
 und:=g.und
 isx:=g.isx
 fk:=g.fk
 mt:=fun m c fi h=>by
  obtain ⟨f',fd',ps',h1,h2,h3,h4⟩:=g.mt m c fi h;exact ⟨f',fd',ps',h1,h2,h3,h4.mono hk⟩
 mks:=fun c dds fi h=>by
  obtain ⟨f',fd',ps',dvs,ds,j,hj,z⟩:=g.mks c dds fi h;exact ⟨f',fd',ps',dvs,ds,j,Nat.le_trans hj hk,z⟩
theorem GOk.addM{m c:Str}{fi:FnI}{f:Addr}{fd:FuncData}{ps:List Str}(g:GOk cl (Gn T fs) P wo K mg base k)(cc:Cls K (cl c))(hm:Meth K (cl c) m f)(b:zch K fd ps [])(F:FnOk P wo K mg base (CXE P wo) k f fd ps (zg1 cl fi.ar fi.own fi.run)) :
  GOk cl (Gn T (fs.mt m c fi)) P wo K mg base k where
 con:=g.con
 fn:=g.fn
 blt:=g.blt
 exc:=g.exc
 und:=g.und
 isx:=g.isx
 fk:=g.fk
 mt:=fun m' c' fi' h=>by
  rcases zcn h with ⟨rfl,e⟩ | h
  ·cases e;exact ⟨f,fd,ps,cc,hm,b,F⟩
  ·exact g.mt m' c' fi' h
 mks:=g.mks
theorem GOk.addK{c:Str}{dds:List D}{fi:FnI}{f:Addr}{fd:FuncData}{ps:List Str}{dvs:List V}{ds:List Value}{k':Nat}(g:GOk cl (Gn T fs) P wo K mg base k)(hk:k'+1<=k)(hm:mg c=some (.ref (cl c)))(M:Mk K (cl c) f)(b0:zch K fd ps [])(bD:zch K fd ps ds)(vd:Vals dvs ds)(sd:∀w,Shds cl w dvs dds)(F:FnOk P wo K mg base (CXE P wo) k' f fd ps (zg1 cl fi.ar false fi.run)) :
  GOk cl (Gn T (fs.cls c dds fi)) P wo K mg base k where
 con:=g.con
 fn:=g.fn
 blt:=g.blt
 exc:=g.exc
 und:=g.und
 isx:=g.isx
 fk:=g.fk
 mt:=g.mt
 mks:=fun c' dds' fi' h=>by
  rcases zcn h with ⟨rfl,e⟩ | h
  ·cases e;exact ⟨f,fd,ps,dvs,ds,k',hk,hm,M,b0,bD,vd,sd,F⟩
  ·exact g.mks c' dds' fi' h
def zmE(nN:Nat)(own:Bool)(body:(List D->Sto->Out D)->Fs):Nat->List D->Sto->Out D
 | 0=>fun _ _=>.bad
 | n+1=>zbR nN own (body (zmE nN own body n))
theorem znZ{n:Nat}{own:Bool}{vs:List V}{H:Hp}{Q:VK}{E:XK}(h:zg1 cl n own (fun _ _=>.bad) vs H Q E):False:=by
 obtain ⟨_,B,w,ds,S,_,_,_,q⟩:=h;exact q
theorem GOk.addR{m c qual:Str}{st:Stmt}{f:Addr}{fd:FuncData}{N ps:List Str}{own:Bool}{body:(List D->Sto->Out D)->Fs}(g:GOk cl (Gn T fs) P wo K mg base k)(U:Fun K m qual st f fd)(S:FnScope N ps (zac st))(hK:K=cl.K)(hP:P=cl.P)(hW:wo=cl.wo)(cc:Cls K (cl c))(hm:Meth K (cl c) m f)(b:zch K fd ps [])
  (hd:∀r,zap (Gn T ((fs.mt m c ⟨ps.length,own,r⟩).at c)) own N st=some (body r)):∀n,GOk cl (Gn T (fs.mt m c ⟨ps.length,own,zmE N.length own body n⟩)) P wo K mg base (k+n)
 | 0=>g.addM cc hm b ⟨fun vs H Q E h=>(znZ h).elim,fun A outer s H args us vs Q E hr he hb hv h=>(znZ h).elim⟩
 | n+1=>(g.up (Nat.le_add_right k (n+1))).addM cc hm b (znr U S ((g.addR U S hK hP hW cc hm b hd n).at c) hK hP hW (hd _))
theorem zl2{C:Addr}{b:List Value}{i:String}(x:PySem.W.excIn K C b i=true):(PySem.W.clsIn K C).isSome=true/\PySem.W.typeIn K (.ref C)=some (.type "type"):=by
 unfold PySem.W.excIn at x;split at x
 ·rename_i d cd sl e;refine ⟨?_,?_⟩
  ·unfold PySem.W.clsIn;rw [e];rfl
  ·show (K.lookup C).map (·.cls)=_;rw [e];rfl
 ·cases x
theorem zgm{C:Addr}{el:Value}{ed:Option Addr}{ec:ClassData}{es:Array (Option Value)}{m:List Value}{v:Value}(lk:K.lookup C=some ⟨el,ed,.cls ec,es⟩)(mr:ec.mro=.ref C::m):PySem.W.subIn K (.ref C) v=some ((Value.ref C::m).contains v):=by
 show PySem.W.mroIn K C v=_;unfold PySem.W.mroIn PySem.W.clsIn;rw [lk];show (if ec.mro.isEmpty then none else some (ec.mro.contains v))=_;rw [mr];rfl
theorem zkJ{a b:Addr}(h:a≠b):(Value.ref a == Value.ref b)=false:=Bool.eq_false_iff.mpr fun z=>h (Value.ref.inj (beq_iff_eq.mp z))
theorem zpL{C F:Addr}{el:Value}{ed:Option Addr}{ec:ClassData}{es:Array (Option Value)}(lk:K.lookup C=some ⟨el,ed,.cls ec,es⟩)(mr:ec.mro=.ref C::.ref F::bmV):PySem.W.kitOne K (.ref C) (.type "ValueError")=some true:=by
 have h1:PySem.W.kitMeta "ValueError" = true:=by decide +kernel
 have h0:(Value.ref C == Value.type "ValueError")=false:=by with_unfolding_all rfl
 unfold PySem.W.kitOne PySem.W.kitCls;simp only [h0,h1,zgm lk mr];simp
theorem zpM{C D F:Addr}{el:Value}{ed:Option Addr}{ec:ClassData}{es:Array (Option Value)}{b:List Value}{i:String}(lk:K.lookup C=some ⟨el,ed,.cls ec,es⟩)(mr:ec.mro=.ref C::.ref F::bmV)(x:PySem.W.excIn K D b i=true):PySem.W.kitOne K (.ref C) (.ref D)=some (decide (D=C)||decide (D=F)):=by
 by_cases h:D=C
 ·subst h;unfold PySem.W.kitOne;rw [if_pos (beq_self_eq_true _)];simp
 ·obtain ⟨h1,h2⟩:=zl2 x;have h0:=zkJ (fun z=>h z.symm:C≠D);unfold PySem.W.kitOne PySem.W.kitCls;simp only [h0,h1,h2,zgm lk mr];have e1:(Value.ref D == Value.ref C)=false:=zkJ h;simp only [List.contains_cons,e1,Bool.false_or,Bool.false_eq_true,if_false,beq_self_eq_true,Bool.and_self,if_true,h,decide_false]
  by_cases h4:D=F
  ·subst h4;simp
  ·have e2:(Value.ref D == Value.ref F)=false:=zkJ h4;simp only [e2,Bool.false_or,h4,decide_false,Option.some.injEq]
   with_unfolding_all rfl
theorem zh5{c:ClassData}{C F:Addr}{m:List Value}(h:c.mro=.ref C::.ref F::m):c.mro.contains (.ref F)=true:=by
 rw [h,List.contains_cons,List.contains_cons,beq_self_eq_true,Bool.true_or,Bool.or_true]
theorem zox{L:List (Str×Addr)}:∀{C:Str},C∈L.map (·.1)->∃a,L.lookup C=some a/\(C,a)∈L:=by
 induction L with
 | nil=>intro C h;simp at h
 | cons p L ih =>
  intro C h;rw [List.lookup_cons]
  cases e:C == p.1 with
  | true=>exact ⟨p.2,rfl,by rw [eq_of_beq e];exact List.mem_cons_self⟩
  | false =>
   have:C∈L.map (·.1):=by
    rw [List.map_cons,List.mem_cons] at h
    rcases h with h | h
    ·rw [h] at e;simp at e
    ·exact h
   obtain ⟨a,h1,h2⟩:=ih this;exact ⟨a,h1,List.mem_cons_of_mem _ h2⟩
theorem zkx:∀{L:List (Str×Addr)},(L.map (·.2)).Nodup->∀{C c:Str} {a:Addr},(C,a)∈L->(c,a)∈L->C=c
 | [],_,_,_,_,h,_=>by simp at h
 | p::L,nd,C,c,a,h,h'=>by
  rw [List.map_cons,List.nodup_cons] at nd;rw [List.mem_cons] at h h'
  rcases h with h | h<;>rcases h' with h' | h'
  ·rw [<-h'] at h;exact (Prod.mk.inj h).1
  ·exact absurd (List.mem_map.mpr ⟨_,h',by rw [<-h]⟩) nd.1
  ·exact absurd (List.mem_map.mpr ⟨_,h,by rw [<-h']⟩) nd.1
  ·exact zkx nd.2 h h'
theorem zs9{L:List (Str×Addr)}(nd:(L.map (·.2)).Nodup){C c:Str}(hC:C∈L.map (·.1))(hc:c∈L.map (·.1)):(L.lookup C).getD 0=(L.lookup c).getD 0↔C=c:=by
 obtain ⟨a,h1,h2⟩:=zox hC;obtain ⟨b,h3,h4⟩:=zox hc;rw [h1,h3];constructor
 ·intro e;have:a=b:=e;subst this;exact zkx nd h2 h4
 ·rintro rfl;rw [h1] at h3;cases h3;rfl
theorem zlr{c:Str}{cl:Cf}{exc:List Str}{F:Addr}{el:Value}{ed:Option Addr}{ec:ClassData}{es:Array (Option Value)}
  (lk:K.lookup (cl c)=some ⟨el,ed,.cls ec,es⟩) (mr:ec.mro=.ref (cl c)::.ref F::bmV) (hF:cl "FloorError" = F)
  (ga:PySem.W.findIn K (.ref (cl c)) "__getattribute__" = some (some (.builtin "BaseException.__getattribute__"))) (gt:PySem.W.findIn K (.ref (cl c)) "__getattr__" = some none) (cc:PySem.W.findIn K (.ref (cl c)) "__class__" = some (some (.builtin "object.__class__")))
  (hx:∀C∈exc,PySem.W.excIn K (cl C) bmV "ValueError.__new__" = true) (hi:∀C∈exc,(cl C=cl c↔C=c)/\(cl C=cl "FloorError" ↔ C = "FloorError")):ztd K cl exc c:=by
 refine ⟨⟨ga,gt,cc,?_,?_,_,_,_,_,lk⟩,zpL lk mr,fun C hC=>?_⟩
 ·rw [zgm lk mr];simp
 ·rw [zgm lk mr];simp
 ·rw [zpM lk mr (hx C hC)];obtain ⟨i1,i2⟩:=hi C hC;rw [hF] at i2;simp only [i1,i2]
end
def zmr(K:PySem.W.Frag):Sp:=fun vs H Q _=>∃(a:Addr) (ns:List Int),vs=[.ref a]/\ns.length<=63/\ztE H/\SqL K H a (ns.map V.int)/\∀H',Q (.bl true) H'
theorem zso{cl:Cf}{run:List D->Sto->Out D}(hr:∀l:List Int,l.length<=63->∃S,run [.scr l] []=.ok (.bl true) S):∀vs H Q E,zmr cl.K vs H Q E->zg1 cl 1 false run vs H Q E:=by
 rintro vs H Q E ⟨a,ns,rfl,hl,hO,hS,q⟩;refine ⟨rfl,⟨fun _=>none,fun _=>none⟩,⟨H,fun _=>none,[]⟩,[.scr ns],[],rfl,⟨(fun a o h=>by cases h),(fun a r h=>by cases h),rfl,(fun n ob h=>by simp at h)⟩,.cons ?_ .nil,?_⟩
 ·rcases hS with (hS | ⟨o,hS⟩) | hS
  ·rcases hO a with z | ⟨o,xs,z⟩
   ·rw [hS] at z;cases z
   ·rw [hS] at z;cases z
  ·exact .scr hS rfl
  ·exact .scrK fun H=>.inr hS
 ·obtain ⟨S',e⟩:=hr ns hl;rw [e];intro v w' _ _ r;have r':Shd cl w' v (.bl true):=r;cases r';exact q _
end S2
namespace S2
open PySem PySem.Spec PyProof.Rows L2
section
variable{cl:Cf}{T:Tab}{P:Program}{wo:PySem.World}{K:PySem.W.Frag}{mg:Z6}{base:Heap}{k:Nat}{fs:Fn3}
end
end S2
namespace S2
open PySem PySem.Spec PyProof.Rows L2
structure FnT(K:PySem.W.Frag)(x q:Str)(st:Stmt)(f:Addr):Prop where
 ex:∃(oc:Value) (od:Option Addr) (kV dc pm:Value) (an:Option Addr) (cd ct:Value) (sl:Array (Option Value)),K.lookup f=some ⟨oc,od,.func (PySem.W.fnOf x q (zbB st) (zbr st) (zac st) .none kV dc pm an cd ct),sl⟩/\PySem.W.codeIn K cd q=true/\PySem.W.keepIn K (.ref f)=true/\PySem.W.isFn K (.ref f)=true
structure GFn(K:PySem.W.Frag)(x:Str)(st:Stmt):Prop where
 ex:∃f,PySem.W.nsIn K mainGlobals x=some (some (.ref f))/\FnT K x x st f
structure MFn(K:PySem.W.Frag)(C:Addr)(m q:Str)(st:Stmt):Prop where
 ex:∃f,PySem.W.findIn K (.ref C) m=some (some (.ref f))/\FnT K m q st f
def BB(x q:Str)(st:Stmt)(ps:List Str):Prop:=∀(kV doc pm:Value) (an:Option Addr) (cdv ct:Value) (us:List Value),us.length=ps.length->bindArgs (PySem.W.fnOf x q (zbB st) (zbr st) (zac st) .none kV doc pm an cdv ct) ⟨us,[]⟩=pure (ps.zip us)
theorem bb0{p:List Value->Prop}(h:p []):∀us:List Value,us.length=0->p us:=fun us e=>by rw [List.eq_nil_of_length_eq_zero e];exact h
theorem bbS{n:Nat}{p:List Value->Prop}(h:∀a:Value,∀us:List Value,us.length=n->p (a::us)):∀us:List Value,us.length=n+1->p us:=fun us e=>by
 cases us with
 | nil=>cases e
 | cons a us=>exact h a us (Nat.succ.inj e)
theorem bb1{p:List Value->Prop}(h:∀a0:Value,p [a0]):∀us:List Value,us.length=1->p us:=bbS fun a0=>bb0 (h a0)
theorem bb2{p:List Value->Prop}(h:∀a0 a1:Value,p [a0,a1]):∀us:List Value,us.length=2->p us:=bbS fun a0=>bbS fun a1=>bb0 (h a0 a1)
theorem bb3{p:List Value->Prop}(h:∀a0 a1 a2:Value,p [a0,a1,a2]):∀us:List Value,us.length=3->p us:=bbS fun a0=>bbS fun a1=>bbS fun a2=>bb0 (h a0 a1 a2)
theorem bb4{p:List Value->Prop}(h:∀a0 a1 a2 a3:Value,p [a0,a1,a2,a3]):∀us:List Value,us.length=4->p us:=bbS fun a0=>bbS fun a1=>bbS fun a2=>bbS fun a3=>bb0 (h a0 a1 a2 a3)
theorem bb6{p:List Value->Prop}(h:∀a0 a1 a2 a3 a4 a5:Value,p [a0,a1,a2,a3,a4,a5]):∀us:List Value,us.length=6->p us:=bbS fun a0=>bbS fun a1=>bbS fun a2=>bbS fun a3=>bbS fun a4=>bbS fun a5=>bb0 (h a0 a1 a2 a3 a4 a5)
section
variable{cl:Cf}{T:Tab}{P:Program}{wo:PySem.World}{K:PySem.W.Frag}{mg:Z6}{base:Heap}{k:Nat}{fs:Fn3}
theorem FnT.un{x q:Str}{st:Stmt}{f:Addr}{ps:List Str}(p:FnT K x q st f)(b:BB x q st ps):∃fd,Fun K x q st f fd/\zch K fd ps []/\PySem.W.keepIn K (.ref f)=true/\PySem.W.isFn K (.ref f)=true:=by
 obtain ⟨oc,od,kV,dc,pm,an,cd,ct,sl,l,c,kp,i⟩:=p.ex;have U:=zon (st:=st) l c kp;exact ⟨_,U,U.binds b,kp,i⟩
theorem GOk.addG{x:Str}{st:Stmt}{N ps:List Str}{own:Bool}{f_:Fs}{h:Heap}(g:GOk cl (Gn T fs) P wo K mg base k)(X:K.In h)(G:h.Ns mainGlobals mg)(p:GFn K x st)(S:FnScope N ps (zac st))(hK:K=cl.K)(hP:P=cl.P)(hW:wo=cl.wo)(b:BB x x st ps)(hd:zap (Gn T fs) own N st=some f_) :
  GOk cl (Gn T (fs.fn x ⟨ps.length,own,zbR N.length own f_⟩)) P wo K mg base (k+1):=by
 obtain ⟨f,a,p⟩:=p.ex;obtain ⟨fd,U,B,kp,_⟩:=p.un b;exact GOk.add g (PySem.W.mg_of X G a) kp B (znr U S g hK hP hW hd)
theorem GOk.addMG{m c q:Str}{st:Stmt}{N ps:List Str}{own:Bool}{f_:Fs}(g:GOk cl (Gn T fs) P wo K mg base k)(cc:Cls K (cl c))(p:MFn K (cl c) m q st)(S:FnScope N ps (zac st))(hK:K=cl.K)(hP:P=cl.P)(hW:wo=cl.wo)(b:BB m q st ps)(hd:zap (Gn T (fs.at c)) own N st=some f_) :
  GOk cl (Gn T (fs.mt m c ⟨ps.length,own,zbR N.length own f_⟩)) P wo K mg base (k+1):=by
 obtain ⟨f,a,p⟩:=p.ex;obtain ⟨fd,U,B,kp,i⟩:=p.un b;exact GOk.addM (g.up (Nat.le_succ _)) cc ⟨a,i,kp⟩ B (znr U S (g.at c) hK hP hW hd)
theorem GOk.addRG{m c q:Str}{st:Stmt}{N ps:List Str}{own:Bool}{body:(List D->Sto->Out D)->Fs}(g:GOk cl (Gn T fs) P wo K mg base k)(cc:Cls K (cl c))(p:MFn K (cl c) m q st)(S:FnScope N ps (zac st))(hK:K=cl.K)(hP:P=cl.P)(hW:wo=cl.wo)(b:BB m q st ps)
  (hd:∀r,zap (Gn T ((fs.mt m c ⟨ps.length,own,r⟩).at c)) own N st=some (body r)) (n:Nat):GOk cl (Gn T (fs.mt m c ⟨ps.length,own,zmE N.length own body n⟩)) P wo K mg base (k+n):=by
 obtain ⟨f,a,p⟩:=p.ex;obtain ⟨fd,U,B,kp,i⟩:=p.un b;exact GOk.addR g U S hK hP hW cc ⟨a,i,kp⟩ B hd n
end
end S2
namespace S2
open PySem
open L2 hiding D
noncomputable def zb1:Fs :=
  (zag (sFz [] (zbp (zfK (eUn (zeM "tuple") (zai 0)) (zcD leD leD (zai 1) (zaE zem [(zai 0)]) (zai 2)))))
  sNx)
noncomputable def zaZ:List S2.D->Sto->Out S2.D:=zbR 3 false zb1
noncomputable def zfv:Fs :=
  (zag (sFz [] (zaW 1 false (eIf (zaf gtD (zaE zem [(zai 0)]) (zah (.int 0))) (zaE zem [(zaf ixD (zai 0) (zah (.int 0)))]) (zah (.int 0)))))
  (zag (sFz [1] (zbp (zcv [(zaE zem [(zai 0)]),(zad 1)])))
  sNx))
noncomputable def zbO:List S2.D->Sto->Out S2.D:=zbR 2 false zfv
noncomputable def zb3:Fs :=
  (zag (sFz [3,4] (zg6 2 (zcv [(zad 3),(zad 4)]))) sNx)
noncomputable def zc1:Fs :=
  (zag (sFz [] (zeX (.one 4) (zc7 (zaf ixD (zai 1) (zah (.int 1)))) zb3)) sNx)
noncomputable def zdN:Fs :=
  (zag (sFz [0] (zaW 1 false (eFn zbO [(zad 0)])))
  (zag (sFz [] (zaW 2 true (zeu [])))
  (zag (sFz [] (zeX (.one 3) (zc7 (zaf ixD (zai 1) (zah (.int 0)))) zc1))
  (zag (sFz [] (zgo 2))
  sNx))))
noncomputable def zbF:List S2.D->Sto->Out S2.D:=zbR 5 true zdN
noncomputable def zdO:Fs :=
  (zag (sFz [] (zbp (zaf ixD (zaf ixD (zai 0) (zaf ixD (zai 1) (zah (.int 0)))) (zaf ixD (zai 1) (zah (.int 1))))))
  sNx)
noncomputable def zaY:List S2.D->Sto->Out S2.D:=zbR 2 false zdO
noncomputable def zca:Fs :=
  (zag (sFz [] (sIf (zaf ltD (zai 1) (zaE zem [(zai 0)])) (zag (sFz [] (zbp (zaf ixD (zai 0) (zai 1)))) sNx) sNx))
  (zag (sFz [] (sIf (zaf eqD (zai 0) (zeu [])) (zag (sFz [] (zbp (zah (.int 0)))) sNx) sNx))
  (zag (sFz [] (zbp (zaf zb5 (zaf zfO (zaf ixD (zai 0) (zaf zkc (zai 1) (zaE zem [(zai 0)]))) (zah (.int 31))) (zai 1))))
  sNx)))
noncomputable def zbG:List S2.D->Sto->Out S2.D:=zbR 2 false zca
noncomputable def zdQ:Fs :=
  (zag (sFz [0,1] (zaW 3 false (zaf zkc (zaf zfO (zaf zb5 (eFn zbG [(zad 0),(zad 1)]) (zaf zfO (zah (.int 6151)) (zaf zb5 (zai 1) (zah (.int 1))))) (zah (.int 40692))) (zah (.int 2147483399)))))
  (zag (sFz [] (zbp (zaf zkc (zaf zkc (zaf zb5 (zaf zfO (zai 3) (zai 3)) (zaf zsQ (zai 3) (zah (.int 31)))) (zah (.int 2147483629))) (zai 2))))
  sNx))
noncomputable def zaD:List S2.D->Sto->Out S2.D:=zbR 4 false zdQ
noncomputable def zbk:Fs :=
  (zag (sFz [1,3,5,0] (zaW 6 false (zaE zb6 [(zcZ 1 (.one 0) (zc7 (zah (.int 4))) zfI (eFn zaD [(zad 4),(zaf zb5 (zaf zb5 (zaf zb5 (zai 1) (zaf zfO (zah (.int 4)) (zai 3))) (zah (.int 2))) (zai 0)),(zad 2)]) [1,3,5,0])]))) (zag (sFz [0] (sIf (zaf eqD (eFn zaD [(zad 0),(zaf zb5 (zaf zb5 (zai 1) (zah (.int 60))) (zai 5)),(zah (.int 3))]) (zah (.int 0))) (zag (sFz [] (zaW 6 false (zcv [(zaf ixD (zai 6) (zah (.int 0))),(zaf ixD (zai 6) (zah (.int 1))),(zaf ixD (zai 6) (zah (.int 0))),(zaf ixD (zai 6) (zah (.int 1)))]))) sNx) sNx)) (zag (sFz [] (sIf (zaf zpE (zai 6) (zai 4)) (zag (sFz [6] (zg6 4 (zad 6))) sNx) sNx)) sNx)))
noncomputable def zdf:Fs :=
  (zag (sFz [0,1] (zaW 3 false (zaf zb5 (zah (.int 2)) (eFn zaD [(zad 0),(zad 1),(zah (.int 2))]))))
  (zag (sFz [] (zaW 4 true (zeu [])))
  (zag (sFz [0,2] (zeX (.one 5) (zc7 (zaf zb5 (zah (.int 1)) (eFn zaD [(zad 0),(zaf zb5 (zai 1) (zah (.int 1))),(zad 2)]))) zbk))
  (zag (sFz [] (zbp (zaE zb6 [(zai 4)])))
  sNx))))
noncomputable def zck:List S2.D->Sto->Out S2.D:=zbR 7 false zdf
noncomputable def zbl:Fs :=
  (zag (sFz [0] (zaW 10 false (eFn zaD [(zad 0),(zaf zb5 (zaf zb5 (zai 1) (zaf zfO (zah (.int 7)) (zai 7))) (zai 9)),(zaf zfO (zaE zem [(zai 2)]) (zai 5))]))) (zag (sFz [10] (zg6 8 (eIf (zaf ltD (zai 10) (zaE zem [(zai 2)])) (zad 10) (zah .non)))) sNx))
noncomputable def zcw:Fs :=
  (zag (sFz [] (zaW 8 true (zeu []))) (zag (sFz [4] (zeX (.one 9) (zc7 (zad 4)) zbl)) (zag (sFz [] (zg6 6 (zaE zb6 [(zai 8)]))) sNx)))
noncomputable def zdg:Fs :=
  (zag (sFz [] (zaW 6 true (zeu [])))
  (zag (sFz [3] (zeX (.one 7) (zc7 (zad 3)) zcw))
  (zag (sFz [] (zbp (zaE zb6 [(zai 6)])))
  sNx)))
noncomputable def zcl:List S2.D->Sto->Out S2.D:=zbR 11 false zdg
noncomputable def zdu:Fs :=
  (zag (sFz [] (zbp (zfK (eUn (zeM "int") (zai 0)) (eUn zeL (eUn (zeM "bool") (zai 0))))))
  sNx)
noncomputable def zaP:List S2.D->Sto->Out S2.D:=zbR 1 false zdu
noncomputable def zcq:Fs :=
  (zag (sFz [1] (zbp (zfK (eFn zaP [(zad 1)]) (zcD leD ltD (zah (.int 0)) (zai 1) (zaE zem [(zai 0)])))))
  sNx)
noncomputable def zbu:List S2.D->Sto->Out S2.D:=zbR 2 false zcq
noncomputable def zdP:Fs :=
  (zag (sFz [1] (sIf (eOr (eUn zeL (eFn zaZ [(zad 1),(zah (.int 2)),(zah (.int 2))])) (eOr (eUn zeL (eFn zaP [(zaf ixD (zai 1) (zah (.int 0)))])) (eUn zeL (eFn zaP [(zaf ixD (zai 1) (zah (.int 1)))])))) (zag (sFz [] (zbp (zah (.bl false)))) sNx) sNx))
  (zag (sFz [0] (zaW 2 false (eFn zbO [(zad 0)])))
  (zag (sFz [] (zbp (zfK (zcD leD ltD (zah (.int 0)) (zaf ixD (zai 1) (zah (.int 0))) (zaf ixD (zai 2) (zah (.int 0)))) (zcD leD ltD (zah (.int 0)) (zaf ixD (zai 1) (zah (.int 1))) (zaf ixD (zai 2) (zah (.int 1)))))))
  sNx)))
noncomputable def zb7:List S2.D->Sto->Out S2.D:=zbR 3 false zdP
noncomputable def zcx:Fs :=
  (zag (sFz [] (zqD 3 (zaE zhn [(zai 4)]))) sNx)
noncomputable def zbN:Fs :=
  (zag (sFz [10] (zaW 12 false (zaf inD (zai 7) (zcv [(zah .non),(zad 10)])))) (zag (sFz [] (sIf (zfK (zaf gtD (zaf zkc (zai 6) (zai 2)) (zah (.int 0))) (zaf neD (zaf ixD (zaf ixD (zai 0) (zaf ixD (zai 9) (eUn zkb (zah (.int 1))))) (zah (.int 1))) (zaf ixD (zai 11) (zah (.int 3))))) (zag (sFz [] (zaW 12 false (zah (.bl false)))) sNx) sNx)) (zag (sFz [] (sIf (zfK (zaf geD (zai 6) (zai 2)) (zaf neD (zaf ixD (zaf ixD (zai 0) (zaf ixD (zai 9) (zaf zqB (zai 6) (zai 2)))) (zah (.int 2))) (zaf ixD (zai 11) (zah (.int 0))))) (zag (sFz [] (zaW 12 false (zah (.bl false)))) sNx) sNx)) (zag (sFz [12] (sIf (zad 12) (zag (sFz [10] (zg6 8 (zaf zb5 (zai 9) (zcv [(zad 10)])))) sNx) sNx)) sNx))))
noncomputable def zbM:Fs :=
  (zag (sFz [0] (zeX (.tup [10,11]) (zgG (zad 0)) zbN)) sNx)
noncomputable def zbL:Fs :=
  (zag (sFz [] (zaW 8 true (zeu []))) (zag (sFz [5] (zeX (.one 9) (zaV (zad 5)) zbM)) (zag (sFz [8] (zaW 5 false (zad 8))) sNx)))
noncomputable def zdh:Fs :=
  (zag (sFz [] (zaW 2 false (zaE zem [(zaf ixD (zai 1) (zah (.int 0)))])))
  (zag (sFz [] (zaW 3 true (zeu [])))
  (zag (sFz [1] (zeX (.one 4) (zaV (zad 1)) zcx))
  (zag (sFz [] (zaW 5 true (zeu [(zcv [])])))
  (zag (sFz [3] (zeX (.tup [6,7]) (zgG (zad 3)) zbL))
  (zag (sFz [5] (zbp (zad 5)))
  sNx))))))
noncomputable def zbP:List S2.D->Sto->Out S2.D:=zbR 13 false zdh
noncomputable def zij:Fs :=
  (zag (sFz [] (zbp (eOr (zaf zhq (zai 0) (zah .non)) (zaf eqD (zai 0) (zai 1)))))
  sNx)
noncomputable def ze7:List S2.D->Sto->Out S2.D:=zbR 2 false zij
noncomputable def zcc:Fs :=
  (zag (sFz [1] (zgq "Ways" "tiles" (zad 0) (zad 1)))
  (zag (sFz [2,2] (zgq "Ways" "ground" (zad 0) (zcZ 1 (.one 0) (zaV (eFn zbF [(zad 2)])) zfI (eFn zaY [(zad 1),(zad 0)]) [2])))
  (zag (sFz [2] (zgq "Ways" "size" (zad 0) (eFn zbO [(zad 2)])))
  (zag (sFz [3] (zgq "Ways" "is_round" (zad 0) (zad 3)))
  (zag (sFz [] (zjE "Ways" "known" 0))
  sNx)))))
noncomputable def zaU:List S2.D->Sto->Out S2.D:=zbR 4 false zcc
noncomputable def zbK:Fs :=
  (zag (sFz [] (zbp (zaf zfO (zcv [(zah .non)]) (zaf zb5 (zaf ixD (zfJ "Ways" "size" (zad 0)) (zah (.int 1))) (zah (.int 2))))))
  sNx)
noncomputable def zaS:List S2.D->Sto->Out S2.D:=zbR 1 false zbK
noncomputable def zcb:Fs :=
  (zag (sFz [] (zbp (zaf eqD (zaf zkc (zaf zb5 (zai 1) (zah (.int 1))) (zaf ixD (zfJ "Ways" "size" (zad 0)) (zah (.int 1)))) (zah (.int 0)))))
  sNx)
noncomputable def zaT:List S2.D->Sto->Out S2.D:=zbR 2 false zcb
noncomputable def za3:Fs :=
  (zag (sFz [] (zbp (eIf (zaf eqD (zaf zkc (zai 1) (zaf ixD (zfJ "Ways" "size" (zad 0)) (zah (.int 1)))) (zah (.int 0))) (zaf ixD (zai 3) (zah (.int 3))) (zaf ixD (zai 2) (eUn zkb (zah (.int 1)))))))
  sNx)
noncomputable def zar:List S2.D->Sto->Out S2.D:=zbR 4 false za3
noncomputable def zbz:Fs :=
  (zag (sFz [1] (zaW 4 false (zbA "Ways" "ends_row" zaT (zad 0) [(zad 1)])))
  (zag (sFz [] (zaW 5 false (zaf geD (zaf zb5 (zai 1) (zaf ixD (zfJ "Ways" "size" (zad 0)) (zah (.int 1)))) (zaE zem [(zfJ "Ways" "ground" (zad 0))]))))
  (zag (sFz [4] (zaW 6 false (eIf (zad 4) (zah .non) (zaf ixD (zai 3) (zah (.int 1))))))
  (zag (sFz [5] (zaW 7 false (eIf (zad 5) (zah .non) (zaf ixD (zai 3) (zah (.int 2))))))
  (zag (sFz [4,1,2,3] (zaW 8 false (eIf (zfK (zfJ "Ways" "is_round" (zad 0)) (eUn zeL (zad 4))) (zbA "Ways" "colour_round" zar (zad 0) [(zad 1),(zad 2),(zad 3)]) (zah .non))))
  (zag (sFz [6,7,8] (zbp (zaf zb5 (zaf zb5 (zcv [(zad 6)]) (eSl (zai 2) (some (zah (.int 2))) (some (eUn zkb (zah (.int 1)))))) (zcv [(zad 7),(zad 8)]))))
  sNx))))))
noncomputable def za8:List S2.D->Sto->Out S2.D:=zbR 9 false zbz
noncomputable def za9:Fs :=
  (zag (sFz [] (zaW 2 false (zaf ixD (zfJ "Ways" "ground" (zad 0)) (zai 1))))
  (zag (sFz [] (sIf (zaf zhq (zai 2) (zah .non)) (zag (sFz [] (zbp (eUn lrD (zaE zem [(zfJ "Ways" "tiles" (zad 0))])))) sNx) sNx))
  (zag (sFz [2,2] (zbp (eIf (eFn zbu [(zfJ "Ways" "tiles" (zad 0)),(zad 2)]) (zeu [(zad 2)]) (zeu []))))
  sNx)))
noncomputable def zaL:List S2.D->Sto->Out S2.D:=zbR 3 false za9
noncomputable def zbg:Fs :=
  (zag (sFz [1] (sIf (eOr (eUn zeL (zfJ "Ways" "is_round" (zad 0))) (eUn zeL (zbA "Ways" "ends_row" zaT (zad 0) [(zad 1)]))) (zag (sFz [] (zbp (zah (.bl true)))) sNx) sNx))
  (zag (sFz [1,2,3] (zbp (zaf eqD (zaf ixD (zai 3) (zah (.int 1))) (zbA "Ways" "colour_round" zar (zad 0) [(zad 1),(zad 2),(zad 3)]))))
  sNx))
noncomputable def zaR:List S2.D->Sto->Out S2.D:=zbR 4 false zbg
noncomputable def zdR:Fs :=
  (zag (sFz [] (sIf (eOr (eUn zeL (eFn ze7 [(zaf ixD (zai 2) (zah (.int 0))),(zaf ixD (zai 3) (zah (.int 3)))])) (eUn zeL (eFn ze7 [(zaf ixD (zai 2) (zah (.int 1))),(zaf ixD (zai 3) (zah (.int 0)))]))) (zag (sFz [] (zbp (zah (.bl false)))) sNx) sNx))
  (zag (sFz [1,2,3] (zbp (zbA "Ways" "fits_round" zaR (zad 0) [(zad 1),(zad 2),(zad 3)])))
  sNx))
noncomputable def zcJ:List S2.D->Sto->Out S2.D:=zbR 4 false zdR
noncomputable def za6:Fs :=
  (zag (sFz [] (zaW 5 false (zaf ixD (zfJ "Ways" "tiles" (zad 0)) (zai 4)))) (zag (sFz [1,2,5] (sIf (zbA "Ways" "fits" zcJ (zad 0) [(zad 1),(zad 2),(zad 5)]) (zag (sFz [4,1,2,5] (zg6 3 (zcv [(zad 4),(zbA "Ways" "seam_behind" za8 (zad 0) [(zad 1),(zad 2),(zad 5)])]))) sNx) sNx)) sNx))
noncomputable def zcu:Fs :=
  (zag (sFz [] (zaW 3 true (zeu [])))
  (zag (sFz [1] (zeX (.one 4) (zaV (zbA "Ways" "numbers_for" zaL (zad 0) [(zad 1)])) za6))
  (zag (sFz [] (zgo 3))
  sNx)))
noncomputable def zbj:List S2.D->Sto->Out S2.D:=zbR 6 true zcu
noncomputable def zal(rec_:List S2.D->Sto->Out S2.D):Fs :=
  (zag (sFz [] (sIf (zaf eqD (zai 1) (zaE zem [(zfJ "Ways" "ground" (zad 0))])) (zag (sFz [] (zbp (zah (.int 1)))) sNx) sNx))
  (zag (sFz [1,2] (zaW 3 false (zcv [(zad 1),(zad 2)])))
  (zag (sFz [] (sIf (zop "Ways" "known" (zad 3) (zad 0)) (zag (sFz [1,2,0,1] (zjD "Ways" "known" (zad 0) 3 (zaE zq0 [(zcZ 1 (.one 0) (zaV (zbA "Ways" "choices" zbj (zad 0) [(zad 1),(zad 2)])) zfI (zbA "Ways" "count_from" rec_ (zad 1) [(zaf zb5 (zai 2) (zah (.int 1))),(zaf ixD (zai 0) (zah (.int 1)))]) [0,1])]))) sNx) sNx))
  (zag (sFz [] (zbp (zjX "Ways" "known" (zad 0) 3)))
  sNx))))
noncomputable def zat:List S2.D->Sto->Out S2.D:=zmE 4 false zal 40
noncomputable def zbo:Fs :=
  (zag (sFz [] (zbp (zbA "Ways" "count_from" zat (zad 0) [(zah (.int 0)),(zbA "Ways" "first_seam" zaS (zad 0) [])])))
  sNx)
noncomputable def zaB:List S2.D->Sto->Out S2.D:=zbR 1 false zbo
noncomputable def zcX:Fs :=
  (zag (sFz [0,1] (zbp (zbA "Ways" "count_all" zaB (eMk "Ways" [(.bl false)] zaU [(zad 0),(zad 1)]) [])))
  sNx)
noncomputable def zay:List S2.D->Sto->Out S2.D:=zbR 2 false zcX
noncomputable def zfw:Fs :=
  (zag (sFz [0,1] (zbp (zaE zb6 [(zcZ 1 (.one 0) (zc7 (zaf ixD (zai 1) (zah (.int 0)))) zfI (zaE zb6 [(eSl (zai 1) (some (zaf zfO (zai 0) (zaf ixD (zai 2) (zah (.int 1))))) (some (zaf zfO (zaf zb5 (zai 0) (zah (.int 1))) (zaf ixD (zai 2) (zah (.int 1))))))]) [0,1])])))
  sNx)
noncomputable def zdX:List S2.D->Sto->Out S2.D:=zbR 2 false zfw
noncomputable def za5:Fs :=
  (zag (sFz [] (zaW 7 false (zbA "Ways" "count_from" zat (zad 0) [(zaf zb5 (zai 5) (zah (.int 1))),(zaf ixD (zai 6) (zah (.int 1)))]))) (zag (sFz [] (sIf (zaf ltD (zai 3) (zai 7)) (zag (sFz [] (zg6 2 (zaf ixD (zai 6) (zah (.int 0))))) (zag (sFz [] (zaW 4 false (zaf ixD (zai 6) (zah (.int 1))))) (zag (sFz [] sBk) sNx))) sNx)) (zag (sFz [] (zo8 3 (· - ·) (zad 7))) sNx)))
noncomputable def zbs:Fs :=
  (zag (sFz [5,4] (zeX (.one 6) (zaV (zbA "Ways" "choices" zbj (zad 0) [(zad 5),(zad 4)])) za5)) sNx)
noncomputable def zbJ:Fs :=
  (zag (sFz [] (zaW 2 true (zeu [])))
  (zag (sFz [1] (zaW 3 false (zad 1)))
  (zag (sFz [] (zaW 4 false (zbA "Ways" "first_seam" zaS (zad 0) [])))
  (zag (sFz [] (zeX (.one 5) (zc7 (zaE zem [(zfJ "Ways" "ground" (zad 0))])) zbs))
  (zag (sFz [] (zgo 2))
  sNx)))))
noncomputable def zbf:List S2.D->Sto->Out S2.D:=zbR 8 true zbJ
noncomputable def zbe:Fs :=
  (zag (sFz [] (sIf (eUn zeL (zcD leD ltD (zah (.int 0)) (zai 1) (zbA "Ways" "count_all" zaB (zad 0) []))) (zag (sFz [] (sRz "NoFill" [(zah (.str "the floor has no fill with this number"))])) sNx) sNx))
  (zag (sFz [1] (zbp (eFn zdX [(zbA "Ways" "numbers_by" zbf (zad 0) [(zad 1)]),(zfJ "Ways" "size" (zad 0))])))
  sNx))
noncomputable def zaQ:List S2.D->Sto->Out S2.D:=zbR 2 false zbe
noncomputable def zea:Fs :=
  (zag (sFz [0,1] (zbp (eOr (zaf zhq (zai 1) (zah .non)) (eFn zbu [(zad 0),(zad 1)]))))
  sNx)
noncomputable def zc9:List S2.D->Sto->Out S2.D:=zbR 2 false zea
noncomputable def zbn:Fs :=
  (zag (sFz [0,1] (sIf (eUn zeL (eFn zb7 [(zad 0),(zad 1)])) (zag (sFz [] (sRz "NoPlace" [(zah (.str "there is no such place"))])) sNx) sNx))
  sNx)
noncomputable def zaJ:List S2.D->Sto->Out S2.D:=zbR 2 false zbn
noncomputable def zcT:Fs :=
  (zag (sFz [] (zaW 3 false (zaf ixD (zai 0) (zaf ixD (zai 1) (zah (.int 0))))))
  (zag (sFz [2] (zaW 4 false (zaf zb5 (zaf zb5 (eSl (zai 3) none (some (zaf ixD (zai 1) (zah (.int 1))))) (zcv [(zad 2)])) (eSl (zai 3) (some (zaf zb5 (zaf ixD (zai 1) (zah (.int 1))) (zah (.int 1)))) none))))
  (zag (sFz [4] (zbp (zaf zb5 (zaf zb5 (eSl (zai 0) none (some (zaf ixD (zai 1) (zah (.int 0))))) (zcv [(zad 4)])) (eSl (zai 0) (some (zaf zb5 (zaf ixD (zai 1) (zah (.int 0))) (zah (.int 1)))) none))))
  sNx)))
noncomputable def zbX:List S2.D->Sto->Out S2.D:=zbR 5 false zcT
noncomputable def zdM:Fs :=
  (zag (sFz [1,2] (zo7 (eFn zaJ [(zad 1),(zad 2)])))
  (zag (sFz [0,3] (sIf (eUn zeL (eFn zc9 [(zad 0),(zad 3)])) (zag (sFz [] (sRz "NoTile" [(zah (.str "the set has no such number"))])) sNx) sNx))
  (zag (sFz [1,2,3] (zbp (eFn zbX [(zad 1),(zad 2),(zad 3)])))
  sNx)))
noncomputable def zbE:List S2.D->Sto->Out S2.D:=zbR 4 false zdM
noncomputable def zd9:Fs :=
  (zag (sFz [0,1] (zo7 (eFn zaJ [(zad 0),(zad 1)])))
  (zag (sFz [0,1] (zbp (eFn zaY [(zad 0),(zad 1)])))
  sNx))
noncomputable def zcy:List S2.D->Sto->Out S2.D:=zbR 2 false zd9
noncomputable def zje:Fs :=
  (zag (sFz [2] (sIf (eUn zeL (eFn zaP [(zad 2)])) (zag (sFz [] (sRz "NoFill" [(zah (.str "this is no number of a fill"))])) sNx) sNx))
  (zag (sFz [0,1,2] (zbp (zbA "Ways" "whole_by" zaQ (eMk "Ways" [(.bl false)] zaU [(zad 0),(zad 1)]) [(zad 2)])))
  sNx))
noncomputable def zfZ:List S2.D->Sto->Out S2.D:=zbR 3 false zje
noncomputable def zbC:Fs :=
  (zag (sFz [] (zaW 6 false (eOr (zaf zhq (zai 3) (zah .non)) (zaf eqD (zai 3) (zai 5))))) (zag (sFz [6,0,0,1,2,5] (zg6 4 (eIf (zad 6) (eFn zay [(zad 0),(eFn zbE [(zad 0),(zad 1),(zad 2),(zad 5)])]) (zah (.int 0))))) sNx))
noncomputable def zcW:Fs :=
  (zag (sFz [1,2] (zaW 3 false (eFn zcy [(zad 1),(zad 2)])))
  (zag (sFz [] (zaW 4 true (zeu [])))
  (zag (sFz [] (zeX (.one 5) (zc7 (zaE zem [(zai 0)])) zbC))
  (zag (sFz [] (zgo 4))
  sNx))))
noncomputable def za0:List S2.D->Sto->Out S2.D:=zbR 7 true zcW
noncomputable def zcV:Fs :=
  (zag (sFz [0,1,2] (zbp (zcZ 2 (.tup [0,1]) (zgG (eFn za0 [(zad 0),(zad 1),(zad 2)])) (zaf gtD (zai 1) (zah (.int 0))) (zad 0) [])))
  sNx)
noncomputable def zbc:List S2.D->Sto->Out S2.D:=zbR 3 true zcV
noncomputable def zcY:Fs :=
  (zag (sFz [0,0] (zbp (zcZ 1 (.one 0) (zaV (eFn zbF [(zad 0)])) (zaf zhq (eFn zaY [(zad 1),(zad 0)]) (zah .non)) (zad 0) [0])))
  sNx)
noncomputable def zbZ:List S2.D->Sto->Out S2.D:=zbR 1 true zcY
noncomputable def zdw:Fs :=
  (zag (sFz [3,5] (zaW 6 false (eFn zaY [(zad 3),(zad 5)]))) (zag (sFz [0,0,1,5,6] (sIf (zaf eqD (eFn zay [(zad 0),(eFn zbE [(zad 0),(zad 1),(zad 5),(zad 6)])]) (zai 2)) (zag (sFz [5,6] (zg6 4 (zcv [(zad 5),(zad 6)]))) sNx) sNx)) sNx))
noncomputable def zeR:Fs :=
  (zag (sFz [0,1] (zaW 2 false (eFn zay [(zad 0),(zad 1)])))
  (zag (sFz [] (sIf (zaf eqD (zai 2) (zah (.int 0))) (zag (sFz [] (zbp (zeu []))) sNx) sNx))
  (zag (sFz [0,1] (zaW 3 false (eFn zfZ [(zad 0),(zad 1),(zah (.int 0))])))
  (zag (sFz [] (zaW 4 true (zeu [])))
  (zag (sFz [1] (zeX (.one 5) (zaV (eFn zbZ [(zad 1)])) zdw))
  (zag (sFz [] (zgo 4))
  sNx))))))
noncomputable def zdq:List S2.D->Sto->Out S2.D:=zbR 7 true zeR
noncomputable def zcd:Fs :=
  (zag (sFz [0,2,3,4] (zaW 2 false (eFn zbE [(zad 0),(zad 2),(zad 3),(zad 4)]))) sNx)
noncomputable def zcU:Fs :=
  (zag (sFz [1] (zaW 2 false (zad 1)))
  (zag (sFz [0,1] (zeX (.tup [3,4]) (zaV (eFn zdq [(zad 0),(zad 1)])) zcd))
  (zag (sFz [2] (zbp (zad 2)))
  sNx)))
noncomputable def zbY:List S2.D->Sto->Out S2.D:=zbR 5 false zcU
end S2
namespace S2
open PySem
open L2 hiding D
def Fo.seq(b:Fs):Fo->Fo | .nx ρ' S'=>b ρ' S' | o=>o
def zts(a b:Fs)(ρ:Env):Out D->Fo | .ok d S'=>(match isB d with | some true=>a ρ S' | some false=>b ρ S' | none=>.bad) | .exc x S'=>.ex x ρ S' | .bad=>.bad
def zu1(i:Nat)(o:Bool)(ρ:Env):Out D->Fo | .ok d S'=>.nx (ρ.set i (some (o,d))) S' | .exc c S'=>.ex c ρ S' | .bad=>.bad
def zuZ(ρ:Env):Out D->Fo | .ok _ S'=>.nx ρ S' | .exc c S'=>.ex c ρ S' | .bad=>.bad
def zuX(ρ:Env):Out D->Fo | .ok d S'=>.rt d S' | .exc c S'=>.ex c ρ S' | .bad=>.bad
def zsx(S:Sto):Option (Option (Bool×D))->Fo | some (some (true,.lst l))=>.rt (.lst l) S | _=>.bad
def zng(i:Nat)(ρ:Env)(l:List D):Out D->Fo
 | .ok d S'=>if small l.length then .nx (ρ.set i (some (true,.lst (l++[d])))) S' else .bad
 | .exc c S'=>.ex c ρ S' | .bad=>.bad
def zxp(i:Nat)(f:Fe)(ρ:Env)(S:Sto):Option (Option (Bool×D))->Fo | some (some (true,.lst l))=>zng i ρ l (f ρ S) | _=>.bad
def zpS(i:Nat)(ρ:Env)(l:List D):Out D->Fo
 | .ok (.lst k) S'=>if small (l.length+k.length) then .nx (ρ.set i (some (true,.lst (l++k)))) S' else .bad
 | .ok _ _=>.bad
 | .exc c S'=>.ex c ρ S' | .bad=>.bad
def zxm(i:Nat)(f:Fe)(ρ:Env)(S:Sto):Option (Option (Bool×D))->Fo | some (some (true,.lst l))=>zpS i ρ l (f ρ S) | _=>.bad
def zuY(S:Sto):Option Env->Fo | some ρ'=>.nx ρ' S | none=>.bad
def zpV(t:Tg)(ρ:Env):Out D->Fo | .ok d S'=>zuY S' (t.put ρ d) | .exc c S'=>.ex c ρ S' | .bad=>.bad
def zxk(t:Tg)(a:Fs)(ρ:Env):Out (List D)->Fo | .ok ds S'=>zfr t a ds ρ S' | .exc c S'=>.ex c ρ S' | .bad=>.bad
def zxe(S:Sto):Option (Option (Bool×D))->Out D | some (some (false,d))=>.ok d S | _=>.bad
def zxo(S:Sto):Option (Option (Bool×D))->Out D | some (some (_,d))=>.ok d S | _=>.bad
def kUn(u:D->Option D):Out D->Out D | .ok a S=>Out.of (u a) S | .exc c S=>.exc c S | .bad=>.bad
def zlo(u:D->D->Option D)(a:D):Out D->Out D | .ok b S=>Out.of (u a b) S | .exc c S=>.exc c S | .bad=>.bad
def zu0(u:D->D->Option D)(g:Fe)(ρ:Env):Out D->Out D | .ok a S=>zlo u a (g ρ S) | .exc c S=>.exc c S | .bad=>.bad
def kIf(f g:Fe)(ρ:Env):Out D->Out D | .ok d S1=>(match isB d with | some true=>f ρ S1 | some false=>g ρ S1 | none=>.bad) | .exc c S=>.exc c S | .bad=>.bad
def zu2(g:Fe)(ρ:Env):Out D->Out D | .ok d S1=>(match isB d with | some true=>g ρ S1 | some false=>.ok (.bl false) S1 | none=>.bad) | .exc c S=>.exc c S | .bad=>.bad
def kOr(g:Fe)(ρ:Env):Out D->Out D | .ok d S1=>(match isB d with | some true=>.ok (.bl true) S1 | some false=>g ρ S1 | none=>.bad) | .exc c S=>.exc c S | .bad=>.bad
def zhp(d:D):Out (List D)->Out (List D) | .ok ds S=>.ok (d::ds) S | .exc c S=>.exc c S | .bad=>.bad
def zpT(fs:List Fe)(ρ:Env):Out D->Out (List D) | .ok d S=>zhp d (zan fs ρ S) | .exc c S=>.exc c S | .bad=>.bad
def zxf:Out (List D)->Out D | .ok ds S=>if small ds.length then .ok (.tup ds) S else .bad | .exc c S=>.exc c S | .bad=>.bad
def zxh:Out (List D)->Out D | .ok ds S=>if small ds.length then .ok (.lst ds) S else .bad | .exc c S=>.exc c S | .bad=>.bad
def zpU(u:List D->Option D):Out (List D)->Out D | .ok ds S=>Out.of (u ds) S | .exc c S=>.exc c S | .bad=>.bad
def kFn(r:List D->Sto->Out D):Out (List D)->Out D | .ok ds S=>r ds S | .exc c S=>.exc c S | .bad=>.bad
def zfl(v:D->D->Option D)(b:D):Out D->Out D | .ok c S=>Out.of (v b c) S | .exc c S=>.exc c S | .bad=>.bad
def zfk(v:D->D->Option D)(h:Fe)(ρ:Env)(b:D)(S:Sto):Option D->Out D | some d=>(match isB d with | some true=>zfl v b (h ρ S) | some false=>.ok (.bl false) S | none=>.bad) | none=>.bad
def zgB(u v:D->D->Option D)(h:Fe)(ρ:Env)(a:D):Out D->Out D | .ok b S=>zfk v h ρ b S (u a b) | .exc c S=>.exc c S | .bad=>.bad
def zoj(u v:D->D->Option D)(g h:Fe)(ρ:Env):Out D->Out D | .ok a S=>zgB u v h ρ a (g ρ S) | .exc c S=>.exc c S | .bad=>.bad
def zxi:Out D->Out (Option Int) | .ok (.int i) S=>.ok (some i) S | .ok _ _=>.bad | .exc c S=>.exc c S | .bad=>.bad
def ztn(d:D)(l:Option Int):Out (Option Int)->Out D | .ok u S=>Out.of (slD d l u) S | .exc c S=>.exc c S | .bad=>.bad
def zto(d:D)(u:Option Fe)(ρ:Env):Out (Option Int)->Out D | .ok l S=>ztn d l (zc6 u ρ S) | .exc c S=>.exc c S | .bad=>.bad
def kSl(l u:Option Fe)(ρ:Env):Out D->Out D | .ok d S=>zto d u ρ (zc6 l ρ S) | .exc c S=>.exc c S | .bad=>.bad
def zll:Out D->Out (List D) | .ok (.lst l) S=>.ok l S | .ok (.tup l) S=>.ok l S | .ok _ _=>.bad | .exc c S=>.exc c S | .bad=>.bad
def zne:Out (List D)->Out (List D) | .ok [.lst l] S=>.ok (zbw l) S | .ok [.tup l] S=>.ok (zbw l) S | .ok _ _=>.bad | .exc c S=>.exc c S | .bad=>.bad
def zsw:Out (List D)->Out (List D) | .ok ds S1=>(match ds with | [.int j]=>if -1000000<=j/\j<=1000000 then .ok (zas 0 j) S1 else .bad | _=>.bad) | .exc c S=>.exc c S | .bad=>.bad
def zsv:Out (List D)->Out (List D) | .ok ds S1=>(match ds with | [.int i,.int j]=>if (-1000000<=i/\i<=1000000)/\-1000000<=j/\j<=1000000 then .ok (zas i j) S1 else .bad | _=>.bad) | .exc c S=>.exc c S | .bad=>.bad
def zsu:Out (List D)->Out (List D) | .ok ds S1=>(match ds with | [.int i,.int j,.int c]=>if i=0/\0<=j/\j<=1000/\1<=c/\c<=1000 then .ok (ze6 j c) S1 else .bad | _=>.bad) | .exc c S=>.exc c S | .bad=>.bad
def zln:Out (List D)->Out D | .ok ys S2=>if small ys.length then .ok (.lst ys) S2 else .bad | _=>.bad
def znf(tg:Tg)(c elt:Fe)(ρ0:Env):Out (List D)->Out D | .ok ds S1=>zln (zbh tg c elt ρ0 ds S1) | .exc c S=>.exc c S | .bad=>.bad
def zxn:Option (Option (Bool×D))->Option (Bool×D) | some (some (false,d))=>some (false,d) | _=>none
def zsz(ρ:Env)(i:Nat):Option (Option (Bool×D))->Env | some (some (true,d))=>ρ.set i (some (false,unW d)) | _=>ρ
def ztp(own:Bool):Fo->Out D | .rt d S'=>.ok d S' | .nx _ S'=>if own then .bad else .ok .non S' | .ex c _ S'=>.exc c S' | _=>.bad
def kRz(c:Str)(ρ:Env):Out (List D)->Fo | .ok ds S'=>if small ds.length then .ex c ρ S' else .bad | .exc x S'=>.ex x ρ S' | .bad=>.bad
def ztq(u:List D->D->Option D)(l:List D):Out D->Out D | .ok d S=>Out.of (u l d) S | .exc c S=>.exc c S | .bad=>.bad
def kMt(u:List D->D->Option D)(f:Fe)(ρ:Env)(S:Sto):Option (Option (Bool×D))->Out D | some (some (_,.lst l))=>ztq u l (f ρ S) | _=>.bad
section
variable{ρ:Env}{S:Sto}{f g h k c:Fe}{a b:Fs}
@[simp] theorem zx0{u:List D->D->Option D}{i:Nat}:eMt u i f ρ S=kMt u f ρ S ρ[i]?:=by
 show (match ρ[i]? with | some (some (_,.lst l))=>(f ρ S).bind fun d S1=>Out.of (u l d) S1 | _=>.bad)=_
 cases ρ[i]? with
 | none=>rfl
 | some o=>cases o with
  | none=>rfl
  | some p =>
   obtain ⟨b,d⟩:=p
   cases d with
   | lst l=>show ((f ρ S).bind fun d S1=>Out.of (u l d) S1)=ztq u l (f ρ S);cases f ρ S<;>rfl
   | _=>rfl
@[simp] theorem zzq{u:List D->D->Option D}{o:Bool}{l:List D}:kMt u f ρ S (some (some (o,.lst l)))=ztq u l (f ρ S):=(rfl)
@[simp] theorem zyF{u:List D->D->Option D}{l:List D}{d:D}:ztq u l (.ok d S)=Out.of (u l d) S:=(rfl)
@[simp] theorem zvB:zag a b ρ S=(a ρ S).seq b:=by
 show (match a ρ S with | .nx ρ' S'=>b ρ' S' | o=>o)=_
 cases a ρ S<;>rfl
@[simp] theorem zwE:(Fo.nx ρ S).seq b=b ρ S:=(rfl)
@[simp] theorem zwD{d:D}:(Fo.rt d S).seq b=.rt d S:=(rfl)
@[simp] theorem zwC:(Fo.bk ρ S).seq b=.bk ρ S:=(rfl)
@[simp] theorem zwB:(Fo.ct ρ S).seq b=.ct ρ S:=(rfl)
@[simp] theorem zwA{x:Str}:(Fo.ex x ρ S).seq b=.ex x ρ S:=(rfl)
@[simp] theorem zwz:Fo.bad.seq b=.bad:=(rfl)
def zsA(i:Nat)(ρ:Env):Out D->Fo | .ok (.lst l) S'=>.nx (ρ.set i (some (true,zgQ l))) S' | .ok _ _=>.bad | .exc c S'=>.ex c ρ S' | .bad=>.bad
@[simp] theorem ztL{i:Nat}{f:Fe}:zhU i f ρ S=zsA i ρ (f ρ S):=by
 unfold zhU
 cases f ρ S with
 | ok d S'=>cases d<;>rfl
 | exc c S'=>rfl
 | bad=>rfl
@[simp] theorem zw7{i:Nat}{l:List D}:zsA i ρ (.ok (.lst l) S)=.nx (ρ.set i (some (true,zgQ l))) S:=(rfl)
def zi1:Out (List D)->Out D | .ok ys S2=>if small ys.length&&ys.all zpY then .ok (.lst ys) S2 else .bad | _=>.bad
def zlm(n:Nat)(tg:Tg)(c elt:Fe)(caps:List Nat)(ρ:Env):Out (List D)->Out D | .ok ds S1=>zi1 (zbh tg c elt (zaF n caps ρ) ds S1) | .exc c S=>.exc c S | .bad=>.bad
@[simp] theorem zth{n:Nat}{tg:Tg}{it:Fi}{c elt:Fe}{caps:List Nat}:zfB n tg it c elt caps ρ S=zlm n tg c elt caps ρ (it ρ S):=by
 unfold zfB
 cases it ρ S with
 | ok ds S1 =>
  show (match zbh tg c elt (zaF n caps ρ) ds S1 with | .ok ys S2=>_ | _=>_)=zi1 (zbh tg c elt (zaF n caps ρ) ds S1)
  cases zbh tg c elt (zaF n caps ρ) ds S1<;>rfl
 | exc c S=>rfl
 | bad=>rfl
@[simp] theorem ztm{n:Nat}{tg:Tg}{c elt:Fe}{caps:List Nat}{ds:List D}:zlm n tg c elt caps ρ (.ok ds S)=zi1 (zbh tg c elt (zaF n caps ρ) ds S):=(rfl)
theorem zpP{ys:List D}(h1:ys.length<=100000)(h2:ys.all zpY=true):zi1 (.ok ys S)=.ok (.lst ys) S:=by
 show (if small ys.length&&ys.all zpY then _ else _)=_;rw [h2,show small ys.length=true from decide_eq_true h1];rfl
def zoi(i:Nat)(ρ:Env)(d:D)(S:Sto)(l y:List D)(c1 c2:Int):Fo:=match pkI y c1,pkI y c2 with
   | some n,some m=>(match ixN l.length n with
    | some k=>(match l[k]? with
     | some (.lst row)=>(match ixN row.length m with
      | some k2=>.nx (ρ.set i (some (true,zgQ (l.set k (.lst (row.set k2 d)))))) S
      | none=>.bad)
     | _=>.bad)
    | none=>.bad)
   | _,_=>.bad
theorem zoB{i j:Nat}{c1 c2:Int}{f:Fe}{d:D}{S1:Sto}{l y:List D}(e:f ρ S=.ok d S1)(hi:ρ[i]?=some (some (true,zgQ l)))(hj:ρ[j]?=some (some (false,.tup y))):zhS i j c1 c2 f ρ S=zoi i ρ d S1 l y c1 c2:=by
 unfold zhS;rw [e];dsimp only;rw [hi,hj];rfl
@[simp] theorem zxH{is:List Nat}:sFz is a ρ S=a (frz is ρ) S:=(rfl)
@[simp] theorem zv4:frz [] ρ=ρ:=(rfl)
@[simp] theorem zv3{i:Nat}{is:List Nat}:frz (i::is) ρ=frz is (frz1 ρ i):=(rfl)
@[simp] theorem zxV(i:Nat):frz1 ρ i=zsz ρ i ρ[i]?:=(rfl)
@[simp] theorem zwW{i:Nat}{l:List D}:zsz ρ i (some (some (true,.lst l)))=ρ.set i (some (false,.lst l)):=(rfl)
@[simp] theorem zuO{i:Nat}{l:List D}:zsz ρ i (some (some (true,zgQ l)))=ρ.set i (some (false,.lst l)):=(rfl)
@[simp] theorem zwV{i:Nat}{d:D}:zsz ρ i (some (some (false,d)))=ρ:=(rfl)
@[simp] theorem zwU{i:Nat}:zsz ρ i (some none)=ρ:=(rfl)
@[simp] theorem zxF:sNx ρ S=.nx ρ S:=(rfl)
@[simp] theorem zxI:sBk ρ S=.bk ρ S:=(rfl)
@[simp] theorem zvG{i:Nat}{o:Bool}:zaW i o f ρ S=zu1 i o ρ (f ρ S):=(rfl)
@[simp] theorem zw9{i:Nat}{o:Bool}{d:D}:zu1 i o ρ (.ok d S)=.nx (ρ.set i (some (o,d))) S:=(rfl)
@[simp] theorem zw8{i:Nat}{o:Bool}{x:Str}:zu1 i o ρ (.exc x S)=.ex x ρ S:=(rfl)
@[simp] theorem zvF:zo7 f ρ S=zuZ ρ (f ρ S):=(rfl)
@[simp] theorem zw0{d:D}:zuZ ρ (.ok d S)=.nx ρ S:=(rfl)
@[simp] theorem zwZ{x:Str}:zuZ ρ (.exc x S)=.ex x ρ S:=(rfl)
@[simp] theorem zvC:zbp f ρ S=zuX ρ (f ρ S):=(rfl)
@[simp] theorem zwN{d:D}:zuX ρ (.ok d S)=.rt d S:=(rfl)
@[simp] theorem zwM{x:Str}:zuX ρ (.exc x S)=.ex x ρ S:=(rfl)
@[simp] theorem ztH:zmx ρ S=.rt .non S:=(rfl)
@[simp] theorem ztG{i:Nat}:zgo i ρ S=zsx S ρ[i]?:=(rfl)
@[simp] theorem zwL{l:List D}:zsx S (some (some (true,.lst l)))=.rt (.lst l) S:=(rfl)
@[simp] theorem zxG:sIf c a b ρ S=zts a b ρ (c ρ S):=(rfl)
@[simp] theorem zwT:zts a b ρ (.ok (.bl true) S)=a ρ S:=(rfl)
@[simp] theorem zwS:zts a b ρ (.ok (.bl false) S)=b ρ S:=(rfl)
@[simp] theorem zwR{x:Str}:zts a b ρ (.exc x S)=.ex x ρ S:=(rfl)
@[simp] theorem zvH{i:Nat}:zg6 i f ρ S=zxp i f ρ S ρ[i]?:=(rfl)
@[simp] theorem zy2{i:Nat}{l:List D}:zxp i f ρ S (some (some (true,.lst l)))=zng i ρ l (f ρ S):=(rfl)
@[simp] theorem zxb{i:Nat}{l:List D}{d:D}:zng i ρ l (.ok d S)=if small l.length then .nx (ρ.set i (some (true,.lst (l++[d])))) S else .bad:=(rfl)
@[simp] theorem zxa{i:Nat}{l:List D}{x:Str}:zng i ρ l (.exc x S)=.ex x ρ S:=(rfl)
@[simp] theorem zvE{i:Nat}:zqD i f ρ S=zxm i f ρ S ρ[i]?:=(rfl)
@[simp] theorem zyS{i:Nat}{l:List D}:zxm i f ρ S (some (some (true,.lst l)))=zpS i ρ l (f ρ S):=(rfl)
@[simp] theorem zwY{i:Nat}{l k:List D}:zpS i ρ l (.ok (.lst k) S)=if small (l.length+k.length) then .nx (ρ.set i (some (true,.lst (l++k)))) S else .bad:=(rfl)
@[simp] theorem ztK{t:Tg}:zhT t f ρ S=zpV t ρ (f ρ S):=by
 unfold zhT zpV
 cases f ρ S with
 | ok d S'=>dsimp only;cases t.put ρ d<;>rfl
 | exc c S'=>rfl
 | bad=>rfl
@[simp] theorem zw6{t:Tg}{d:D}:zpV t ρ (.ok d S)=zuY S (t.put ρ d):=(rfl)
@[simp] theorem zyB{ρ':Env}:zuY S (some ρ')=.nx ρ' S:=(rfl)
@[simp] theorem zvD{t:Tg}{it:Fi}:zeX t it a ρ S=zxk t a ρ (it ρ S):=(rfl)
@[simp] theorem zyO{t:Tg}{ds:List D}:zxk t a ρ (.ok ds S)=zfr t a ds ρ S:=(rfl)
@[simp] theorem zxE{x:Str}{fs:List Fe}:sRz x fs ρ S=kRz x ρ (zan fs ρ S):=(rfl)
@[simp] theorem zzp{x:Str}{ds:List D}:kRz x ρ (.ok ds S)=if small ds.length then .ex x ρ S else .bad:=(rfl)
@[simp] theorem zvO{i:Nat}{d:D}:(Tg.one i).put ρ d=some (ρ.set i (some (false,d))):=(rfl)
@[simp] theorem zvL{is:List Nat}{ds:List D}:(Tg.tup is).put ρ (.tup ds)=zeC is ds ρ:=(rfl)
@[simp] theorem zvN{i:Nat}{is:List Nat}{d:D}{ds:List D}:zeC (i::is) (d::ds) ρ=zeC is ds (ρ.set i (some (false,d))):=(rfl)
@[simp] theorem zvM:zeC [] [] ρ=some ρ:=(rfl)
@[simp] theorem zv6{i:Nat}:zad i ρ S=zxe S ρ[i]?:=(rfl)
@[simp] theorem zyv{d:D}:zxe S (some (some (false,d)))=.ok d S:=(rfl)
@[simp] theorem zwd{i:Nat}:zai i ρ S=zxo S ρ[i]?:=(rfl)
@[simp] theorem zy1{o:Bool}{d:D}:zxo S (some (some (o,d)))=.ok d S:=(rfl)
@[simp] theorem zwc{d:D}:zah d ρ S=.ok d S:=(rfl)
@[simp] theorem zxX{u:D->Option D}:eUn u f ρ S=kUn u (f ρ S):=by
 unfold eUn;cases f ρ S<;>rfl
@[simp] theorem zyx{u:D->Option D}{d:D}:kUn u (.ok d S)=Out.of (u d) S:=(rfl)
@[simp] theorem zyw{u:D->Option D}{x:Str}:kUn u (.exc x S)=.exc x S:=(rfl)
@[simp] theorem zwe{u:D->D->Option D}:zaf u f g ρ S=zu0 u g ρ (f ρ S):=by
 unfold zaf
 cases f ρ S with
 | ok a S1=>show ((g ρ S1).bind fun b S2=>Out.of (u a b) S2)=zlo u a (g ρ S1);cases g ρ S1<;>rfl
 | exc c S=>rfl
 | bad=>rfl
@[simp] theorem zw5{u:D->D->Option D}{d:D}:zu0 u g ρ (.ok d S)=zlo u d (g ρ S):=(rfl)
@[simp] theorem zw4{u:D->D->Option D}{x:Str}:zu0 u g ρ (.exc x S)=.exc x S:=(rfl)
@[simp] theorem zw3{u:D->D->Option D}{d e:D}:zlo u d (.ok e S)=Out.of (u d e) S:=(rfl)
@[simp] theorem zw2{u:D->D->Option D}{d:D}{x:Str}:zlo u d (.exc x S)=.exc x S:=(rfl)
@[simp] theorem zx2:eIf c f g ρ S=kIf f g ρ (c ρ S):=by
 unfold eIf;cases c ρ S<;>rfl
@[simp] theorem zyM:kIf f g ρ (.ok (.bl true) S)=f ρ S:=(rfl)
@[simp] theorem zyL:kIf f g ρ (.ok (.bl false) S)=g ρ S:=(rfl)
@[simp] theorem zwf:zfK f g ρ S=zu2 g ρ (f ρ S):=by
 unfold zfK;cases f ρ S<;>rfl
@[simp] theorem zxd:zu2 g ρ (.ok (.bl true) S)=g ρ S:=(rfl)
@[simp] theorem zxc:zu2 g ρ (.ok (.bl false) S)=.ok (.bl false) S:=(rfl)
@[simp] theorem zxZ:eOr f g ρ S=kOr g ρ (f ρ S):=by
 unfold eOr;cases f ρ S<;>rfl
@[simp] theorem zyD:kOr g ρ (.ok (.bl true) S)=.ok (.bl true) S:=(rfl)
@[simp] theorem zyC:kOr g ρ (.ok (.bl false) S)=g ρ S:=(rfl)
@[simp] theorem ztN:zan [] ρ S=.ok [] S:=(rfl)
@[simp] theorem ztO{fs:List Fe}:zan (f::fs) ρ S=zpT fs ρ (f ρ S):=by
 show ((f ρ S).bind fun d S1=>(zan fs ρ S1).bind fun ds S2=>.ok (d::ds) S2)=_
 cases f ρ S with
 | ok a S1=>show ((zan fs ρ S1).bind fun ds S2=>.ok (a::ds) S2)=zhp a (zan fs ρ S1);cases zan fs ρ S1<;>rfl
 | exc c S=>rfl
 | bad=>rfl
@[simp] theorem zuS{fs:List Fe}{d:D}:zpT fs ρ (.ok d S)=zhp d (zan fs ρ S):=(rfl)
@[simp] theorem zuR{fs:List Fe}{x:Str}:zpT fs ρ (.exc x S)=.exc x S:=(rfl)
@[simp] theorem zuQ{d:D}{ds:List D}:zhp d (.ok ds S)=.ok (d::ds) S:=(rfl)
@[simp] theorem zuP{d:D}{x:Str}:zhp d (.exc x S)=.exc x S:=(rfl)
@[simp] theorem zv7{fs:List Fe}:zcv fs ρ S=zxf (zan fs ρ S):=by
 unfold zcv;cases zan fs ρ S<;>rfl
@[simp] theorem zyy{ds:List D}:zxf (.ok ds S)=if small ds.length then .ok (.tup ds) S else .bad:=(rfl)
@[simp] theorem zv9{fs:List Fe}:zeu fs ρ S=zxh (zan fs ρ S):=by
 unfold zeu;cases zan fs ρ S<;>rfl
@[simp] theorem zyH{ds:List D}:zxh (.ok ds S)=if small ds.length then .ok (.lst ds) S else .bad:=(rfl)
@[simp] theorem ztQ{u:List D->Option D}{fs:List Fe}:zaE u fs ρ S=zpU u (zan fs ρ S):=by
 unfold zaE;cases zan fs ρ S<;>rfl
@[simp] theorem zuV{u:List D->Option D}{ds:List D}:zpU u (.ok ds S)=Out.of (u ds) S:=(rfl)
@[simp] theorem zuU{u:List D->Option D}{x:Str}:zpU u (.exc x S)=.exc x S:=(rfl)
@[simp] theorem zx3{r:List D->Sto->Out D}{fs:List Fe}:eFn r fs ρ S=kFn r (zan fs ρ S):=by
 unfold eFn;cases zan fs ρ S<;>rfl
@[simp] theorem zyQ{r:List D->Sto->Out D}{ds:List D}:kFn r (.ok ds S)=r ds S:=(rfl)
@[simp] theorem zyP{r:List D->Sto->Out D}{x:Str}:kFn r (.exc x S)=.exc x S:=(rfl)
@[simp] theorem zti{u v:D->D->Option D}:zcD u v f g h ρ S=zoj u v g h ρ (f ρ S):=by
 show ((f ρ S).bind fun a S1=>(g ρ S1).bind fun b S2=>match (u a b).bind isB with
  | some true=>(h ρ S2).bind fun c S3=>Out.of (v b c) S3
  | some false=>.ok (.bl false) S2
  | none=>.bad)=_
 cases f ρ S with
 | ok a S1 =>
  show ((g ρ S1).bind fun b S2=>match (u a b).bind isB with
   | some true=>(h ρ S2).bind fun c S3=>Out.of (v b c) S3
   | some false=>.ok (.bl false) S2
   | none=>.bad)=zgB u v h ρ a (g ρ S1)
  cases g ρ S1 with
  | ok b S2 =>
   show (match (u a b).bind isB with
    | some true=>(h ρ S2).bind fun c S3=>Out.of (v b c) S3
    | some false=>.ok (.bl false) S2
    | none=>.bad)=zfk v h ρ b S2 (u a b)
   cases hu:u a b with
   | none=>rfl
   | some d =>
    show (match isB d with
     | some true=>(h ρ S2).bind fun c S3=>Out.of (v b c) S3
     | some false=>.ok (.bl false) S2
     | none=>.bad)=(match isB d with | some true=>zfl v b (h ρ S2) | some false=>.ok (.bl false) S2 | none=>.bad)
    cases hb:isB d with
    | none=>rfl
    | some x=>cases x with
     | true=>show ((h ρ S2).bind fun c S3=>Out.of (v b c) S3)=zfl v b (h ρ S2);cases h ρ S2<;>rfl
     | false=>rfl
  | exc c S=>rfl
  | bad=>rfl
 | exc c S=>rfl
 | bad=>rfl
@[simp] theorem zyZ{u v:D->D->Option D}{d:D}:zoj u v g h ρ (.ok d S)=zgB u v h ρ d (g ρ S):=(rfl)
@[simp] theorem zyY{u v:D->D->Option D}{d e:D}:zgB u v h ρ d (.ok e S)=zfk v h ρ e S (u d e):=(rfl)
@[simp] theorem zyX{v:D->D->Option D}{e:D}:zfk v h ρ e S (some (.bl true))=zfl v e (h ρ S):=(rfl)
@[simp] theorem zyW{v:D->D->Option D}{e:D}:zfk v h ρ e S (some (.bl false))=.ok (.bl false) S:=(rfl)
@[simp] theorem zyV{v:D->D->Option D}{d e:D}:zfl v e (.ok d S)=Out.of (v e d) S:=(rfl)
@[simp] theorem ztg:zc6 none ρ S=.ok none S:=(rfl)
@[simp] theorem ztf:zc6 (some f) ρ S=zxi (f ρ S):=by
 show ((f ρ S).bind fun d S1=>match d with | .int i=>.ok (some i) S1 | _=>.bad)=_
 cases f ρ S with
 | ok d S'=>cases d<;>rfl
 | exc c S'=>rfl
 | bad=>rfl
@[simp] theorem zyK{i:Int}:zxi (.ok (.int i) S)=.ok (some i) S:=(rfl)
@[simp] theorem zxY{l u:Option Fe}:eSl f l u ρ S=kSl l u ρ (f ρ S):=by
 unfold eSl
 cases f ρ S with
 | ok d S1 =>
  show ((zc6 l ρ S1).bind fun l S2=>(zc6 u ρ S2).bind fun u S3=>Out.of (slD d l u) S3)=zto d u ρ (zc6 l ρ S1)
  cases zc6 l ρ S1 with
  | ok l S2=>show ((zc6 u ρ S2).bind fun u S3=>Out.of (slD d l u) S3)=ztn d l (zc6 u ρ S2);cases zc6 u ρ S2<;>rfl
  | exc c S=>rfl
  | bad=>rfl
 | exc c S=>rfl
 | bad=>rfl
@[simp] theorem zzo{l u:Option Fe}{d:D}:kSl l u ρ (.ok d S)=zto d u ρ (zc6 l ρ S):=(rfl)
@[simp] theorem zyA{u:Option Fe}{d:D}{l:Option Int}:zto d u ρ (.ok l S)=ztn d l (zc6 u ρ S):=(rfl)
@[simp] theorem zyz{d:D}{l u:Option Int}:ztn d l (.ok u S)=Out.of (slD d l u) S:=(rfl)
@[simp] theorem ztM:zaV f ρ S=zll (f ρ S):=by
 show ((f ρ S).bind fun d S1=>match d with | .lst l=>.ok l S1 | .tup l=>.ok l S1 | _=>.bad)=_
 cases f ρ S with
 | ok d S'=>cases d<;>rfl
 | exc c S'=>rfl
 | bad=>rfl
@[simp] theorem zyJ{l:List D}:zll (.ok (.lst l) S)=.ok l S:=(rfl)
@[simp] theorem zyI{l:List D}:zll (.ok (.tup l) S)=.ok l S:=(rfl)
@[simp] theorem zv5:zgG f ρ S=zne (zan [f] ρ S):=by
 show ((zan [f] ρ S).bind fun ds S1=>match ds with | [.lst l]=>.ok (zbw l) S1 | [.tup l]=>.ok (zbw l) S1 | _=>.bad)=_
 cases zan [f] ρ S with
 | ok ds S' =>
  cases ds with
  | nil=>rfl
  | cons d ds=>cases ds with
   | nil=>cases d<;>rfl
   | cons e ds=>cases d<;>rfl
 | exc c S'=>rfl
 | bad=>rfl
@[simp] theorem zyU{l:List D}:zne (.ok [.lst l] S)=.ok (zbw l) S:=(rfl)
@[simp] theorem zyT{l:List D}:zne (.ok [.tup l] S)=.ok (zbw l) S:=(rfl)
@[simp] theorem zvK:zc7 f ρ S=zsw (zan [f] ρ S):=by
 unfold zc7;cases zan [f] ρ S<;>rfl
@[simp] theorem zwK{j:Int}:zsw (.ok [.int j] S)=if -1000000<=j/\j<=1000000 then .ok (zas 0 j) S else .bad:=(rfl)
@[simp] theorem zvJ:zlP f g ρ S=zsv (zan [f,g] ρ S):=by
 unfold zlP;cases zan [f,g] ρ S<;>rfl
@[simp] theorem zwJ{i j:Int}:zsv (.ok [.int i,.int j] S)=if (-1000000<=i/\i<=1000000)/\-1000000<=j/\j<=1000000 then .ok (zas i j) S else .bad:=(rfl)
@[simp] theorem zvI:zlO f g h ρ S=zsu (zan [f,g,h] ρ S):=by
 unfold zlO;cases zan [f,g,h] ρ S<;>rfl
@[simp] theorem zwI{i j m:Int}:zsu (.ok [.int i,.int j,.int m] S)=if i=0/\0<=j/\j<=1000/\1<=m/\m<=1000 then .ok (ze6 j m) S else .bad:=(rfl)
@[simp] theorem zwg{n:Nat}{t:Tg}{it:Fi}{caps:List Nat}:zcZ n t it c f caps ρ S=znf t c f (zaF n caps ρ) (it ρ S):=by
 unfold zcZ
 cases it ρ S with
 | ok ds S' =>
  simp only [Out.bind,znf]
  cases zbh t c f (zaF n caps ρ) ds S'<;>rfl
 | exc c S'=>rfl
 | bad=>rfl
@[simp] theorem zw1{t:Tg}{ρ0:Env}{ds:List D}:znf t c f ρ0 (.ok ds S)=zln (zbh t c f ρ0 ds S):=(rfl)
@[simp] theorem zuT{ys:List D}:zln (.ok ys S)=if small ys.length then .ok (.lst ys) S else .bad:=(rfl)
@[simp] theorem zxA:zfI ρ S=.ok (.bl true) S:=(rfl)
@[simp] theorem zqH{n:Nat}{caps:List Nat}:zaF n caps ρ=List.replicate n none++caps.map (zsY ρ):=(rfl)
@[simp] theorem zwh{i:Nat}:zsY ρ i=zxn ρ[i]?:=(rfl)
@[simp] theorem zy0{d:D}:zxn (some (some (false,d)))=some (false,d):=(rfl)
theorem zav{n:Nat}{own:Bool}{fs:Fs}{ds:List D}:zbR n own fs ds S=ztp own (fs (ds.map (fun d=>some (false,d))++List.replicate (n-ds.length) none) S):=(rfl)
@[simp] theorem zwH{own:Bool}{d:D}:ztp own (.rt d S)=.ok d S:=(rfl)
@[simp] theorem zwG:ztp false (.nx ρ S)=.ok .non S:=(rfl)
@[simp] theorem zwF{own:Bool}{x:Str}:ztp own (.ex x ρ S)=.exc x S:=(rfl)
@[simp] theorem zxU{b:Bool}:isB (.bl b)=some b:=(rfl)
@[simp] theorem zxJ{b:Bool}:zeL (.bl b)=some (.bl (!b)):=(rfl)
@[simp] theorem zxK{i:Int}:zkb (.int i)=some (.int (-i)):=(rfl)
@[simp] theorem zwj{i j:Int}:zb5 (.int i) (.int j)=some (.int (i+j)):=(rfl)
@[simp] theorem zqI{x y:List D}:zb5 (.tup x) (.tup y)=if small (x.length+y.length) then some (.tup (x++y)) else none:=(rfl)
@[simp] theorem zwi{x y:List D}:zb5 (.lst x) (.lst y)=if small (x.length+y.length) then some (.lst (x++y)) else none:=(rfl)
@[simp] theorem zxB{i j:Int}:zqB (.int i) (.int j)=some (.int (i-j)):=(rfl)
@[simp] theorem zxM{i j:Int}:zfO (.int i) (.int j)=if zbU i||zbU j then some (.int (i*j)) else none:=(rfl)
@[simp] theorem zxN{i j:Int}:zkc (.int i) (.int j)=if 0<j then some (.int (i % j)) else none:=(rfl)
@[simp] theorem zx4{i j:Int}:zsQ (.int i) (.int j)=if 0<j/\j<1073741824 then some (.int (i / j)) else none:=(rfl)
@[simp] theorem zzj{i j:Int}:ltD (.int i) (.int j)=some (.bl (decide (i<j))):=(rfl)
@[simp] theorem zzk{i j:Int}:leD (.int i) (.int j)=some (.bl (decide (i<=j))):=(rfl)
@[simp] theorem zzl{i j:Int}:gtD (.int i) (.int j)=some (.bl (decide (j<i))):=(rfl)
@[simp] theorem zzm{i j:Int}:geD (.int i) (.int j)=some (.bl (decide (j<=i))):=(rfl)
@[simp] theorem zxQ{l:List D}{i:Int}:ixD (.lst l) (.int i)=atI l i:=(rfl)
@[simp] theorem zxO{l:List D}{i:Int}:ixD (.tup l) (.int i)=atI l i:=(rfl)
@[simp] theorem zxP{l:List Int}{i:Int}:ixD (.scr l) (.int i)=(atI l i).map D.int:=(rfl)
@[simp] theorem zv2{l:List D}:zem [.lst l]=some (.int l.length):=(rfl)
@[simp] theorem zv0{l:List D}:zem [.tup l]=some (.int l.length):=(rfl)
@[simp] theorem zv1{l:List Int}:zem [.scr l]=some (.int l.length):=(rfl)
@[simp] theorem zvz{l:List D}:zb6 [.lst l]=some (.tup l):=(rfl)
@[simp] theorem zvy{l:List D}:zb6 [.tup l]=some (.tup l):=(rfl)
@[simp] theorem zvZ{l:List D}:zhn [.lst l]=some (.lst l):=(rfl)
@[simp] theorem zvY{l:List D}:zhn [.tup l]=some (.lst l):=(rfl)
@[simp] theorem zxS{d:D}:zhq d .non=some (.bl (zcN d)):=(rfl)
@[simp] theorem zvP{d:D}:zmY d .non=some (.bl (!zcN d)):=(rfl)
@[simp] theorem zvV:zcN .non=true:=(rfl)
@[simp] theorem zvU{i:Int}:zcN (.int i)=false:=(rfl)
@[simp] theorem zvT{l:List D}:zcN (.tup l)=false:=(rfl)
@[simp] theorem zxC{l:List D}{x y:Option Int}:slD (.tup l) x y=some (.tup (zev l x y)):=(rfl)
@[simp] theorem zxD{l:List D}{x y:Option Int}:slD (.lst l) x y=some (.lst (zev l x y)):=(rfl)
@[simp] theorem zvQ{x y:Bool}:zmZ (.bl x) (.bl y)=some (.bl (!decide (x=y))):=(rfl)
@[simp] theorem zvX{i j:Int}:zuK [.int i,.int j]=some (.int (if j<i then j else i)):=(rfl)
@[simp] theorem zoA{n:Nat}:small n=decide (n<=100000):=(rfl)
theorem zba{α:Type}(xs:List α)(j:Nat):atI xs (j:Int)=xs[j]?:=by
 unfold atI ixN
 by_cases h:j<xs.length
 ·simp [h]
 ·simp [h]
@[simp] theorem ztB{α:Type}(xs:List α):atI xs 0=xs[0]?:=zba xs 0
@[simp] theorem zvp{α:Type}(xs:List α):atI xs 1=xs[1]?:=zba xs 1
@[simp] theorem zvo{α:Type}(xs:List α):atI xs 2=xs[2]?:=zba xs 2
@[simp] theorem zs4{α:Type}(xs:List α):atI xs 3=xs[3]?:=zba xs 3
theorem zeS{α:Type}{xs:List α}{i:Int}(h:0<=i):atI xs i=xs[i.toNat]?:=by
 obtain ⟨n,rfl⟩:=Int.eq_ofNat_of_zero_le h;exact zba xs n
end
theorem zcP{tg:Tg}{body:Fs}{ds:List D}{S:Sto}(Iv:Nat->Env->Prop)(step:∀k d ρ,ds[k]?=some d->Iv k ρ->∃ρ1 ρ2,tg.put ρ d=some ρ1/\body ρ1 S=.nx ρ2 S/\Iv (k+1) ρ2){ρ:Env}(h0:Iv 0 ρ):∃ρ',zfr tg body ds ρ S=.nx ρ' S/\Iv ds.length ρ':=by
 have go:∀(n:Nat) (es:List D) (k:Nat) (ρ:Env),es.length=n->ds.drop k=es->k+n=ds.length->Iv k ρ->∃ρ',zfr tg body es ρ S=.nx ρ' S/\Iv ds.length ρ':=by
  intro n
  induction n with
  | zero =>
   intro es k ρ hl he hk hi;obtain rfl:es=[]:=List.eq_nil_of_length_eq_zero hl;exact ⟨ρ,rfl,by rw [show ds.length=k by omega];exact hi⟩
  | succ n ih =>
   intro es k ρ hl he hk hi
   cases es with
   | nil=>cases hl
   | cons d es =>
    have hd:ds[k]?=some d:=by
     have:=congrArg (fun l=>l[0]?) he;rw [List.getElem?_drop] at this;simpa using this
    obtain ⟨ρ1,ρ2,e1,e2,hi2⟩:=step k d ρ hd hi;obtain ⟨ρ',e3,e4⟩:=ih es (k+1) ρ2 (by simpa using hl) (by rw [<-List.drop_drop,he];rfl) (by omega) hi2;refine ⟨ρ',?_,e4⟩;unfold zfr;rw [e1];dsimp only;rw [e2];exact e3
 exact go ds.length ds 0 ρ rfl (by simp) (by omega) h0
theorem zdl{tg:Tg}{c elt:Fe}{ρ0:Env}{S:Sto}{g:D->D}{p:D->Bool}:∀{ds:List D},(∀d∈ds,∃ρ1,tg.put ρ0 d=some ρ1/\c ρ1 S=.ok (.bl (p d)) S/\(p d=true->elt ρ1 S=.ok (g d) S))->zbh tg c elt ρ0 ds S=.ok ((ds.filter p).map g) S
 | [],_=>rfl
 | d::ds,h=>by
  obtain ⟨ρ1,e1,e2,e3⟩:=h d List.mem_cons_self;have ih:=zdl (ds:=ds) fun x hx=>h x (List.mem_cons_of_mem _ hx)
  unfold zbh;rw [e1];dsimp only;rw [e2]
  cases hp:p d with
  | true=>simp [e3 hp,ih,hp]
  | false=>simp [ih,hp]
theorem zfD{tg:Tg}{elt:Fe}{ρ0:Env}{S:Sto}{g:D->D}{ds:List D}(h:∀d∈ds,∃ρ1,tg.put ρ0 d=some ρ1/\elt ρ1 S=.ok (g d) S):zbh tg zfI elt ρ0 ds S=.ok (ds.map g) S:=by
 have:=zdl (c:=zfI) (p:=fun _=>true) (tg:=tg) (elt:=elt) (ρ0:=ρ0) (S:=S) (g:=g) (ds:=ds) fun d hd=>by
  obtain ⟨ρ1,e1,e2⟩:=h d hd;exact ⟨ρ1,e1,rfl,fun _=>e2⟩
 rw [this,List.filter_eq_self.mpr (fun _ _=>rfl)]
mutual
def D.pl:D->Bool
 | .non=>true
 | .int _=>true
 | .str _=>true
 | .tup l=>D.pls l
 | .lst l=>D.pls l
 | _=>false
def D.pls:List D->Bool
 | []=>true
 | d::l=>d.pl&&D.pls l
end
theorem D.pls_iff:∀{l:List D},D.pls l=true↔∀d∈l,d.pl=true
 | []=>by simp [D.pls]
 | d::l=>by simp [D.pls,D.pls_iff (l:=l)]
mutual
theorem zjf:∀(d e:D),d.pl=true->e.pl=true->(d.py.eqv e.py=true↔d=e)
 | .non,e,_,h=>by cases e<;>simp [D.py,PyData.eqv,D.pl] at h ⊢
 | .int i,e,_,h=>by cases e<;>simp [D.py,PyData.eqv,D.pl] at h ⊢
 | .str x,e,_,h=>by cases e<;>simp [D.py,PyData.eqv,D.pl] at h ⊢
 | .tup l,e,hd,h=>by
  cases e with
  | tup k =>
   simp only [D.py,PyData.eqv,D.pl] at hd h ⊢;rw [zil l k hd h];simp
  | _=>simp [D.py,PyData.eqv,D.pl] at h ⊢
 | .lst l,e,hd,h=>by
  cases e with
  | lst k =>
   simp only [D.py,PyData.eqv,D.pl] at hd h ⊢;rw [zil l k hd h];simp
  | _=>simp [D.py,PyData.eqv,D.pl] at h ⊢
 | .bl _,_,hd,_=>by simp [D.pl] at hd
 | .dic _,_,hd,_=>by simp [D.pl] at hd
 | .ref _,_,hd,_=>by simp [D.pl] at hd
 | .exc _,_,hd,_=>by simp [D.pl] at hd
 | .scr _,_,hd,_=>by simp [D.pl] at hd
theorem zil:∀(l k:List D),D.pls l=true->D.pls k=true->(PyData.eqvAll (D.pys l) (D.pys k)=true↔l=k)
 | [],[],_,_=>by simp [D.pys,PyData.eqvAll]
 | [],_::_,_,_=>by simp [D.pys,PyData.eqvAll]
 | _::_,[],_,_=>by simp [D.pys,PyData.eqvAll]
 | d::l,e::k,h1,h2=>by
  simp only [D.pls,Bool.and_eq_true] at h1 h2;simp only [D.pys,PyData.eqvAll,Bool.and_eq_true,List.cons.injEq];rw [zjf d e h1.1 h2.1,zil l k h1.2 h2.2]
end
end S2
namespace S2
open PySem
open L2 hiding D
@[simp] theorem zp7{n:Nat}{i:Int}:D.fit n (.int i)=true:=by cases n<;>rfl
@[simp] theorem zvf{n:Nat}:D.fit n .non=true:=by cases n<;>rfl
@[simp] theorem zve{n:Nat}{l:List D}:D.fit (n+1) (.tup l)=D.fits n l:=(rfl)
@[simp] theorem zvg{n:Nat}{l:List D}:D.fit (n+1) (.lst l)=D.fits n l:=(rfl)
@[simp] theorem ztv{n:Nat}:D.fits n []=true:=by cases n<;>rfl
@[simp] theorem zsN{n:Nat}{d:D}{l:List D}:D.fits n (d::l)=(d.fit n&&D.fits n l):=by cases n<;>rfl
@[simp] theorem zxW{i j:Int}:eqD (.int i) (.int j)=some (.bl (decide (i=j))):=by
 unfold eqD zeK;simp [D.py,PyData.eqv]
 cases h:(i == j)<;>simp_all
@[simp] theorem zxL{i j:Int}:neD (.int i) (.int j)=some (.bl (!decide (i=j))):=by
 unfold neD zeK;simp [D.py,PyData.eqv]
 cases h:(i == j)<;>simp_all
theorem zgc{l:List Int}:eqD (.scr l) (.lst [])=some (.bl (decide (l=[]))):=by
 cases l with
 | nil=>rfl
 | cons a l=>simp [eqD,D.fit,D.fits,zeK,D.py,D.pys,PyData.eqv,PyData.eqvAll]
def zj2(l:List Int)(k:Int):Int:=if k<l.length then l.getD k.toNat 0 else if l=[] then 0 else l.getD (k % l.length).toNat 0*31+k
def zcf(l:List Int)(k:Int)(many:Int):Int :=
 let d:=(zj2 l k+6151*(k+1))*40692 % 2147483399
 (d*d+d / 31) % 2147483629 % many
theorem zct(l:List Int)(k:Int){many:Int}(h:0<many):0<=zcf l k many/\zcf l k many<many:=⟨Int.emod_nonneg _ (by omega),Int.emod_lt_of_pos _ h⟩
@[simp] theorem zxu:zbU 31=true:=by decide
@[simp] theorem ztw:zbU 6151=true:=by decide
@[simp] theorem zsO:zbU 40692=true:=by decide
theorem zlM{i:Int}(h0:-(2 ^ 64)<i)(h:i<2 ^ 64):zbU i=true:=by unfold zbU;simp;omega
theorem zmB{l:List Int}{k:Int}{S:Sto}(hk:0<=k):zbG [.scr l,.int k] S=.ok (.int (zj2 l k)) S:=by
 unfold zj2
 by_cases h:k<l.length
 ·have hx:l[k.toNat]?=some l[k.toNat]:=List.getElem?_eq_getElem (by omega);rw [if_pos h,List.getD_eq_getElem?_getD,hx];simp [zbG,zav,zca,h,zeS hk,hx]
 ·by_cases h0:l=[]
  ·subst h0;simp [zbG,zav,zca,zgc,show ¬ k<0 by omega]
  ·have hl:0<l.length:=by cases l with | nil=>exact absurd rfl h0 | cons _ _=>simp
   have hm0:0<=k % (l.length:Int):=Int.emod_nonneg _ (by omega);have hm1:k % (l.length:Int)<l.length:=Int.emod_lt_of_pos _ (by omega);have hx:l[(k % (l.length:Int)).toNat]?=some (l[(k % (l.length:Int)).toNat]'(by omega)):=List.getElem?_eq_getElem (by omega);rw [if_neg h,if_neg h0,List.getD_eq_getElem?_getD,hx];simp [zbG,zav,zca,h,h0,zgc,zeS hm0,hx,hl]
theorem zcj{l:List Int}{k many:Int}{S:Sto}(hk:0<=k)(hm:0<many):zaD [.scr l,.int k,.int many] S=.ok (.int (zcf l k many)) S:=by
 unfold zcf;have h0:0<=(zj2 l k+6151*(k+1))*40692 % 2147483399:=Int.emod_nonneg _ (by omega);have h1:(zj2 l k+6151*(k+1))*40692 % 2147483399<2147483399:=Int.emod_lt_of_pos _ (by omega);have hf:zbU ((zj2 l k+6151*(k+1))*40692 % 2147483399)=true:=zlM (by omega) (by omega);simp [zaD,zav,zdQ,zmB hk,hf,hm]
def zab(t:List Int):D:=.tup (t.map D.int)
theorem znk{t u:List Int}:t.map D.int=u.map D.int↔t=u:=by
 constructor
 ·intro h
  induction t generalizing u with
  | nil=>cases u with | nil=>rfl | cons _ _=>cases h
  | cons a t ih=>cases u with
   | nil=>cases h
   | cons b u =>
    simp only [List.map_cons,List.cons.injEq,D.int.injEq] at h;rw [h.1,ih h.2]
 ·rintro rfl;rfl
theorem zmn{t u:List Int}:zab t=zab u↔t=u:=by unfold zab;rw [D.tup.injEq];exact znk
theorem zmK{t:List Int}:D.pls (t.map D.int)=true:=by rw [D.pls_iff];intro d hd;obtain ⟨i,_,rfl⟩:=List.mem_map.mp hd;rfl
theorem zkR{t:List Int}:(zab t).pl=true:=zmK
theorem zlH{n:Nat}{t:List Int}:D.fits n (t.map D.int)=true:=by rw [D.fits_iff];intro d hd;obtain ⟨i,_,rfl⟩:=List.mem_map.mp hd;exact zp7
theorem zja{n:Nat}{t:List Int}:(zab t).fit (n+1)=true:=zlH
theorem zof{d:D}:∀{l:List D},d.pl=true->D.pls l=true->(zh6 d l=true↔d∈l)
 | [],_,_=>by simp [zh6]
 | e::l,h,hl=>by
  simp only [D.pls,Bool.and_eq_true] at hl;have ih:=zof (d:=d) (l:=l) h hl.2;have e1:=zjf e d hl.1 h;unfold zh6;simp only [List.any_cons,Bool.or_eq_true,List.mem_cons];unfold zh6 at ih;rw [ih];unfold zeK;rw [e1]
  constructor<;>(intro z;rcases z with z | z<;>simp [z])
theorem zhl{t:List Int}{ts:Z2}:zpE (zab t) (.lst (ts.map zab))=some (.bl (!decide (t∈ts))):=by
 have f1:(zab t).fit 8=true:=zja
 have f2:D.fits 8 (ts.map zab)=true:=by rw [D.fits_iff];intro d hd;obtain ⟨i,_,rfl⟩:=List.mem_map.mp hd;exact zja
 have p2:D.pls (ts.map zab)=true:=by rw [D.pls_iff];intro d hd;obtain ⟨i,_,rfl⟩:=List.mem_map.mp hd;exact zkR
 have m:=zof (d:=zab t) zkR p2
 have:(zab t∈ts.map zab)↔t∈ts:=by
  rw [List.mem_map];constructor
  ·rintro ⟨u,hu,e⟩;rw [<-zmn.mp e];exact hu
  ·intro h;exact ⟨t,h,rfl⟩
 rw [this] at m;unfold zpE;simp only [zg4,f1,f2,Bool.and_self,if_true,Option.some.injEq,D.bl.injEq];congr 1
 by_cases h:t∈ts
 ·rw [m.mpr h];simp [h]
 ·cases hm:zh6 (zab t) (ts.map zab)
  ·simp [h]
  ·exact absurd (m.mp hm) h
structure Tiles(most:Int)(ts:Z2):Prop where
 ne:1<=ts.length
 le:(ts.length:Int)<=most
 four:∀t∈ts,t.length=4
 col:∀t∈ts,∀c∈t,0<=c/\c<3
 nd:ts.Nodup
theorem zc8{hi:Int}{k:Nat}{d:D}(h:(zas 0 hi)[k]?=some d):d=.int k/\(k:Int)<hi:=by
 unfold zas at h;rw [List.getElem?_map] at h
 cases hr:(List.range (hi-0).toNat)[k]? with
 | none=>rw [hr] at h;cases h
 | some j =>
  rw [hr] at h;obtain ⟨h1,h2⟩:=List.getElem?_eq_some_iff.mp hr;simp at h1 h2;subst h2;simp at h;exact ⟨h.symm,by omega⟩
@[simp] theorem ze5{hi:Int}:(zas 0 hi).length=hi.toNat:=by unfold zas;simp
end S2
namespace S2
open PySem
open L2 hiding D
theorem zrB:zas 0 4=[.int 0,.int 1,.int 2,.int 3]:=by rfl
@[simp] theorem zzc:zbU 4=true:=by decide
@[simp] theorem zzb:zbU 7=true:=by decide
theorem zoE{l:List Int}{at' most col k:Int}{S:Sto}{ts:Z2}{y:Option (Bool×D)}(ha:0<=at')(hk:0<=k)(hc:0<col)(hc3:col<=3)(hn:ts.length<=1000) :
  ∃t y',t.length=4/\(∀c∈t,0<=c/\c<3)/\zbk [some (false,.scr l),some (false,.int at'),some (false,.int most),some (false,.int col),some (true,.lst (ts.map zab)),some (false,.int k),y] S
   = .nx [some (false,.scr l),some (false,.int at'),some (false,.int most),some (false,.int col),some (true,.lst ((if t∈ts then ts else ts++[t]).map zab)),some (false,.int k),y'] S:=by
 have hcomp:∀ρ0:Env,ρ0=[none,some (false,.int at'),some (false,.int col),some (false,.int k),some (false,.scr l)]->zbh (.one 0) zfI (eFn zaD [(zad 4),(zaf zb5 (zaf zb5 (zaf zb5 (zai 1) (zaf zfO (zah (.int 4)) (zai 3))) (zah (.int 2))) (zai 0)),(zad 2)]) ρ0 (zas 0 4) S
   = .ok ([zcf l (at'+4*k+2+0) col,zcf l (at'+4*k+2+1) col,zcf l (at'+4*k+2+2) col,zcf l (at'+4*k+2+3) col].map D.int) S:=by
  rintro _ rfl;rw [zrB,zfD (g:=fun d=>match d with | .int i=>.int (zcf l (at'+4*k+2+i) col) | _=>.non)]
  ·rfl
  ·intro d hd;simp only [List.mem_cons,List.not_mem_nil,or_false] at hd
   rcases hd with rfl | rfl | rfl | rfl<;>exact ⟨_,rfl,by simp;rw [zcj (by omega) hc]⟩
 have b0:=zct l (at'+4*k+2+0) hc;have b1:=zct l (at'+4*k+2+1) hc;have b2:=zct l (at'+4*k+2+2) hc;have b3:=zct l (at'+4*k+2+3) hc;generalize zcf l (at'+4*k+2+0) col=p0 at *;generalize zcf l (at'+4*k+2+1) col=p1 at *;generalize zcf l (at'+4*k+2+2) col=p2 at *;generalize zcf l (at'+4*k+2+3) col=p3 at *
 have fin:∀t:List Int,(zag (sFz [] (sIf (zaf zpE (zai 6) (zai 4)) (zag (sFz [6] (zg6 4 (zad 6))) sNx) sNx)) sNx) [some (false,.scr l),some (false,.int at'),some (false,.int most),some (false,.int col),some (true,.lst (ts.map zab)),some (false,.int k),some (false,zab t)] S
   = .nx [some (false,.scr l),some (false,.int at'),some (false,.int most),some (false,.int col),some (true,.lst ((if t∈ts then ts else ts++[t]).map zab)),some (false,.int k),some (false,zab t)] S:=by
  intro t
  by_cases h:t∈ts
  ·simp [zhl,h]
  ·simp [zhl,h,show ts.length<=100000 by omega]
 by_cases h3:zcf l (at'+60+k) 3=0
 ·refine ⟨[p0,p1,p0,p1],some (false,zab [p0,p1,p0,p1]),rfl,by simp;omega,?_⟩;rw [<-fin];simp [zbk,hcomp,zcj (show 0<=at'+60+k by omega) (show (0:Int)<3 by omega),h3];rfl
 ·refine ⟨[p0,p1,p2,p3],some (false,zab [p0,p1,p2,p3]),rfl,by simp;omega,?_⟩;rw [<-fin];simp [zbk,hcomp,zcj (show 0<=at'+60+k by omega) (show (0:Int)<3 by omega),h3];rfl
theorem zkF{l:List Int}{at' most:Int}{S:Sto}(ha:0<=at')(hm:0<most)(hm2:most<=100):∃ts,Tiles most ts/\zck [.scr l,.int at',.int most] S=.ok (.tup (ts.map zab)) S:=by
 have b:=zct l at' (many:=2) (by omega);have n:=zct l (at'+1) hm;have p1:=zcj (l:=l) (S:=S) ha (show (0:Int)<2 by omega);have p2:=zcj (l:=l) (S:=S) (show 0<=at'+1 by omega) hm;generalize zcf l at' 2=c at *;generalize zcf l (at'+1) most=m at *
 obtain ⟨ρ',e,ts,x,y,rfl,h1,h2,h3,h4,h5⟩:=zcP (tg:=.one 5) (body:=zbk) (ds:=zas 0 (1+m)) (S:=S) (fun k ρ=>∃ts x y,ρ=[some (false,.scr l),some (false,.int at'),some (false,.int most),some (false,.int (2+c)),some (true,.lst (ts.map zab)),x,y]/\ts.length<=k/\(0<k->1<=ts.length)/\(∀t∈ts,t.length=4)/\(∀t∈ts,∀c∈t,0<=c/\c<3)/\ts.Nodup) (by
   rintro k d ρ hd ⟨ts,x,y,rfl,h1,h2,h3,h4,h5⟩;obtain ⟨rfl,hk⟩:=zc8 hd;obtain ⟨t,y',a1,a2,a3⟩:=zoE (l:=l) (at':=at') (most:=most) (col:=2+c) (k:=k) (S:=S) (ts:=ts) (y:=y) ha (by omega) (by omega) (by omega) (by omega);refine ⟨_,_,rfl,a3,_,_,_,rfl,?_,?_,?_,?_,?_⟩
   ·split<;>(try simp)<;>omega
   ·intro _;split
    ·rename_i h;exact List.length_pos_of_mem h
    ·simp
   ·intro u hu;split at hu
    ·exact h3 u hu
    ·rw [List.mem_append,List.mem_singleton] at hu
     rcases hu with hu | rfl
     ·exact h3 u hu
     ·exact a1
   ·intro u hu;split at hu
    ·exact h4 u hu
    ·rw [List.mem_append,List.mem_singleton] at hu
     rcases hu with hu | rfl
     ·exact h4 u hu
     ·exact a2
   ·split
    ·exact h5
    ·rename_i h;rw [List.nodup_append];refine ⟨h5,by simp,?_⟩
     intro a ha b hb;rw [List.mem_singleton] at hb;subst hb;rintro rfl;exact h ha)
  (ρ:=[some (false,.scr l),some (false,.int at'),some (false,.int most),some (false,.int (2+c)),some (true,.lst []),none,none]) ⟨[],none,none,rfl,by simp,by simp,by simp,by simp,by simp⟩
 rw [ze5] at h1 h2;refine ⟨ts,⟨h2 (by omega),by omega,h3,h4,h5⟩,?_⟩;simp [zck,zav,zdf,p1,p2,show -1000000<=1+m/\1+m<=1000000 by omega,e]
end S2
namespace S2
open PySem
open L2 hiding D
def oD:Option Int->D | none=>.non | some i=>.int i
def zc4(c:Nat)(g:Nat->Option Int):List D:=(List.range c).map fun j=>oD (g j)
def zeJ(c:Nat)(g:Nat->Option Int):D:=.tup (zc4 c g)
def zce(r c:Nat)(g:Z1):List D:=(List.range r).map fun i=>zeJ c (g i)
def flr(r c:Nat)(g:Z1):D:=.tup (zce r c g)
@[simp] theorem zbW{c:Nat}{g:Nat->Option Int}:(zc4 c g).length=c:=by simp [zc4]
@[simp] theorem zcQ{r c:Nat}{g:Z1}:(zce r c g).length=r:=by simp [zce]
theorem zcH{c j:Nat}{g:Nat->Option Int}(h:j<c):(zc4 c g)[j]?=some (oD (g j)):=by simp [zc4,h]
theorem zcR{r c i:Nat}{g:Z1}(h:i<r):(zce r c g)[i]?=some (zeJ c (g i)):=by simp [zce,h]
@[simp] theorem zur{c j:Nat}{g:Nat->Option Int}(h:j<(zc4 c g).length):(zc4 c g)[j]=oD (g j):=by simp [zc4]
@[simp] theorem zvc{r c i:Nat}{g:Z1}(h:i<(zce r c g).length):(zce r c g)[i]=zeJ c (g i):=by simp [zce]
theorem zkI{k:Nat}{g:Nat->Option Int}:zc4 (k+1) g=zc4 k g++[oD (g k)]:=by simp [zc4,List.range_succ]
theorem zlG{k c:Nat}{g:Z1}:zce (k+1) c g=zce k c g++[zeJ c (g k)]:=by simp [zce,List.range_succ]
def zka(l:List Int)(at' n m:Int)(i j:Nat):Option Int:=if zcf l (at'+7*i+j) (n*m)<n then some (zcf l (at'+7*i+j) (n*m)) else none
theorem zsd{l:List Int}{at' n m:Int}{i j:Nat}(h:0<n*m):∀x,zka l at' n m i j=some x->0<=x/\x<n:=by
 intro x e;unfold zka at e;have:=zct l (at'+7*i+j) h;split at e
 ·cases e;omega
 ·cases e
theorem znt{l:List Int}{at' m:Int}{ts:List D}{r c:Nat}{i:Nat}{S:Sto}{A B Mm:Option (Bool×D)}{y:Option (Bool×D)}{z:Option (Bool×D)}(ha:0<=at')(hp:0<(ts.length:Int)*m)(hm:zbU m=true)(hc:c<=1000) :
  ∃y' z',zfr (.one 9) zbl (zas 0 c) [some (false,.scr l),some (false,.int at'),some (false,.tup ts),A,B,some (false,.int m),Mm,some (false,.int i),some (true,.lst []),y,z] S
   = .nx [some (false,.scr l),some (false,.int at'),some (false,.tup ts),A,B,some (false,.int m),Mm,some (false,.int i),some (true,.lst (zc4 c (zka l at' ts.length m i))),y',z'] S:=by
 obtain ⟨ρ',e,y',z',rfl⟩:=zcP (tg:=.one 9) (body:=zbl) (ds:=zas 0 c) (S:=S) (fun k ρ=>∃y z,ρ=[some (false,.scr l),some (false,.int at'),some (false,.tup ts),A,B,some (false,.int m),Mm,some (false,.int i),some (true,.lst (zc4 k (zka l at' ts.length m i))),y,z]) (by
  rintro k d ρ hd ⟨y,z,rfl⟩;obtain ⟨rfl,hk⟩:=zc8 hd;have p:=zcj (l:=l) (S:=S) (show 0<=at'+7*(i:Int)+(k:Int) by omega) hp;have pn:=zct l (at'+7*(i:Int)+(k:Int)) hp;refine ⟨_,_,rfl,?_,some (false,.int k),some (false,.int (zcf l (at'+7*i+k) (ts.length*m))),rfl⟩
  ·rw [zkI]
   by_cases h:zcf l (at'+7*(i:Int)+(k:Int)) (ts.length*m)<ts.length
   ·simp [zbl,p,hm,h,zka,oD,show k<=100000 by omega]
   ·simp [zbl,p,hm,h,zka,oD,show k<=100000 by omega])
  (ρ:=[some (false,.scr l),some (false,.int at'),some (false,.tup ts),A,B,some (false,.int m),Mm,some (false,.int i),some (true,.lst []),y,z]) ⟨y,z,rfl⟩
 exact ⟨y',z',by simpa using e⟩
theorem zkH{l:List Int}{at' m:Int}{ts:List D}{r c:Int}{S:Sto}(ha:0<=at')(hp:0<(ts.length:Int)*m)(hm:zbU m=true)(hr:0<=r)(hr2:r<=1000)(hc:0<=c)(hc2:c<=1000) :
  zcl [.scr l,.int at',.tup ts,.int r,.int c,.int m] S=.ok (flr r.toNat c.toNat (zka l at' ts.length m)) S:=by
 obtain ⟨r,rfl⟩:=Int.eq_ofNat_of_zero_le hr;obtain ⟨c,rfl⟩:=Int.eq_ofNat_of_zero_le hc
 obtain ⟨ρ',e,x1,x2,x3,x4,rfl⟩:=zcP (tg:=.one 7) (body:=zcw) (ds:=zas 0 r) (S:=S) (fun k ρ=>∃x1 x2 x3 x4,ρ=[some (false,.scr l),some (false,.int at'),some (false,.tup ts),some (false,.int r),some (false,.int c),some (false,.int m),some (true,.lst (zce k c (zka l at' ts.length m))),x1,x2,x3,x4]) (by
  rintro k d ρ hd ⟨x1,x2,x3,x4,rfl⟩;obtain ⟨rfl,hk⟩:=zc8 hd;obtain ⟨y',z',e⟩:=znt (l:=l) (at':=at') (m:=m) (ts:=ts) (r:=r) (c:=c) (i:=k) (S:=S) (A:=some (false,.int r)) (B:=some (false,.int c)) (Mm:=some (true,.lst (zce k c (zka l at' ts.length m)))) (y:=x3) (z:=x4) ha hp hm (by omega);refine ⟨_,_,rfl,?_,some (false,.int k),some (true,.lst (zc4 c (zka l at' ts.length m k))),y',z',rfl⟩
  ·rw [zlG]
   simp [zcw,e,zeJ,show -1000000<=(c:Int)/\(c:Int)<=1000000 by omega,show k<=100000 by omega])
  (ρ:=[some (false,.scr l),some (false,.int at'),some (false,.tup ts),some (false,.int r),some (false,.int c),some (false,.int m),some (true,.lst []),none,none,none,none]) ⟨none,none,none,none,rfl⟩
 simp at e;simp [zcl,zav,zdg,e,flr,show -1000000<=(r:Int)/\(r:Int)<=1000000 by omega]
end S2
namespace S2
open PySem
open L2 hiding D
abbrev plD(i j:Nat):D:=.tup [.int i,.int j]
def zcK(r c:Nat):List D:=(List.range r).flatMap fun i=>(List.range c).map fun j=>plD i j
theorem ze9{k c:Nat}:zcK (k+1) c=zcK k c++(List.range c).map fun j=>plD k j:=by simp [zcK,List.range_succ]
theorem zeh{r c:Nat}{d:D}(h:d∈zcK r c):∃i j,i<r/\j<c/\d=plD i j:=by
 simp only [zcK,List.mem_flatMap,List.mem_range,List.mem_map] at h;obtain ⟨i,hi,j,hj,e⟩:=h;exact ⟨i,j,hi,hj,e.symm⟩
theorem zrJ{r c i j:Nat}(hi:i<r)(hj:j<c):plD i j∈zcK r c:=by
 simp only [zcK,List.mem_flatMap,List.mem_range,List.mem_map];exact ⟨i,hi,j,hj,rfl⟩
theorem ze8{r c:Nat}:(zcK r c).length=r*c:=by
 induction r with
 | zero=>simp [zcK]
 | succ k ih=>rw [ze9,List.length_append,ih];simp [Nat.succ_mul]
theorem zgr{r c:Nat}{g:Z1}{S:Sto}(h:1<=r):zbO [flr r c g] S=.ok (.tup [.int r,.int c]) S:=by
 have e:=zcR (c:=c) (g:=g) (i:=0) (r:=r) (by omega);simp [zbO,zav,zfv,flr,e,zeJ,show 0<r by omega]
theorem zfV{r c:Nat}{g:Z1}{S:Sto}(h:1<=r)(hr:r<=100)(hc:c<=100):zbF [flr r c g] S=.ok (.lst (zcK r c)) S:=by
 have inner:∀(k:Nat) (y:Option (Bool×D)),k<r->∃y',zfr (.one 4) zb3 (zas 0 c) [some (false,flr r c g),some (false,.tup [.int r,.int c]),some (true,.lst (zcK k c)),some (false,.int k),y] S
   = .nx [some (false,flr r c g),some (false,.tup [.int r,.int c]),some (true,.lst (zcK (k+1) c)),some (false,.int k),y'] S:=by
  intro k y hk
  obtain ⟨ρ',e,y',rfl⟩:=zcP (tg:=.one 4) (body:=zb3) (ds:=zas 0 c) (S:=S) (fun j ρ=>∃y,ρ=[some (false,flr r c g),some (false,.tup [.int r,.int c]),some (true,.lst (zcK k c++(List.range j).map fun j=>plD k j)),some (false,.int k),y]) (by
   rintro j d ρ hd ⟨y,rfl⟩;obtain ⟨rfl,hj⟩:=zc8 hd
   have hl:k*c+j<=100000:=by
    have:k*c<=100*100:=Nat.mul_le_mul (by omega) (by omega);omega
   refine ⟨_,_,rfl,?_,some (false,.int j),rfl⟩
   simp [zb3,List.range_succ,ze8,hl])
   (ρ:=[some (false,flr r c g),some (false,.tup [.int r,.int c]),some (true,.lst (zcK k c)),some (false,.int k),y]) ⟨y,by simp⟩
  refine ⟨y',?_⟩;rw [e,ze9];simp
 obtain ⟨ρ',e,x,y,rfl⟩:=zcP (tg:=.one 3) (body:=zc1) (ds:=zas 0 r) (S:=S) (fun k ρ=>∃x y,ρ=[some (false,flr r c g),some (false,.tup [.int r,.int c]),some (true,.lst (zcK k c)),x,y]) (by
  rintro k d ρ hd ⟨x,y,rfl⟩;obtain ⟨rfl,hk⟩:=zc8 hd;obtain ⟨y',e⟩:=inner k y (by omega);refine ⟨_,_,rfl,?_,some (false,.int k),y',rfl⟩
  simp [zc1,e,show -1000000<=(c:Int)/\(c:Int)<=1000000 by omega])
  (ρ:=[some (false,flr r c g),some (false,.tup [.int r,.int c]),some (true,.lst []),none,none]) ⟨none,none,rfl⟩
 simp at e;simp [zbF,zav,zdN,zgr h,e,show -1000000<=(r:Int)/\(r:Int)<=1000000 by omega]
theorem zdp{r c i j:Nat}{g:Z1}{S:Sto}(hi:i<r)(hj:j<c):zaY [flr r c g,plD i j] S=.ok (oD (g i j)) S:=by
 simp [zaY,zav,zdO,flr,plD,zba,zcR hi,zcH hj,zeJ]
theorem zg8{l:List D}{a b:Int}{S:Sto}:zaZ [.tup l,.int a,.int b] S=.ok (.bl (decide (a<=l.length/\(l.length:Int)<=b))) S:=by
 by_cases h1:a<=(l.length:Int)
 ·by_cases h2:(l.length:Int)<=b<;>simp [zaZ,zav,zb1,zeM,h1,h2]
 ·simp [zaZ,zav,zb1,zeM,h1]
end S2
namespace S2
open PySem
open L2 hiding D
@[simp] theorem zzd{a b:Option Int}:eqD (oD a) (oD b)=some (.bl (decide (a=b))):=by
 cases a<;>cases b<;>simp [oD]
 ·rfl
 ·rfl
 ·rfl
@[simp] theorem zwu{a:Option Int}:zcN (oD a)=decide (a=none):=by cases a<;>simp [oD]
end S2
namespace S2
open PySem
open L2 hiding D
theorem zd6{tg:Tg}{body:Fs}{S:Sto}{α:Type}(mk:List D->α->Env)(g:D->List D)(N:Nat):∀{ds:List D},(∀d∈ds,∀(L:List D) (x:α),L.length+(g d).length<=N->∃ρ1 x',tg.put (mk L x) d=some ρ1/\body ρ1 S=.nx (mk (L++g d) x') S) →
  ∀(L0:List D) (x0:α),L0.length+(ds.flatMap g).length<=N->∃x',zfr tg body ds (mk L0 x0) S=.nx (mk (L0++ds.flatMap g) x') S
 | [],_,L0,x0,_=>⟨x0,by simp [zfr]⟩
 | d::ds,step,L0,x0,hN=>by
  rw [List.flatMap_cons,List.length_append] at hN;obtain ⟨ρ1,x',e1,e2⟩:=step d List.mem_cons_self L0 x0 (by omega);obtain ⟨x2,e3⟩:=zd6 mk g N (ds:=ds) (fun d hd=>step d (List.mem_cons_of_mem _ hd)) (L0++g d) x' (by rw [List.length_append];omega);refine ⟨x2,?_⟩;unfold zfr;rw [e1];dsimp only;rw [e2];dsimp only;rw [e3,List.flatMap_cons,List.append_assoc]
theorem zjH{lo hi:Int}:(zas lo hi).length=(hi-lo).toNat:=by unfold zas;simp
theorem zh4{d:D}(h:d.pl=true)(f:d.fit 9=true):neD d d=some (.bl false):=by
 unfold neD zeK;rw [f,(zjf d d h h).mpr rfl];rfl
theorem zqb{d:D}(h:d.pl=true)(f:d.fit 9=true):eqD d d=some (.bl true):=by
 unfold eqD zeK;rw [f,(zjf d d h h).mpr rfl];rfl
end S2
namespace S2
open PySem
open L2 hiding D
structure TOk(ts:Z2):Prop where
 four:∀t∈ts,t.length=4
 le:ts.length<=100
def zaA(ts:Z2)(n:Int)(s:Nat):Int:=(ts.getD n.toNat []).getD s 0
theorem zgW{ts:Z2}(ht:TOk ts){n:Int}(h0:0<=n)(h1:n<ts.length):atI (ts.map zab) n=some (.tup ([zaA ts n 0,zaA ts n 1,zaA ts n 2,zaA ts n 3].map D.int)):=by
 rw [zeS h0,List.getElem?_map,List.getElem?_eq_getElem (by omega)];have h4:=ht.four _ (List.getElem_mem (show n.toNat<ts.length by omega))
 have e:ts.getD n.toNat []=ts[n.toNat]:=by rw [List.getD_eq_getElem?_getD,List.getElem?_eq_getElem (by omega)];rfl
 unfold zaA;rw [e];generalize ts[n.toNat]=t at *
 match t,h4 with
 | [a,b,c,d],_=>rfl
theorem zdG{i:Int}{S:Sto}:zaP [.int i] S=.ok (.bl true) S:=by simp [zaP,zav,zdu,zeM]
theorem zhV{S:Sto}:zaP [.non] S=.ok (.bl false) S:=by simp [zaP,zav,zdu,zeM]
theorem zdA{ts:List D}{o:Option Int}{S:Sto}(h:∀x,o=some x->0<=x/\x<ts.length):zbu [.tup ts,oD o] S=.ok (.bl o.isSome) S:=by
 cases o with
 | none=>simp [zbu,zav,zcq,oD,zhV]
 | some x=>obtain ⟨h0,h1⟩:=h x rfl;simp [zbu,zav,zcq,oD,zdG,h0,h1]
noncomputable def hp1:Fe:=zcD leD ltD (zah (.int 0)) (zaf ixD (zai 1) (zah (.int 0))) (zaf ixD (zai 2) (zah (.int 0)))
noncomputable def hp2:Fe:=zcD leD ltD (zah (.int 0)) (zaf ixD (zai 1) (zah (.int 1))) (zaf ixD (zai 2) (zah (.int 1)))
noncomputable def hpF:Fs:=(zag (sFz [1] (sIf (eOr (eUn zeL (eFn zaZ [(zad 1),(zah (.int 2)),(zah (.int 2))])) (eOr (eUn zeL (eFn zaP [(zaf ixD (zai 1) (zah (.int 0)))])) (eUn zeL (eFn zaP [(zaf ixD (zai 1) (zah (.int 1)))])))) (zag (sFz [] (zbp (zah (.bl false)))) sNx) sNx))
  (zag (sFz [0] (zaW 2 false (eFn zbO [(zad 0)]))) (zag (sFz [] (zbp (zfK hp1 hp2))) sNx)))
theorem zsI:zdP=hpF:=rfl
theorem zdT{r c:Nat}{g:Z1}{i j:Int}{S:Sto}(h1:1<=r):zb7 [flr r c g,.tup [.int i,.int j]] S=.ok (.bl (decide ((0<=i/\i<r)/\0<=j/\j<c))) S:=by
 have ht:zaZ [.tup [.int i,.int j],.int 2,.int 2] S=.ok (.bl true) S:=by rw [zg8];simp
 have sz:=zgr (c:=c) (g:=g) (S:=S) h1
 have t1:∀x,hp1 [x,some (false,.tup [.int i,.int j]),some (false,.tup [.int r,.int c])] S=.ok (.bl (decide (0<=i/\i<r))) S:=fun x=>by
  by_cases a:0<=i<;>simp [hp1,a]
 have t2:∀x,hp2 [x,some (false,.tup [.int i,.int j]),some (false,.tup [.int r,.int c])] S=.ok (.bl (decide (0<=j/\j<c))) S:=fun x=>by
  by_cases a:0<=j<;>simp [hp2,a]
 rw [Bool.decide_and];generalize decide (0<=i/\i<r)=b1 at *;generalize decide (0<=j/\j<c)=b2 at *;generalize flr r c g=fl at *;simp only [zb7,zav,zsI]
 cases b1<;>simp [hpF,ht,zdG,sz,t1,t2]
def InT(ts:Z2)(g:Z1):Prop:=∀i j x,g i j=some x->0<=x/\x<ts.length
def cl2:Option Int->Option Int->Bool | some a,some b=>!decide (a=b) | _,_=>false
end S2
namespace S2
open PySem
open L2 hiding D
end S2
namespace S2
open PySem
open L2 hiding D
theorem zjr{t:List Int}(h:t≠[]):atI (t.map D.int) (-1)=some (.int (t.getLastD 0)):=by
 have hl:0<t.length:=by cases t with | nil=>exact absurd rfl h | cons _ _=>simp
 have e:atI (t.map D.int) (-1)=(t.map D.int)[t.length-1]?:=by
  unfold atI ixN;rw [if_neg (by omega),if_pos (by rw [List.length_map];omega)];show (t.map D.int)[(-1+((t.map D.int).length:Int)).toNat]?=_;congr 1;rw [List.length_map];omega
 rw [e,List.getElem?_map,List.getElem?_eq_getElem (by omega)];rw [List.getLastD_eq_getLast?,List.getLast?_eq_getElem?,List.getElem?_eq_getElem (by omega)];rfl
def zhu(ts:Z2)(c:Nat)(t:List Int)(n:Int):Bool:=decide ((0<t.length % c->zaA ts (t.getLastD 0) 1=zaA ts n 3)/\(c<=t.length->zaA ts (t.getD (t.length-c) 0) 2=zaA ts n 0))
def InR(ts:Z2)(t:List Int):Prop:=∀x∈t,0<=x/\x<ts.length
theorem znb{t:List Int}(h:t≠[]):t.getLastD 0∈t:=by
 cases t with
 | nil=>exact absurd rfl h
 | cons a t=>rw [List.getLastD_cons];exact List.getLastD_mem_cons
theorem ziB{ts:Z2}(ht:TOk ts){x:Int}(h:0<=x/\x<ts.length):atI (ts.map zab) x=some (.tup [.int (zaA ts x 0),.int (zaA ts x 1),.int (zaA ts x 2),.int (zaA ts x 3)]):=zgW ht h.1 h.2
end S2
namespace S2
open PySem
open L2 hiding D
theorem zi3{t:List Int}{n:Int}{m:Nat}:(t++[n]).getD m 0=if m<t.length then t.getD m 0 else if m=t.length then n else 0:=by
 simp only [List.getD_eq_getElem?_getD]
 by_cases h:m<t.length
 ·rw [List.getElem?_append_left h,if_pos h]
 ·rw [List.getElem?_append_right (by omega),if_neg h]
  by_cases e:m=t.length
  ·subst e;simp
  ·rw [if_neg e,List.getElem?_eq_none (by simp;omega)];rfl
def unI:D->Int | .int i=>i | _=>0
theorem ziA{t:List Int}:(t.map D.int).map unI=t:=by
 induction t with
 | nil=>rfl
 | cons a t ih=>simp only [List.map_cons,ih];rfl
theorem znx{ts:Z2}(ht:TOk ts){d:D}(h:d∈zbw (ts.map zab)):∃n:Nat,n<ts.length/\d=.tup [.int n,.tup [.int (zaA ts n 0),.int (zaA ts n 1),.int (zaA ts n 2),.int (zaA ts n 3)]]:=by
 obtain ⟨k,hk⟩:=List.getElem?_of_mem h;obtain ⟨y,e1,rfl⟩:=zdi hk
 have hl:k<ts.length:=by
  have:=(List.getElem?_eq_some_iff.mp e1).1;simpa using this
 refine ⟨k,hl,?_⟩;have:=ziB ht (x:=(k:Int)) ⟨by omega,by omega⟩;rw [zba,e1] at this;rw [Option.some.inj this]
section
variable{ts:Z2}{c:Nat}{S:Sto}{s1 s3 s4:Option (Bool×D)}
end
end S2
namespace S2
open PySem
open L2 hiding D
def ztV:D->List D | .tup l=>l | _=>[]
end S2
namespace S2
open PySem
open L2 hiding D
end S2
namespace S2
open PySem
open L2 hiding D
def zuW(und:Str->Str->Bool)(C:Str)(i j:Nat):Fo->Fo
 | .ex c ρ' S'=>if und c C&&decide (i<ρ'.length) then .nx ((ρ'.set j (some (false,.exc c))).set i none) S' else .bad
 | o=>o
section
variable{ρ:Env}{S:Sto}{f g:Fe}{a:Fs}
@[simp] theorem zvA{und:Str->Str->Bool}{C:Str}{i j:Nat}:zqC und C i j a ρ S=zuW und C i j (a ρ S):=(rfl)
@[simp] theorem zwy{und:Str->Str->Bool}{C:Str}{i j:Nat}:zuW und C i j (.nx ρ S)=.nx ρ S:=(rfl)
@[simp] theorem zwx{und:Str->Str->Bool}{C c:Str}{i j:Nat}:zuW und C i j (.ex c ρ S)=if und c C&&decide (i<ρ.length) then .nx ((ρ.set j (some (false,.exc c))).set i none) S else .bad:=(rfl)
@[simp] theorem zxR{w:Str->Str->Option Bool}{C c:Str}:zls w C (.exc c)=(w c C).map .bl:=(rfl)
@[simp] theorem zvS{c:Str}:zcN (.exc c)=false:=(rfl)
@[simp] theorem zvR{l:List D}:zcN (.lst l)=false:=(rfl)
@[simp] theorem zvW{l:List D}{j:Int}:zjL (.lst l) (.int j)=if decide (0<=j/\j<=1000/\l.length<=1000) then some (.lst (List.replicate j.toNat l).flatten) else none:=(rfl)
end
abbrev Gf:=Nat->Nat->Option Int
def ov(g h:Gf):Gf:=fun i j=>(h i j).or (g i j)
def un(g h:Gf):Gf:=fun i j=>if (h i j).isSome then none else g i j
end S2
namespace S2
open PySem
open L2 hiding D
theorem zft{r c:Nat}{g h:Z1}(e:∀i j,i<r->j<c->g i j=h i j):flr r c g=flr r c h:=by
 unfold flr zce zeJ zc4;congr 1;apply List.map_congr_left;intro i hi;congr 1;apply List.map_congr_left;intro j hj;rw [e i j (List.mem_range.mp hi) (List.mem_range.mp hj)]
end S2
namespace S2
open PySem
open L2 hiding D
end S2
namespace S2
open PySem
open L2 hiding D
def zxl(c f:Str):Out D->Out D | .ok d S=>(match zi7 c f d S with | some r=>.ok r S | none=>.bad) | .exc c S=>.exc c S | .bad=>.bad
def ziZ(G:List D->Sto->Out D)(d:D):Out (List D)->Out D | .ok ds S=>G (d::ds) S | .exc c S=>.exc c S | .bad=>.bad
def zsy(c m:Str)(G:List D->Sto->Out D)(fs:List Fe)(ρ:Env):Out D->Out D | .ok d S=>if zdb c m d S then ziZ G d (zan fs ρ S) else .bad | .exc c S=>.exc c S | .bad=>.bad
def ztr(n:Nat):Out D->Out D | .ok r S=>(match r with | .non=>.ok (.ref n) S | _=>.bad) | .exc c S=>.exc c S | .bad=>.bad
def kMk(c:Str)(dds:List D)(G:List D->Sto->Out D):Out (List D)->Out D | .ok ds S=>ztr S.length (G (.ref S.length::(ds++dds)) (S++[⟨c,[]⟩])) | .exc c S=>.exc c S | .bad=>.bad
def znd(c f:Str)(dk:D):Out D->Out D | .ok d S=>(match ziW dk,zgR c f d S with | some k,some (_,_,ds)=>.ok (.bl (zbq k ds).isNone) S | _,_=>.bad) | .exc c S=>.exc c S | .bad=>.bad
def zxg(c f:Str)(fo:Fe)(ρ:Env):Out D->Out D | .ok d S=>znd c f d (fo ρ S) | .exc c S=>.exc c S | .bad=>.bad
def zxj(c f:Str)(o:Option NK):Out D->Out D | .ok d S=>(match o,zgR c f d S with | some k,some (_,_,ds)=>(match zbq k ds with | some r=>.ok r S | none=>.bad) | _,_=>.bad) | .exc c S=>.exc c S | .bad=>.bad
section
variable{ρ:Env}{S:Sto}{f g h k:Fe}
@[simp] theorem zwb{c x:Str}:zfJ c x f ρ S=zxl c x (f ρ S):=by unfold zfJ;cases f ρ S<;>rfl
@[simp] theorem zyR{c x:Str}{d:D}:zxl c x (.ok d S)=(match zi7 c x d S with | some r=>.ok r S | none=>.bad):=(rfl)
@[simp] theorem ztP{c m:Str}{G:List D->Sto->Out D}{fs:List Fe}:zbA c m G f fs ρ S=zsy c m G fs ρ (f ρ S):=by
 unfold zbA
 cases f ρ S with
 | ok d S1 =>
  show (if zdb c m d S1 then (zan fs ρ S1).bind fun ds S2=>G (d::ds) S2 else .bad)=(if zdb c m d S1 then ziZ G d (zan fs ρ S1) else .bad)
  cases zan fs ρ S1<;>rfl
 | exc c S=>rfl
 | bad=>rfl
@[simp] theorem zwQ{c m:Str}{G:List D->Sto->Out D}{fs:List Fe}{d:D}:zsy c m G fs ρ (.ok d S)=if zdb c m d S then ziZ G d (zan fs ρ S) else .bad:=(rfl)
@[simp] theorem zuN{G:List D->Sto->Out D}{d:D}{ds:List D}:ziZ G d (.ok ds S)=G (d::ds) S:=(rfl)
@[simp] theorem zx1{c:Str}{dds:List D}{G:List D->Sto->Out D}{fs:List Fe}:eMk c dds G fs ρ S=kMk c dds G (zan fs ρ S):=by
 unfold eMk
 cases zan fs ρ S with
 | ok ds S1 =>
  show ((G (.ref S1.length::(ds++dds)) (S1++[⟨c,[]⟩])).bind fun r S2=>match r with | .non=>.ok (.ref S1.length) S2 | _=>.bad)=ztr S1.length (G (.ref S1.length::(ds++dds)) (S1++[⟨c,[]⟩]))
  cases G (.ref S1.length::(ds++dds)) (S1++[⟨c,[]⟩])<;>rfl
 | exc c S=>rfl
 | bad=>rfl
@[simp] theorem zzr{c:Str}{dds:List D}{G:List D->Sto->Out D}{ds:List D}:kMk c dds G (.ok ds S)=ztr S.length (G (.ref S.length::(ds++dds)) (S++[⟨c,[]⟩])):=(rfl)
@[simp] theorem zyG{n:Nat}:ztr n (.ok .non S)=.ok (.ref n) S:=(rfl)
@[simp] theorem zv8{c x:Str}:zop c x f g ρ S=zxg c x g ρ (f ρ S):=by
 unfold zop
 cases f ρ S with
 | ok d S1 =>
  show ((g ρ S1).bind fun d' S2=>match ziW d,zgR c x d' S2 with | some k,some (_,_,ds)=>.ok (.bl (zbq k ds).isNone) S2 | _,_=>.bad)=znd c x d (g ρ S1)
  cases g ρ S1<;>rfl
 | exc c S=>rfl
 | bad=>rfl
@[simp] theorem zyE{c x:Str}{d:D}:zxg c x g ρ (.ok d S)=znd c x d (g ρ S):=(rfl)
@[simp] theorem zwP{c x:Str}{dk d:D}:znd c x dk (.ok d S)=(match ziW dk,zgR c x d S with | some k,some (_,_,ds)=>.ok (.bl (zbq k ds).isNone) S | _,_=>.bad):=(rfl)
@[simp] theorem zwa{c x:Str}{i:Nat}:zjX c x f i ρ S=zxj c x (zkd ρ i) (f ρ S):=by unfold zjX;cases f ρ S<;>rfl
@[simp] theorem zyN{c x:Str}{d:D}{o:Option NK}:zxj c x o (.ok d S)=(match o,zgR c x d S with | some k,some (_,_,ds)=>(match zbq k ds with | some r=>.ok r S | none=>.bad) | _,_=>.bad):=(rfl)
end
def wOb(T Gd Sz:D)(b:Bool)(ds:List (D×D)):Ob:=⟨"Ways",[("tiles",false,T),("ground",false,Gd),("size",false,Sz),("is_round",false,.bl b),("known",true,.dic ds)]⟩
theorem zsc(o:Option Int):oDn o=oD o:=by cases o<;>rfl
structure WAt(S:Sto)(n:Nat)(ts:Z2)(gr:Z4)(r c:Nat)(b:Bool)(ds:List (D×D)):Prop where
 at_:S[n]?=some (wOb (.tup (ts.map zab)) (.lst (gr.map oD)) (.tup [.int r,.int c]) b ds)
section
variable{S:Sto}{n:Nat}{ts:Z2}{gr:Z4}{r c:Nat}{b:Bool}{ds:List (D×D)}
theorem WAt.tiles(h:WAt S n ts gr r c b ds):zi7 "Ways" "tiles" (.ref n) S=some (.tup (ts.map zab)):=by
 unfold zi7;dsimp only;rw [h.at_];rfl
theorem WAt.ground(h:WAt S n ts gr r c b ds):zi7 "Ways" "ground" (.ref n) S=some (.lst (gr.map oD)):=by
 unfold zi7;dsimp only;rw [h.at_];rfl
theorem WAt.size(h:WAt S n ts gr r c b ds):zi7 "Ways" "size" (.ref n) S=some (.tup [.int r,.int c]):=by
 unfold zi7;dsimp only;rw [h.at_];rfl
theorem WAt.round(h:WAt S n ts gr r c b ds):zi7 "Ways" "is_round" (.ref n) S=some (.bl b):=by
 unfold zi7;dsimp only;rw [h.at_];rfl
theorem WAt.known(h:WAt S n ts gr r c b ds):zgR "Ways" "known" (.ref n) S=some (n,wOb (.tup (ts.map zab)) (.lst (gr.map oD)) (.tup [.int r,.int c]) b ds,ds):=by
 unfold zgR;dsimp only;rw [h.at_];rfl
theorem WAt.meth(h:WAt S n ts gr r c b ds)(m:Str)(hm:(m == "tiles")=false/\(m == "ground")=false/\(m == "size")=false/\(m == "is_round")=false/\(m == "known")=false):zdb "Ways" m (.ref n) S=true:=by
 unfold zdb;dsimp only;rw [h.at_];obtain ⟨h1,h2,h3,h4,h5⟩:=hm;simp [wOb,List.lookup_cons,h1,h2,h3,h4,h5]
theorem WAt.len(h:WAt S n ts gr r c b ds):n<S.length:=(List.getElem?_eq_some_iff.mp h.at_).1
theorem WAt.put(h:WAt S n ts gr r c b ds)(ds':List (D×D)):WAt (S.set n (wOb (.tup (ts.map zab)) (.lst (gr.map oD)) (.tup [.int r,.int c]) b ds')) n ts gr r c b ds':=⟨by rw [List.getElem?_set_self h.len]⟩
def zaM(s:Z4):D:=.tup (s.map oD)
theorem zmv{k:Int}{s:Z4}:ziW (.tup [.int k,zaM s])=some (k,s):=by
 have:zaM s=.tup (s.map oDn):=by unfold zaM;rw [show oDn=oD from funext zsc]
 rw [this];exact zd0 (k,s)
theorem zi9{α:Type}{a:α}:∀m:Nat,(List.replicate m [a]).flatten=List.replicate m a
 | 0=>rfl
 | m+1=>by rw [List.replicate_succ,List.flatten_cons,zi9 m,List.replicate_succ];rfl
theorem zcs(h:WAt S n ts gr r c b ds)(hc:c<=100):zaS [.ref n] S=.ok (zaM (List.replicate (c+2) none)) S:=by
 have e:zfO (.tup [.non]) (.int ((c:Int)+2))=some (zaM (List.replicate (c+2) none)):=by
  show (if _ then _ else _)=_;rw [if_pos (by simp;omega),show ((c:Int)+2).toNat=c+2 by omega,zi9];simp [zaM,oD]
 simp [zaS,zav,zbK,h.size,e]
theorem zeA{k:Nat}(h:WAt S n ts gr r c b ds)(hc:1<=c):zaT [.ref n,.int k] S=.ok (.bl (decide ((k+1) % c=0))) S:=by
 have e:(((k:Int)+1) % (c:Int))=(((k+1) % c:Nat):Int):=by rw [Int.natCast_emod];rfl
 have e3:(((k:Int)+1) % (c:Int)=0)=((k+1) % c=0):=propext (by rw [e];omega);simp [zaT,zav,zcb,h.size,show 0<c from hc,e3]
def crO(ts:Z2)(c k:Nat)(s:Z4)(x:Int):Option Int:=if k % c=0 then some (zaA ts x 3) else (s.getLastD none)
def zgS(ts:Z2)(L c:Nat)(b:Bool)(k:Nat)(s:Z4)(x:Int):List (Option Int) :=
 (if (k+1) % c=0 then none else some (zaA ts x 1))::((s.drop 2).dropLast++[if L<=k+c then none else some (zaA ts x 2),if b&&!decide ((k+1) % c=0) then crO ts c k s x else none])
def tl(ts:Z2)(x:Int):D:=.tup [.int (zaA ts x 0),.int (zaA ts x 1),.int (zaA ts x 2),.int (zaA ts x 3)]
def okO:Option Int->Int->Bool | none,_=>true | some a,y=>decide (a=y)
def zjd(ts:Z2)(c:Nat)(b:Bool)(k:Nat)(s:Z4)(x:Int):Bool :=
 okO (s.getD 0 none) (zaA ts x 3)&&okO (s.getD 1 none) (zaA ts x 0)&&(!b||!decide ((k+1) % c=0)||decide (some (zaA ts x 1)=crO ts c k s x))
theorem zha{o:Option Int}{y:Int}:ze7 [oD o,.int y] S=.ok (.bl (okO o y)) S:=by
 cases o<;>simp [ze7,zav,zij,oD,okO]
theorem zlj{s:Z4}(h:s≠[]):atI (s.map oD) (-1)=some (oD (s.getLastD none)):=by
 have hl:0<s.length:=List.length_pos_iff.mpr h;unfold atI ixN;rw [List.length_map,if_neg (by omega),if_pos (by omega)];show (s.map oD)[(-1+(s.length:Int)).toNat]?=_;rw [show (-1+(s.length:Int)).toNat=s.length-1 by omega,List.getElem?_map,List.getLastD_eq_getLast?,List.getLast?_eq_getElem?,List.getElem?_eq_getElem (by omega)];rfl
theorem zc3{k:Nat}{s:Z4}{x:Int}(h:WAt S n ts gr r c b ds)(hc:1<=c)(hs:s.length=c+2):zar [.ref n,.int k,zaM s,tl ts x] S=.ok (oD (crO ts c k s x)) S:=by
 have e:((k:Int) % (c:Int))=((k % c:Nat):Int):=by rw [Int.natCast_emod]
 have e3:((k:Int) % (c:Int)=0)=(k % c=0):=propext (by rw [e];omega);have el:=zlj (s:=s) (by rintro rfl;simp at hs)
 by_cases z:k % c=0
 ·simp [zar,zav,za3,h.size,show 0<c from hc,e3,z,crO,tl,oD]
 ·simp [zar,zav,za3,h.size,show 0<c from hc,e3,z,crO,zaM,el]
theorem zqg{α:Type}{l:List α}(h:3<=l.length):zev l (some 2) (some (-1))=(l.drop 2).dropLast:=by
 unfold zev
 have e1:HT.sIx l.length 0 (some 2)=2:=by
  unfold HT.sIx;simp;omega
 have e2:HT.sIx l.length l.length (some (-1))=l.length-1:=by
  unfold HT.sIx;simp;omega
 rw [e1,e2,List.dropLast_eq_take,List.length_drop];congr 1
noncomputable def sb6:Fe:=eIf (zad 4) (zah .non) (zaf ixD (zai 3) (zah (.int 1)))
noncomputable def sb7:Fe:=eIf (zad 5) (zah .non) (zaf ixD (zai 3) (zah (.int 2)))
noncomputable def sb8:Fe:=eIf (zfK (zfJ "Ways" "is_round" (zad 0)) (eUn zeL (zad 4))) (zbA "Ways" "colour_round" zar (zad 0) [(zad 1),(zad 2),(zad 3)]) (zah .non)
noncomputable def sbF:Fs:=(zag (sFz [1] (zaW 4 false (zbA "Ways" "ends_row" zaT (zad 0) [(zad 1)])))
  (zag (sFz [] (zaW 5 false (zaf geD (zaf zb5 (zai 1) (zaf ixD (zfJ "Ways" "size" (zad 0)) (zah (.int 1)))) (zaE zem [(zfJ "Ways" "ground" (zad 0))]))))
  (zag (sFz [4] (zaW 6 false sb6)) (zag (sFz [5] (zaW 7 false sb7)) (zag (sFz [4,1,2,3] (zaW 8 false sb8))
  (zag (sFz [6,7,8] (zbp (zaf zb5 (zaf zb5 (zcv [(zad 6)]) (eSl (zai 2) (some (zah (.int 2))) (some (eUn zkb (zah (.int 1)))))) (zcv [(zad 7),(zad 8)])))) sNx))))))
theorem zrx:zbz=sbF:=rfl
theorem zxs{i j:Nat}{bb:Bool}{ρ:Env}{l:List D}{q:Int}{d:D}{S:Sto}(h1:ρ[i]?=some (some (false,.bl bb)))(h2:ρ[j]?=some (some (false,.tup l)))(h3:atI l q=some d):eIf (zad i) (zah .non) (zaf ixD (zai j) (zah (.int q))) ρ S=.ok (if bb then .non else d) S:=by
 cases bb<;>simp [h1,h2,h3]
theorem zy4{k:Nat}{s:Z4}{x:Int}{bb:Bool}{ρ:Env}(h:WAt S n ts gr r c b ds)(hc:1<=c)(hs:s.length=c+2)(h0:ρ[0]?=some (some (false,.ref n)))(h1:ρ[1]?=some (some (false,.int k)))(h2:ρ[2]?=some (some (false,zaM s)))(h3:ρ[3]?=some (some (false,tl ts x)))(h4:ρ[4]?=some (some (false,.bl bb))) :
  sb8 ρ S=.ok (if b&&!bb then oD (crO ts c k s x) else .non) S:=by
 have e2:=zc3 (k:=k) (s:=s) (x:=x) h hc hs;have m2:=h.meth "colour_round" (by decide +kernel);generalize tl ts x=tt at *;generalize zaM s=sd at *;cases b
 ·simp [sb8,h0,h.round]
 ·cases bb<;>simp [sb8,h0,h1,h2,h3,h4,h.round,m2,e2]
theorem ze0{k:Nat}{s:Z4}{x:Int}(h:WAt S n ts gr r c b ds)(hc:1<=c)(hc2:c<=100)(hs:s.length=c+2):za8 [.ref n,.int k,zaM s,tl ts x] S=.ok (zaM (zgS ts gr.length c b k s x)) S:=by
 have e1:=zeA (k:=k) h hc;have m1:=h.meth "ends_row" (by decide +kernel);have eg:((gr.length:Int)<=(k:Int)+(c:Int))=(gr.length<=k+c):=propext (by omega)
 have ec:zev (s.map oD) (some 2) (some (-1))=((s.drop 2).dropLast).map oD:=by
  rw [zqg (by rw [List.length_map];omega),List.map_dropLast,List.map_drop]
 have hl:((s.drop 2).dropLast).length<=100:=by rw [List.length_dropLast,List.length_drop,hs];omega
 have E6:=fun (ρ:Env) (h4:ρ[4]?=some (some (false,.bl (decide ((k+1) % c=0))))) (h3:ρ[3]?=some (some (false,tl ts x)))=>(show sb6 ρ S=_ from zxs (S:=S) (i:=4) (j:=3) (q:=1) (d:=.int (zaA ts x 1)) h4 h3 rfl)
 have E7:=fun (ρ:Env) (h4:ρ[5]?=some (some (false,.bl (decide (gr.length<=k+c))))) (h3:ρ[3]?=some (some (false,tl ts x)))=>(show sb7 ρ S=_ from zxs (S:=S) (i:=5) (j:=3) (q:=2) (d:=.int (zaA ts x 2)) h4 h3 rfl)
 have E8:=fun (ρ:Env)=>zy4 (k:=k) (s:=s) (x:=x) (bb:=decide ((k+1) % c=0)) (ρ:=ρ) h hc hs
 have ef:zaM (zgS ts gr.length c b k s x)=.tup ([if decide ((k+1) % c=0) then .non else .int (zaA ts x 1)]++((s.drop 2).dropLast).map oD++[if decide (gr.length<=k+c) then .non else .int (zaA ts x 2),if b&&!decide ((k+1) % c=0) then oD (crO ts c k s x) else .non]):=by
  unfold zgS zaM
  by_cases z1:(k+1) % c=0<;>by_cases z2:gr.length<=k+c<;>cases b<;>simp [z1,z2,oD]
 rw [ef];clear ef;have hsd:zaM s=.tup (s.map oD):=rfl;rw [hsd] at E8 ⊢;generalize oD (crO ts c k s x)=cr at *;generalize ((s.drop 2).dropLast)=M at ec hl ⊢;generalize s.map oD=sd at *;generalize tl ts x=tt at *;generalize (if decide ((k+1) % c=0) then D.non else .int (zaA ts x 1))=d6 at *;generalize (if decide (gr.length<=k+c) then D.non else .int (zaA ts x 2))=d7 at *;generalize (if b&&!decide ((k+1) % c=0) then cr else .non)=d8 at *
 have l1:1+M.length<=100000:=by omega
 have l2:M.length+1+2<=100000:=by omega
 have l3:M.length+1+1+1<=100000:=by omega
 simp only [za8,zav,zrx];simp [sbF,h.size,h.ground,m1,e1,eg,E6,E7,E8,ec,l1,l2,l3]
end
end S2
namespace S2
open PySem
open L2 hiding D
def zh3(ts:Z2):Option Int->List Int | none=>(List.range ts.length).map fun (i:Nat)=>(i:Int) | some x=>[x]
theorem zpD{ts:Z2}{o:Option Int}(ho:∀x,o=some x->0<=x/\x<ts.length):∀x∈zh3 ts o,0<=x/\x<ts.length:=by
 intro x hx
 cases o with
 | none =>
  obtain ⟨i,hi,rfl⟩:=List.mem_map.mp hx;have:=List.mem_range.mp hi;omega
 | some y=>rw [List.mem_singleton.mp hx];exact ho y rfl
section
variable{S:Sto}{n:Nat}{ts:Z2}{gr:Z4}{r c:Nat}{b:Bool}{ds:List (D×D)}
theorem ze2{k:Nat}{o:Option Int}(h:WAt S n ts gr r c b ds)(ht:ts.length<=100)(hk:gr[k]?=some o)(ho:∀x,o=some x->0<=x/\x<ts.length):zaL [.ref n,.int k] S=.ok (.lst ((zh3 ts o).map D.int)) S:=by
 have e1:atI (gr.map oD) (k:Int)=some (oD o):=by rw [zba,List.getElem?_map,hk];rfl
 have e2:=zdA (ts:=ts.map zab) (o:=o) (S:=S) (fun x hx=>by simpa using ho x hx)
 cases o with
 | none =>
  have e3:lrD (.int (ts.length:Int))=some (.lst (((List.range ts.length).map fun (i:Nat)=>(i:Int)).map D.int)):=by
   show (if decide (0<=(ts.length:Int)/\(ts.length:Int)<=1000)=true then _ else none)=_;rw [if_pos (decide_eq_true ⟨by omega,by omega⟩),Int.toNat_natCast,List.map_map];rfl
  simp [zaL,zav,za9,h.ground,h.tiles,e1,oD,e3,zh3]
 | some x =>
  simp only [oD] at e2;simp [zaL,zav,za9,h.ground,h.tiles,e1,oD,e2,zh3]
theorem zmz{k:Nat}{s:Z4}{x:Int}(h:WAt S n ts gr r c b ds)(hc:1<=c)(hs:s.length=c+2):zcJ [.ref n,.int k,zaM s,tl ts x] S=.ok (.bl (zjd ts c b k s x)) S:=by
 have e1:=zeA (k:=k) h hc;have e2:=zc3 (k:=k) (s:=s) (x:=x) h hc hs;have m1:=h.meth "ends_row" (by decide +kernel);have m2:=h.meth "colour_round" (by decide +kernel);have m3:=h.meth "fits_round" (by decide +kernel);have tlE:tl ts x=.tup [.int (zaA ts x 0),.int (zaA ts x 1),.int (zaA ts x 2),.int (zaA ts x 3)]:=rfl
 have e3:zaR [.ref n,.int k,zaM s,tl ts x] S=.ok (.bl (!b||!decide ((k+1) % c=0)||decide (some (zaA ts x 1)=crO ts c k s x))) S:=by
  have eq:∀o:Option Int,eqD (.int (zaA ts x 1)) (oD o)=some (.bl (decide (some (zaA ts x 1)=o))):=by
   intro o
   cases o with
   | none=>rfl
   | some y=>simp [oD]
  rw [tlE] at e2 ⊢;generalize zaM s=sd at e2 ⊢;generalize crO ts c k s x=cr at e2 ⊢
  cases b with
  | false=>simp [zaR,zav,zbg,h.round]
  | true=>by_cases z:(k+1) % c=0<;>simp [zaR,zav,zbg,h.round,m1,m2,e1,e2,z,eq]
 have g0:(s.map oD)[0]?=some (oD (s.getD 0 none)):=by
  rw [List.getElem?_map,List.getD_eq_getElem?_getD,List.getElem?_eq_getElem (by omega)];rfl
 have g1:(s.map oD)[1]?=some (oD (s.getD 1 none)):=by
  rw [List.getElem?_map,List.getD_eq_getElem?_getD,List.getElem?_eq_getElem (by omega)];rfl
 have s0:=zha (S:=S) (o:=s.getD 0 none) (y:=zaA ts x 3);have s1:=zha (S:=S) (o:=s.getD 1 none) (y:=zaA ts x 0);unfold zjd;generalize (!b||!decide ((k+1) % c=0)||decide (some (zaA ts x 1)=crO ts c k s x))=rr at e3 ⊢;unfold zaM at e3 ⊢;generalize s.map oD=sd at e3 g0 g1 ⊢;generalize s.getD 0 none=q0 at g0 s0 ⊢;generalize s.getD 1 none=q1 at g1 s1 ⊢;rw [tlE] at e3 ⊢
 cases h0:okO q0 (zaA ts x 3)<;>cases h1:okO q1 (zaA ts x 0)<;>rw [h0] at s0<;>rw [h1] at s1 <;>
  simp [zcJ,zav,zdR,g0,g1,s0,s1,m3,e3]
def chD(p:Int×List (Option Int)):D:=.tup [.int p.1,zaM p.2]
def chs(ts:Z2)(gr:Z4)(c:Nat)(b:Bool)(k:Nat)(s:Z4):List (Int×List (Option Int)) :=
 ((zh3 ts (gr.getD k none)).filter (zjd ts c b k s)).map fun x=>(x,zgS ts gr.length c b k s x)
def chG(ts:Z2)(L c:Nat)(b:Bool)(k:Nat)(s:Z4):D->List D
 | .int x=>if zjd ts c b k s x then [chD (x,zgS ts L c b k s x)] else []
 | _=>[]
theorem zgJ{L:Nat}{k:Nat}{s:Z4}:∀l:List Int,(l.map D.int).flatMap (chG ts L c b k s)=((l.filter (zjd ts c b k s)).map fun x=>(x,zgS ts L c b k s x)).map chD
 | []=>rfl
 | x::l=>by
  rw [List.map_cons,List.flatMap_cons,zgJ l,List.filter_cons];show (if zjd ts c b k s x then [chD (x,zgS ts L c b k s x)] else [])++_=_
  cases zjd ts c b k s x<;>simp
theorem ze4{k:Nat}{s:Z4}(h:WAt S n ts gr r c b ds)(ht:TOk ts)(hk:k<gr.length)(hg:∀o∈gr,∀x,o=some x->0<=x/\x<ts.length)(hc:1<=c)(hc2:c<=100)(hs:s.length=c+2) :
  zbj [.ref n,.int k,zaM s] S=.ok (.lst ((chs ts gr c b k s).map chD)) S:=by
 have hk':gr[k]?=some (gr.getD k none):=by rw [List.getD_eq_getElem?_getD,List.getElem?_eq_getElem hk];rfl
 have ho:=hg _ (List.mem_of_getElem? hk');have e1:=ze2 h ht.le hk' ho;have m1:=h.meth "numbers_for" (by decide +kernel);have m2:=h.meth "fits" (by decide +kernel);have m3:=h.meth "seam_behind" (by decide +kernel);have hin:=zpD ho
 have hlen:(zh3 ts (gr.getD k none)).length<=100:=by
  cases gr.getD k none with
  | none=>simp only [zh3,List.length_map,List.length_range];exact ht.le
  | some x=>simp [zh3]
 unfold chs;generalize zh3 ts (gr.getD k none)=nums at e1 hin hlen ⊢
 have fl:((nums.map D.int).flatMap (chG ts gr.length c b k s)).length<=100:=by
  rw [zgJ,List.length_map,List.length_map];exact Nat.le_trans (List.length_filter_le _ _) hlen
 obtain ⟨x',e⟩:=zd6 (tg:=.one 4) (body:=za6) (S:=S) (fun L (x:Option (Bool×D)×Option (Bool×D))=>[some (false,.ref n),some (false,.int k),some (false,zaM s),some (true,.lst L),x.1,x.2]) (chG ts gr.length c b k s) 50000 (ds:=nums.map D.int) (by
  intro d hd L x hL;obtain ⟨y,hy,rfl⟩:=List.mem_map.mp hd;obtain ⟨y0,y1⟩:=hin y hy;have et:=zgW ht y0 y1;have et':atI (ts.map zab) y=some (tl ts y):=et;have ef:=zmz (k:=k) (s:=s) (x:=y) h hc hs;have eb:=ze0 (k:=k) (s:=s) (x:=y) h hc hc2 hs
  have hLs:L.length<=100000:=by omega
  refine ⟨_,(some (false,.int y),some (false,tl ts y)),rfl,?_⟩;show za6 [some (false,.ref n),some (false,.int k),some (false,zaM s),some (true,.lst L),some (false,.int y),x.2] S=.nx [some (false,.ref n),some (false,.int k),some (false,zaM s),some (true,.lst (L++(if zjd ts c b k s y then [chD (y,zgS ts gr.length c b k s y)] else []))),some (false,.int y),some (false,tl ts y)] S
  cases hf:zjd ts c b k s y with
  | true =>
   rw [hf] at ef;simp [za6,h.tiles,et',m2,ef,m3,eb,chD,hLs]
  | false =>
   rw [hf] at ef
   simp [za6,h.tiles,et',m2,ef]) [] (none,none) (by simp only [List.length_nil];omega)
 rw [zgJ] at e;simp only [List.nil_append] at e;generalize ((nums.filter (zjd ts c b k s)).map fun x=>(x,zgS ts gr.length c b k s x)).map chD=res at e ⊢;simp [zbj,zav,zcu,m1,e1,e]
end
end S2
namespace S2
open PySem
open L2 hiding D
def ziY(c x:Str)(i:Nat)(ρ:Env)(r:D):Out D->Fo
 | .bad=>.bad
 | .exc c S2=>.ex c ρ S2
 | .ok d S2=>(match zkd ρ i,zgR c x d S2 with
   | some k,some (n,ob,ds)=>if (zbq k ds).isNone&&decide (ds.length<=1000000)&&zf3 ob then .nx ρ (S2.set n (ob.put x true (.dic (ds++[(nkD k,r)])))) else .bad
   | _,_=>.bad)
def zpQ(c x:Str)(f:Fe)(i:Nat)(ρ:Env):Out D->Fo
 | .bad=>.bad
 | .exc c S2=>.ex c ρ S2
 | .ok r S1=>ziY c x i ρ r (f ρ S1)
@[simp] theorem ztI{c x:Str}{f g:Fe}{i:Nat}{ρ:Env}{S:Sto}:zjD c x f i g ρ S=zpQ c x f i ρ (g ρ S):=by
 unfold zjD zpQ
 cases g ρ S with
 | ok r S1=>dsimp only;unfold ziY;cases f ρ S1<;>rfl
 | exc c S=>rfl
 | bad=>rfl
@[simp] theorem zwO{c x:Str}{f:Fe}{i:Nat}{ρ:Env}{S:Sto}{r:D}:zpQ c x f i ρ (.ok r S)=ziY c x i ρ r (f ρ S):=(rfl)
theorem zpN{c x:Str}{i n:Nat}{ρ:Env}{S:Sto}{r d:D}{k:NK}{ob:Ob}{ds:List (D×D)}(hk:zkd ρ i=some k)(hd:zgR c x d S=some (n,ob,ds))(h1:zbq k ds=none)(h2:ds.length<=1000000)(h3:zf3 ob=true):ziY c x i ρ r (.ok d S)=.nx ρ (S.set n (ob.put x true (.dic (ds++[(nkD k,r)])))):=by
 show (match zkd ρ i,zgR c x d S with | some k,some (n,ob,ds)=>_ | _,_=>_)=_;rw [hk,hd];show (if _ then _ else _)=_;rw [if_pos];rw [h1,h3,decide_eq_true h2];rfl
def zbt(ts:Z2)(gr:Z4)(c:Nat)(b:Bool):Nat->Nat->List (Option Int)->Nat
 | 0,_,_=>1
 | m+1,k,s=>((chs ts gr c b k s).map fun p=>zbt ts gr c b m (k+1) p.2).sum
def zaN(q:Nat):Nat->Nat
 | 0=>0
 | m+1=>1+q*zaN q m
theorem zec{k:NK}{q d:D}:∀ds:List (D×D),zbq k (ds++[(q,d)])=(zbq k ds).or (if ziW q=some k then some d else none)
 | []=>by show (if _ then _ else _)=_;simp [zbq]
 | (q',d')::ds=>by
  show (if ziW q'=some k then some d' else zbq k (ds++[(q,d)]))=_;rw [zec ds];show _=(if ziW q'=some k then some d' else zbq k ds).or _
  split<;>simp
def znO(ts:Z2)(gr:Z4)(c:Nat)(b:Bool)(ds:List (D×D)):Prop:=∀(k:Nat) s d,zbq ((k:Int),s) ds=some d->d=.int (zbt ts gr c b (gr.length-k) k s)
theorem zeO{S:Sto}{n:Nat}{ob:Ob}(h:S[n]?=some ob):S.set n ob=S:=by
 obtain ⟨hn,e⟩:=List.getElem?_eq_some_iff.mp h;apply List.ext_getElem?;intro i
 by_cases z:n=i
 ·subst z;rw [List.getElem?_set_self hn,h]
 ·rw [List.getElem?_set_ne z]
theorem zis{ts:Z2}{gr:Z4}{c:Nat}{b:Bool}{k:Nat}{s:Z4}(h1:1<=ts.length):(chs ts gr c b k s).length<=ts.length:=by
 unfold chs;rw [List.length_map];refine Nat.le_trans (List.length_filter_le _ _) ?_
 cases gr.getD k none with
 | none=>simp [zh3]
 | some x=>simpa [zh3] using h1
theorem zl7{ts:Z2}{L c:Nat}{b:Bool}{k:Nat}{s:Z4}{x:Int}(hc:1<=c)(hs:s.length=c+2):(zgS ts L c b k s x).length=c+2:=by
 unfold zgS;rw [List.length_cons,List.length_append,List.length_dropLast,List.length_drop,hs];simp only [List.length_cons,List.length_nil];omega
theorem zgI{ts:Z2}{gr:Z4}{c:Nat}{b:Bool}{k:Nat}{s:Z4}(hc:1<=c)(hs:s.length=c+2):∀p∈chs ts gr c b k s,p.2.length=c+2:=by
 intro p hp;obtain ⟨x,_,rfl⟩:=List.mem_map.mp hp;exact zl7 hc hs
theorem zke{α:Type}{f:α->Nat}{m:Nat}:∀{l:List α},(∀x∈l,f x<=m)->(l.map f).sum<=l.length*m
 | [],_=>by simp
 | x::l,h=>by
  have h1:=h x List.mem_cons_self;have h2:=zke (l:=l) fun y hy=>h y (List.mem_cons_of_mem _ hy)
  rw [List.map_cons,List.sum_cons,List.length_cons,Nat.add_mul];omega
theorem zkf{ts:Z2}{gr:Z4}{c:Nat}{b:Bool}(h1:1<=ts.length):∀m k s,zbt ts gr c b m k s<=ts.length ^ m
 | 0,_,_=>by simp [zbt]
 | m+1,k,s=>by
  unfold zbt;refine Nat.le_trans (zke fun p _=>zkf h1 m (k+1) p.2) ?_;rw [Nat.pow_succ,Nat.mul_comm];exact Nat.mul_le_mul_left _ (zis h1)
structure CfOk(n:Nat)(ts:Z2)(gr:Z4)(r c:Nat)(b:Bool)(m:Nat)(rc:List D->Sto->Out D):Prop where
 run:∀(S:Sto) (ds:List (D×D)) (k:Nat) (s:Z4),WAt S n ts gr r c b ds->znO ts gr c b ds->k+m=gr.length->s.length=c+2->ds.length+zaN ts.length m<=1000000 →
  ∃ds',rc [.ref n,.int k,zaM s] S=.ok (.int (zbt ts gr c b m k s)) (S.set n (wOb (.tup (ts.map zab)) (.lst (gr.map oD)) (.tup [.int r,.int c]) b ds'))/\znO ts gr c b ds'/\ds'.length<=ds.length+zaN ts.length m/\∀k' s',k'<k->zbq (((k':Nat):Int),s') ds'=zbq (((k':Nat):Int),s') ds
section
variable{n:Nat}{ts:Z2}{gr:Z4}{r c:Nat}{b:Bool}
theorem zjk{m k:Nat}{rc:List D->Sto->Out D}(C:CfOk n ts gr r c b m rc)(hk:k+1+m=gr.length):∀(l:List (Int×List (Option Int))) (S:Sto) (ds:List (D×D)),(∀p∈l,p.2.length=c+2)->WAt S n ts gr r c b ds->znO ts gr c b ds->ds.length+l.length*zaN ts.length m<=1000000 →
  ∃ds',zbh (.one 0) zfI (zbA "Ways" "count_from" rc (zad 1) [(zaf zb5 (zai 2) (zah (.int 1))),(zaf ixD (zai 0) (zah (.int 1)))]) [none,some (false,.ref n),some (false,.int k)] (l.map chD) S
   = .ok (l.map fun p=>.int (zbt ts gr c b m (k+1) p.2)) (S.set n (wOb (.tup (ts.map zab)) (.lst (gr.map oD)) (.tup [.int r,.int c]) b ds'))/\znO ts gr c b ds'/\ds'.length<=ds.length+l.length*zaN ts.length m/\∀k' s',k'<k+1->zbq (((k':Nat):Int),s') ds'=zbq (((k':Nat):Int),s') ds
 | [],S,ds,_,W,M,_=>⟨ds,by rw [zeO W.at_];rfl,M,by simp,fun _ _ _=>rfl⟩
 | p::l,S,ds,hl,W,M,hz=>by
  rw [List.length_cons,Nat.add_mul] at hz;obtain ⟨ds1,e1,M1,z1,u1⟩:=C.run S ds (k+1) p.2 W M hk (hl p List.mem_cons_self) (by omega);obtain ⟨ds2,e2,M2,z2,u2⟩:=zjk C hk l _ ds1 (fun q hq=>hl q (List.mem_cons_of_mem _ hq)) (W.put ds1) M1 (by omega);refine ⟨ds2,?_,M2,by rw [List.length_cons,Nat.add_mul];omega,fun k' s' hk'=>(u2 k' s' hk').trans (u1 k' s' hk')⟩;rw [List.set_set] at e2;have mo:=W.meth "count_from" (by decide +kernel);have e1':rc [.ref n,.int ((k:Int)+1),zaM p.2] S=_:=e1;unfold zbh;rw [List.map_cons];dsimp only;generalize hob:wOb (.tup (ts.map zab)) (.lst (gr.map oD)) (.tup [.int r,.int c]) b ds1=ob1 at *;simp [chD,mo,e1',e2]
theorem zqj{f:Nat}:CfOk n ts gr r c b 0 (zmE 4 false zal (f+1)) where
 run:=fun S ds k s W M hk hs hz=>by
  refine ⟨ds,?_,M,Nat.le_add_right _ _,fun _ _ _=>rfl⟩;rw [zeO W.at_]
  have hk':k=gr.length:=by omega
  subst hk';show zbR 4 false (zal _) _ _=_;simp [zav,zal,W.ground,zbt]
theorem zqk{m f:Nat}(C:CfOk n ts gr r c b m (zmE 4 false zal f))(ht:TOk ts)(h1:1<=ts.length)(hg:∀o∈gr,∀x,o=some x->0<=x/\x<ts.length)(hc:1<=c)(hc2:c<=100)(hp:ts.length ^ m<=1000000):CfOk n ts gr r c b (m+1) (zmE 4 false zal (f+1)) where
 run:=fun S ds k s W M hk hs hz=>by
  have hkl:k<gr.length:=by omega
  have hne:decide ((k:Int)=(gr.length:Int))=false:=decide_eq_false (by omega);have ek:=zmv (k:=(k:Int)) (s:=s);show ∃ds',zbR 4 false (zal _) _ _=_/\_;generalize zmE 4 false zal f=rc at C
  cases hd:zbq ((k:Int),s) ds with
  | some d =>
   have hd':=M k s d hd;rw [show gr.length-k=m+1 by omega] at hd';subst hd';refine ⟨ds,?_,M,Nat.le_add_right _ _,fun _ _ _=>rfl⟩;rw [zeO W.at_];generalize zaM s=sd at ek;generalize zbt ts gr c b (m+1) k s=cc at hd;simp [zav,zal,W.ground,W.known,hne,ek,hd,zkd]
  | none =>
   have hcl:=zis (gr:=gr) (c:=c) (b:=b) (k:=k) (s:=s) h1;have hmul:(chs ts gr c b k s).length*zaN ts.length m<=ts.length*zaN ts.length m:=Nat.mul_le_mul_right _ hcl;have hz':ds.length+(1+ts.length*zaN ts.length m)<=1000000:=hz;have ech:=ze4 (k:=k) (s:=s) W ht hkl hg hc hc2 hs;obtain ⟨ds1,e1,M1,z1,u1⟩:=zjk C (k:=k) (by omega) (chs ts gr c b k s) S ds (zgI hc hs) W M (by omega);have hd1:zbq ((k:Int),s) ds1=none:=(u1 k s (Nat.lt_succ_self k)).trans hd
   have hsum:zq0 [.lst ((chs ts gr c b k s).map fun p=>D.int (zbt ts gr c b m (k+1) p.2:Nat))]=some (.int (zbt ts gr c b (m+1) k s:Nat)):=by
    have ei:∀l:List (Int×List (Option Int)),zdE (l.map fun p=>D.int (zbt ts gr c b m (k+1) p.2:Nat))=some (l.map fun p=>((zbt ts gr c b m (k+1) p.2:Nat):Int)):=by
     intro l
     induction l with
     | nil=>rfl
     | cons p l ih=>rw [List.map_cons,List.map_cons];simp [zdE,ih]
    have es:∀l:List (Int×List (Option Int)),(l.map fun p=>((zbt ts gr c b m (k+1) p.2:Nat):Int)).sum=(((l.map fun p=>zbt ts gr c b m (k+1) p.2).sum:Nat):Int):=by
     intro l
     induction l with
     | nil=>rfl
     | cons p l ih=>rw [List.map_cons,List.map_cons,List.sum_cons,List.sum_cons,ih,Int.natCast_add]
    show (zdE _).bind _=_;rw [ei];show (if _ then some (D.int _) else none)=_;rw [if_pos,es]
    ·rfl
    ·rw [Bool.and_eq_true];refine ⟨decide_eq_true (by rw [List.length_map];exact Nat.le_trans hcl (Nat.le_trans ht.le (by decide))),?_⟩;rw [List.all_eq_true];intro x hx;obtain ⟨p,_,rfl⟩:=List.mem_map.mp hx;have:=zkf (gr:=gr) (c:=c) (b:=b) h1 m (k+1) p.2;exact decide_eq_true (by omega)
   have W1:=W.put ds1;have mo:=W.meth "choices" (by decide +kernel);have hlen:(chs ts gr c b k s).length<=100000:=Nat.le_trans hcl (Nat.le_trans ht.le (by decide))
   have hnd:zf3 (wOb (.tup (ts.map zab)) (.lst (gr.map oD)) (.tup [.int r,.int c]) b ds1)=true:=by
    unfold zf3;show decide ((["tiles","ground","size","is_round","known"]:List Str).Nodup)=true;decide +kernel
   have hput:(wOb (.tup (ts.map zab)) (.lst (gr.map oD)) (.tup [.int r,.int c]) b ds1).put "known" true (.dic (ds1++[(nkD ((k:Int),s),.int (zbt ts gr c b (m+1) k s:Nat))]))=wOb (.tup (ts.map zab)) (.lst (gr.map oD)) (.tup [.int r,.int c]) b (ds1++[(nkD ((k:Int),s),.int (zbt ts gr c b (m+1) k s:Nat))]):=by rfl
   refine ⟨ds1++[(nkD ((k:Int),s),.int (zbt ts gr c b (m+1) k s:Nat))],?_,?_,?_,?_⟩
   ·have W2:=W.put (ds1++[(nkD ((k:Int),s),.int (zbt ts gr c b (m+1) k s:Nat))])
    have hl2:zbq ((k:Int),s) (ds1++[(nkD ((k:Int),s),.int (zbt ts gr c b (m+1) k s:Nat))])=some (.int (zbt ts gr c b (m+1) k s:Nat)):=by
     rw [zec,hd1,zd0,if_pos rfl];rfl
    generalize hres:(chs ts gr c b k s).map (fun p=>D.int (zbt ts gr c b m (k+1) p.2:Nat))=res at e1 hsum
    have hrl:res.length<=100000:=by rw [<-hres,List.length_map];exact hlen
    have hkey:zkd [some (false,D.ref n),some (false,.int k),some (false,zaM s),some (false,.tup [.int k,zaM s])] 3=some ((k:Int),s):=ek;have hpk:=zpN (r:=.int (zbt ts gr c b (m+1) k s:Nat)) hkey W1.known hd1 (by omega) hnd;rw [hput,List.set_set] at hpk;have hkn:=W2.known;have hkn0:=W.known;have hgr:=W.ground;generalize wOb (.tup (ts.map zab)) (.lst (gr.map oD)) (.tup [.int r,.int c]) b (ds1++[(nkD ((k:Int),s),.int (zbt ts gr c b (m+1) k s:Nat))])=ob2 at hpk hkn ⊢;generalize wOb (.tup (ts.map zab)) (.lst (gr.map oD)) (.tup [.int r,.int c]) b ds1=ob1 at hpk e1;generalize ds1++[(nkD ((k:Int),s),D.int (zbt ts gr c b (m+1) k s:Nat))]=ds2 at hkn hl2;generalize zbt ts gr c b (m+1) k s=vv at hsum hpk hl2 ⊢;generalize zaM s=sd at ek ech hkey hpk ⊢;generalize (chs ts gr c b k s).map chD=cs at ech e1;simp [zav,zal,hgr,hkn0,hne,ek,hd,mo,ech,e1,hrl,hsum,hpk,hkey,hkn,hl2]
   ·intro k' s' d h';rw [zec] at h'
    cases h2:zbq ((k':Int),s') ds1 with
    | some d'=>rw [h2] at h';cases h';exact M1 k' s' _ h2
    | none =>
     rw [h2,zd0] at h';have h'':(if some ((k:Int),s)=some ((k':Int),s') then some (D.int (zbt ts gr c b (m+1) k s:Nat)) else none)=some d:=h';split at h''
     ·rename_i ee;cases h'';have ee':=Option.some.inj ee
      have ek':k=k':=by have z:(k:Int)=(k':Int):=congrArg Prod.fst ee';omega
      have es':s=s':=congrArg Prod.snd ee';subst ek';subst es';rw [show gr.length-k=m+1 by omega]
     ·cases h''
   ·rw [List.length_append,List.length_singleton];show _<=ds.length+(1+ts.length*zaN ts.length m);omega
   ·intro k' s' hk';rw [zec,u1 k' s' (by omega),zd0,if_neg]
    ·cases zbq ((k':Int),s') ds<;>rfl
    ·intro z;have:=congrArg Prod.fst (Option.some.inj z);simp at this;omega
end
end S2
namespace S2
open PySem
open L2 hiding D
def zi0(c x:Str)(ρ:Env)(r:D):Out D->Fo
 | .bad=>.bad
 | .exc c S2=>.ex c ρ S2
 | .ok (.ref n) S2=>(match S2[n]? with
   | some ob=>if decide (ob.cls=c)&&decide (ob.fs.length<1000) then .nx ρ (S2.set n (ob.put x false r)) else .bad
   | none=>.bad)
 | .ok _ _=>.bad
def zpR(c x:Str)(f:Fe)(ρ:Env):Out D->Fo
 | .bad=>.bad
 | .exc c S2=>.ex c ρ S2
 | .ok r S1=>zi0 c x ρ r (f ρ S1)
@[simp] theorem ztJ{c x:Str}{f g:Fe}{ρ:Env}{S:Sto}:zgq c x f g ρ S=zpR c x f ρ (g ρ S):=by
 unfold zgq zpR
 cases g ρ S with
 | ok r S1 =>
  dsimp only;unfold zi0
  cases f ρ S1 with
  | ok d S2=>cases d<;>rfl
  | exc c S=>rfl
  | bad=>rfl
 | exc c S=>rfl
 | bad=>rfl
@[simp] theorem zwX{c x:Str}{f:Fe}{ρ:Env}{S:Sto}{r:D}:zpR c x f ρ (.ok r S)=zi0 c x ρ r (f ρ S):=(rfl)
theorem zpO{c x:Str}{n:Nat}{ρ:Env}{S:Sto}{r:D}{fs:List (Str×Bool×D)}(h:fs.length<1000)(hn:S.length=n):zi0 c x ρ r (.ok (.ref n) (S++[⟨c,fs⟩]))=.nx ρ (S++[⟨c,zaO x false r fs⟩]):=by
 subst hn;show (match (S++[(⟨c,fs⟩:Ob)])[S.length]? with | some ob=>_ | none=>_)=_;rw [List.getElem?_append_right (Nat.le_refl _),Nat.sub_self];show (if _ then Fo.nx ρ ((S++[(⟨c,fs⟩:Ob)]).set S.length _) else _)=_;rw [if_pos,List.set_append_right _ _ (Nat.le_refl _),Nat.sub_self]
 ·rfl
 ·rw [Bool.and_eq_true];exact ⟨decide_eq_true rfl,decide_eq_true h⟩
theorem zoC{c x:Str}{n i:Nat}{ρ:Env}{S:Sto}{fs:List (Str×Bool×D)}(hi:ρ[i]?=some (some (false,.ref n)))(h:fs.length<1000)(hn:S.length=n):zjE c x i ρ (S++[⟨c,fs⟩])=.nx ρ (S++[⟨c,zaO x true (.dic []) fs⟩]):=by
 subst hn;unfold zjE;rw [hi];show (match (S++[(⟨c,fs⟩:Ob)])[S.length]? with | some ob=>_ | none=>_)=_;rw [List.getElem?_append_right (Nat.le_refl _),Nat.sub_self];show (if _ then Fo.nx ρ ((S++[(⟨c,fs⟩:Ob)]).set S.length _) else _)=_;rw [if_pos,List.set_append_right _ _ (Nat.le_refl _),Nat.sub_self]
 ·rfl
 ·rw [Bool.and_eq_true];exact ⟨decide_eq_true rfl,decide_eq_true h⟩
theorem zda{x:Str}{o:Bool}{d:D}:∀{gs:List (Str×Bool×D)},(zaO x o d gs).length<=gs.length+1
 | []=>by simp [zaO]
 | (y,z)::gs=>by
  unfold zaO;split
  ·simp
  ·have:=zda (x:=x) (o:=o) (d:=d) (gs:=gs);simp only [List.length_cons];omega
def zak(r c:Nat)(g:Z1):List (Option Int):=(List.range r).flatMap fun i=>(List.range c).map fun j=>g i j
def zyr(g:Z1):D->D | .tup [.int i,.int j]=>oD (g i.toNat j.toNat) | _=>.non
theorem zf7{r c:Nat}{g:Z1}:(zcK r c).map (zyr g)=(zak r c g).map oD:=by
 unfold zcK zak;rw [List.map_flatMap,List.map_flatMap];congr 1;funext i;rw [List.map_map,List.map_map];rfl
theorem zaK{r c:Nat}{g:Z1}:(zak r c g).length=r*c:=by
 have:=congrArg List.length (zf7 (r:=r) (c:=c) (g:=g));rw [List.length_map,List.length_map,ze8] at this;exact this.symm
theorem ziK{r c:Nat}{g:Z1}{T:D}{b:Bool}{S:Sto}(h1:1<=r)(hr:r<=100)(hc:c<=100) :
  zaU [.ref S.length,T,flr r c g,.bl b] (S++[⟨"Ways",[]⟩])=.ok .non (S++[wOb T (.lst ((zak r c g).map oD)) (.tup [.int r,.int c]) b []]):=by
 have e1:∀S',zbF [flr r c g] S'=.ok (.lst (zcK r c)) S':=fun S'=>zfV h1 hr hc
 have e2:∀S',zbO [flr r c g] S'=.ok (.tup [.int r,.int c]) S':=fun S'=>zgr h1
 have e3:∀S',zbh (.one 0) zfI (eFn zaY [(zad 1),(zad 0)]) [none,some (false,flr r c g)] (zcK r c) S'=.ok ((zak r c g).map oD) S':=fun S'=>by
  rw [<-zf7];refine zfD fun d hd=>?_
  obtain ⟨i,j,hi,hj,rfl⟩:=zeh hd;refine ⟨_,rfl,?_⟩;have:=zdp (g:=g) (S:=S') hi hj;simp [this];rfl
 have hl:((zak r c g).map oD).length<=100000:=by
  rw [List.length_map,zaK];exact Nat.le_trans (Nat.mul_le_mul hr hc) (by decide)
 generalize (zak r c g).map oD=gl at e3 hl;generalize flr r c g=fl at *;have l1:=zda (x:="tiles") (o:=false) (d:=T) (gs:=[]);have l2:=zda (x:="ground") (o:=false) (d:=.lst gl) (gs:=zaO "tiles" false T []);have l3:=zda (x:="size") (o:=false) (d:=.tup [.int r,.int c]) (gs:=zaO "ground" false (.lst gl) (zaO "tiles" false T []));have l4:=zda (x:="is_round") (o:=false) (d:=.bl b) (gs:=zaO "size" false (.tup [.int r,.int c]) (zaO "ground" false (.lst gl) (zaO "tiles" false T [])));have p1:=fun (x:Str) (ρ:Env) (d:D) (fs:List (Str×Bool×D)) (h:fs.length<1000)=>zpO (c:="Ways") (x:=x) (ρ:=ρ) (S:=S) (r:=d) (fs:=fs) h rfl
 have l0:([]:List (Str×Bool×D)).length=0:=rfl;have p2:=zoC (c:="Ways") (x:="known") (i:=0) (ρ:=[some (false,.ref S.length),some (false,T),some (false,fl),some (false,.bl b)]) (S:=S) (n:=S.length) (fs:=zaO "is_round" false (.bl b) (zaO "size" false (.tup [.int r,.int c]) (zaO "ground" false (.lst gl) (zaO "tiles" false T [])))) rfl (by omega) rfl;have q1:=p1 "tiles" [some (false,.ref S.length),some (false,T),some (false,fl),some (false,.bl b)] T [] (by omega);have q2:=p1 "ground" [some (false,.ref S.length),some (false,T),some (false,fl),some (false,.bl b)] (.lst gl) (zaO "tiles" false T []) (by omega);have q3:=p1 "size" [some (false,.ref S.length),some (false,T),some (false,fl),some (false,.bl b)] (.tup [.int r,.int c]) (zaO "ground" false (.lst gl) (zaO "tiles" false T [])) (by omega);have q4:=p1 "is_round" [some (false,.ref S.length),some (false,T),some (false,fl),some (false,.bl b)] (.bl b) (zaO "size" false (.tup [.int r,.int c]) (zaO "ground" false (.lst gl) (zaO "tiles" false T []))) (by omega);clear l1 l2 l3 l4 l0
 have fin:(⟨"Ways",zaO "known" true (.dic []) (zaO "is_round" false (.bl b) (zaO "size" false (.tup [.int r,.int c]) (zaO "ground" false (.lst gl) (zaO "tiles" false T []))))⟩:Ob)=wOb T (.lst gl) (.tup [.int r,.int c]) b []:=by rfl
 rw [fin] at p2;generalize zaO "is_round" false (.bl b) (zaO "size" false (.tup [.int r,.int c]) (zaO "ground" false (.lst gl) (zaO "tiles" false T [])))=f4 at *;generalize zaO "size" false (.tup [.int r,.int c]) (zaO "ground" false (.lst gl) (zaO "tiles" false T []))=f3 at *;generalize zaO "ground" false (.lst gl) (zaO "tiles" false T [])=f2 at *;generalize zaO "tiles" false T []=f1 at *;generalize wOb T (.lst gl) (.tup [.int r,.int c]) b []=ob at *;simp [zaU,zav,zcc,e1,e2,e3,hl,q1,q2,q3,q4,p2]
theorem zjm{n:Nat}{ts:Z2}{gr:Z4}{r c:Nat}{b:Bool}(ht:TOk ts)(h1:1<=ts.length)(hg:∀o∈gr,∀x,o=some x->0<=x/\x<ts.length)(hc:1<=c)(hc2:c<=100):∀m f,m+1<=f->ts.length ^ m<=1000000->CfOk n ts gr r c b m (zmE 4 false zal f)
 | 0,f+1,_,_=>zqj
 | m+1,f+1,hf,hp=>by
  have hp':ts.length ^ m<=1000000:=Nat.le_trans (Nat.pow_le_pow_right h1 (Nat.le_succ m)) hp;exact zqk (zjm ht h1 hg hc hc2 m f (by omega) hp') ht h1 hg hc hc2 hp'
theorem zgu{n:Nat}{ts:Z2}{gr:Z4}{r c:Nat}{b:Bool}{S:Sto}(W:WAt S n ts gr r c b [])(ht:TOk ts)(h1:1<=ts.length)(hg:∀o∈gr,∀x,o=some x->0<=x/\x<ts.length)(hc:1<=c)(hc2:c<=100)(hm:gr.length<=30)(hp:ts.length ^ gr.length<=1000000)(hq:zaN ts.length gr.length<=1000000) :
  ∃ds',zaB [.ref n] S=.ok (.int (zbt ts gr c b gr.length 0 (List.replicate (c+2) none))) (S.set n (wOb (.tup (ts.map zab)) (.lst (gr.map oD)) (.tup [.int r,.int c]) b ds')):=by
 obtain ⟨ds',e,_⟩:=(zjm (n:=n) (r:=r) (b:=b) ht h1 hg hc hc2 gr.length 40 (by omega) hp).run S [] 0 (List.replicate (c+2) none) W (fun k s d h=>by cases h) (by omega) (List.length_replicate ..) (by simpa using hq);refine ⟨ds',?_⟩;have e':zat [.ref n,.int 0,zaM (List.replicate (c+2) none)] S=_:=e;have e2:=zcs W hc2;have m1:=W.meth "count_from" (by decide +kernel);have m2:=W.meth "first_seam" (by decide +kernel);generalize wOb (.tup (ts.map zab)) (.lst (gr.map oD)) (.tup [.int r,.int c]) b ds'=ob at *;simp [zaB,zav,zbo,m1,m2,e2,e']
def zmj(ts:Z2)(r c:Nat)(g:Z1)(b:Bool):Nat:=zbt ts (zak r c g) c b (r*c) 0 (List.replicate (c+2) none)
theorem ze3{ts:Z2}{r c:Nat}{g:Z1}{S:Sto}(ht:TOk ts)(h1:1<=ts.length)(hg:InT ts g)(hr1:1<=r)(hr:r<=100)(hc:1<=c)(hc2:c<=100)(hm:r*c<=30)(hp:ts.length ^ (r*c)<=1000000)(hq:zaN ts.length (r*c)<=1000000) :
  ∃S',zay [.tup (ts.map zab),flr r c g] S=.ok (.int (zmj ts r c g false)) S':=by
 have e1:=ziK (T:=.tup (ts.map zab)) (b:=false) (S:=S) (g:=g) (c:=c) hr1 hr hc2;have W:WAt (S++[wOb (.tup (ts.map zab)) (.lst ((zak r c g).map oD)) (.tup [.int r,.int c]) false []]) S.length ts (zak r c g) r c false []:=⟨by rw [List.getElem?_append_right (Nat.le_refl _),Nat.sub_self];rfl⟩
 have hgl:∀o∈zak r c g,∀x,o=some x->0<=x/\x<ts.length:=by
  intro o ho x hx;obtain ⟨i,_,ho⟩:=List.mem_flatMap.mp ho;obtain ⟨j,_,rfl⟩:=List.mem_map.mp ho;exact hg i j x hx
 obtain ⟨ds',e2⟩:=zgu W ht h1 hgl hc hc2 (by rw [zaK];exact hm) (by rw [zaK];exact hp) (by rw [zaK];exact hq);rw [zaK] at e2;have m:=W.meth "count_all" (by decide +kernel);obtain ⟨S',hS⟩:∃S',(S++[wOb (.tup (ts.map zab)) (.lst ((zak r c g).map oD)) (.tup [.int r,.int c]) false []]).set S.length (wOb (.tup (ts.map zab)) (.lst ((zak r c g).map oD)) (.tup [.int r,.int c]) false ds')=S':=⟨_,rfl⟩;rw [hS] at e2;clear hS;refine ⟨S',?_⟩;unfold zmj;generalize wOb (.tup (ts.map zab)) (.lst ((zak r c g).map oD)) (.tup [.int r,.int c]) false []=ob at *;simp [zay,zav,zcX,e1,m,e2]
end S2
namespace S2
open PySem
open L2 hiding D
noncomputable def tw1:Fe:=zfK (zaf gtD (zaf zkc (zai 6) (zai 2)) (zah (.int 0))) (zaf neD (zaf ixD (zaf ixD (zai 0) (zaf ixD (zai 9) (eUn zkb (zah (.int 1))))) (zah (.int 1))) (zaf ixD (zai 11) (zah (.int 3))))
noncomputable def tw2:Fe:=zfK (zaf geD (zai 6) (zai 2)) (zaf neD (zaf ixD (zaf ixD (zai 0) (zaf ixD (zai 9) (zaf zqB (zai 6) (zai 2)))) (zah (.int 2))) (zaf ixD (zai 11) (zah (.int 0))))
noncomputable def tw0:Fs:=(zag (sFz [] (zaW 12 false (zah (.bl false)))) sNx)
noncomputable def twB:Fs:=(zag (sFz [10] (zaW 12 false (zaf inD (zai 7) (zcv [(zah .non),(zad 10)])))) (zag (sFz [] (sIf tw1 tw0 sNx)) (zag (sFz [] (sIf tw2 tw0 sNx)) (zag (sFz [12] (sIf (zad 12) (zag (sFz [10] (zg6 8 (zaf zb5 (zai 9) (zcv [(zad 10)])))) sNx) sNx)) sNx))))
theorem zqO:zbN=twB:=rfl
section
variable{w:D}{ts:Z2}{c:Nat}{t:List Int}{n:Int}{S:Sto}{s1 s3 s4 s5 s8 x:Option (Bool×D)}
theorem ztU(ht:TOk ts)(hc:1<=c)(hT:InR ts t):tw1 [some (false,.tup (ts.map zab)),s1,some (false,.int c),s3,s4,s5,some (false,.int t.length),some (false,w),s8,some (false,zab t),some (false,.int n),some (false,.tup [.int (zaA ts n 0),.int (zaA ts n 1),.int (zaA ts n 2),.int (zaA ts n 3)]),x] S
   = .ok (.bl (decide (0<t.length % c/\zaA ts (t.getLastD 0) 1≠zaA ts n 3))) S:=by
 have hcN:0<c:=hc
 have hm:((0:Int)<(t.length:Int) % (c:Int))↔0<t.length % c:=by omega
 generalize hlen:(t.length:Int)=tl at *
 by_cases a:0<t.length % c
 ·have hne:t≠[]:=by rintro rfl;simp at a
  have A1:ixD (zab t) (.int (-1))=some (.int (t.getLastD 0)):=zjr hne;have tA:=ziB ht (hT _ (znb hne));generalize t.getLastD 0=u at *;generalize ts.map zab=tsd at *;simp [tw1,hcN,hm,a,A1,tA]
 ·generalize ts.map zab=tsd at *;simp [tw1,hcN,hm,a]
theorem ztT(ht:TOk ts)(hc:1<=c)(hT:InR ts t):tw2 [some (false,.tup (ts.map zab)),s1,some (false,.int c),s3,s4,s5,some (false,.int t.length),some (false,w),s8,some (false,zab t),some (false,.int n),some (false,.tup [.int (zaA ts n 0),.int (zaA ts n 1),.int (zaA ts n 2),.int (zaA ts n 3)]),x] S
   = .ok (.bl (decide (c<=t.length/\zaA ts (t.getD (t.length-c) 0) 2≠zaA ts n 0))) S:=by
 have hle:((c:Int)<=(t.length:Int))↔c<=t.length:=by omega
 by_cases b:c<=t.length
 ·have hlt:t.length-c<t.length:=by omega
  have e:t.getD (t.length-c) 0=t[t.length-c]:=by rw [List.getD_eq_getElem?_getD,List.getElem?_eq_getElem hlt];rfl
  have B1:ixD (zab t) (.int ((t.length:Int)-c))=some (.int (t.getD (t.length-c) 0)):=by
   show atI (t.map D.int) _=_;rw [zeS (by omega),List.getElem?_map,show ((t.length:Int)-c).toNat=t.length-c by omega,List.getElem?_eq_getElem hlt,e];rfl
  have tB:=ziB ht (x:=t.getD (t.length-c) 0) (by rw [e];exact hT _ (List.getElem_mem hlt));generalize t.getD (t.length-c) 0=v at *;generalize hlen:(t.length:Int)=tl at *;generalize ts.map zab=tsd at *;simp [tw2,hle,b,B1,tB]
 ·generalize hlen:(t.length:Int)=tl at *;generalize ts.map zab=tsd at *;simp [tw2,hle,b]
end
theorem zjV{w:D}{fb:Bool}{ts:Z2}{c:Nat}{t:List Int}{n:Int}{L:List D}{S:Sto}{s1 s3 s4 s5 x:Option (Bool×D)}(ht:TOk ts)(hc:1<=c)(hc4:c<=100)(hT:InR ts t)(hn:0<=n/\n<ts.length)(hL:L.length<=90000)(hk:t.length<=100)(hin:inD w (.tup [.non,.int n])=some (.bl fb)) :
  ∃x',zbN [some (false,.tup (ts.map zab)),s1,some (false,.int c),s3,s4,s5,some (false,.int t.length),some (false,w),some (true,.lst L),some (false,zab t),some (false,.int n),some (false,.tup [.int (zaA ts n 0),.int (zaA ts n 1),.int (zaA ts n 2),.int (zaA ts n 3)]),x] S
   = .nx [some (false,.tup (ts.map zab)),s1,some (false,.int c),s3,s4,s5,some (false,.int t.length),some (false,w),some (true,.lst (L++if fb&&zhu ts c t n then [zab (t++[n])] else [])),some (false,zab t),some (false,.int n),some (false,.tup [.int (zaA ts n 0),.int (zaA ts n 1),.int (zaA ts n 2),.int (zaA ts n 3)]),x'] S:=by
 refine ⟨some (false,.bl (fb&&zhu ts c t n)),?_⟩;rw [zqO]
 have hl:L.length<=100000:=by omega
 have hadd:zb5 (zab t) (.tup [.int n])=some (zab (t++[n])):=by
  unfold zab;rw [zqI,if_pos (by rw [zoA];apply decide_eq_true;simp;omega)];simp
 have T1:=fun s8 x=>ztU (w:=w) (n:=n) (S:=S) (s1:=s1) (s3:=s3) (s4:=s4) (s5:=s5) (s8:=s8) (x:=x) ht hc hT
 have T2:=fun s8 x=>ztT (w:=w) (n:=n) (S:=S) (s1:=s1) (s3:=s3) (s4:=s4) (s5:=s5) (s8:=s8) (x:=x) ht hc hT
 have key:zhu ts c t n=(!decide (0<t.length % c/\zaA ts (t.getLastD 0) 1≠zaA ts n 3)&&!decide (c<=t.length/\zaA ts (t.getD (t.length-c) 0) 2≠zaA ts n 0)):=by
  unfold zhu;rw [Bool.eq_iff_iff,decide_eq_true_iff,Bool.and_eq_true,Bool.not_eq_true',Bool.not_eq_true',decide_eq_false_iff_not,decide_eq_false_iff_not];constructor
  ·rintro ⟨x,y⟩;exact ⟨fun z=>z.2 (x z.1),fun z=>z.2 (y z.1)⟩
  ·rintro ⟨x,y⟩;exact ⟨fun z=>Classical.byContradiction fun q=>x ⟨z,q⟩,fun z=>Classical.byContradiction fun q=>y ⟨z,q⟩⟩
 rw [key];clear key;generalize decide (0<t.length % c/\zaA ts (t.getLastD 0) 1≠zaA ts n 3)=b1 at *;generalize decide (c<=t.length/\zaA ts (t.getD (t.length-c) 0) 2≠zaA ts n 0)=b2 at *;generalize D.tup [.int (zaA ts n 0),.int (zaA ts n 1),.int (zaA ts n 2),.int (zaA ts n 3)]=tt at *;generalize zab (t++[n])=t2 at *;generalize zab t=t1 at *;generalize (t.length:Int)=tl at *;generalize ts.map zab=tsd at *
 cases b1<;>cases b2<;>cases fb<;>simp [twB,hin,T1,T2,tw0,hadd,hl]
theorem zp2{o:Option Int}{n:Int}:inD (oD o) (.tup [.non,.int n])=some (.bl (okO o n)):=by
 cases o with
 | none=>simp [inD,zg4,zh6,zeK,D.py,PyData.eqv,oD,okO]
 | some x =>
  by_cases h:x=n
  ·simp [inD,zg4,zh6,zeK,D.py,PyData.eqv,oD,okO,h]
  ·have h':¬ n=x:=fun z=>h z.symm
   simp [inD,zg4,zh6,zeK,D.py,PyData.eqv,oD,okO,h,h']
def zbT(ts:Z2):List Int:=(List.range ts.length).map fun (i:Nat)=>(i:Int)
def zbH(ts:Z2)(c:Nat)(o:Option Int)(t:List Int):List (List Int):=((zbT ts).filter fun x=>okO o x&&zhu ts c t x).map fun x=>t++[x]
def zaz(ts:Z2)(gr:Z4)(c:Nat):Nat->List (List Int)
 | 0=>[[]]
 | k+1=>(zaz ts gr c k).flatMap (zbH ts c (gr.getD k none))
def gIw(ts:Z2)(c:Nat)(o:Option Int)(t:List Int):D->List D | .tup [.int n,_]=>if okO o n&&zhu ts c t n then [zab (t++[n])] else [] | _=>[]
theorem zjW{ts:Z2}(ht:TOk ts):zbw (ts.map zab)=(zbT ts).map fun n=>.tup [.int n,.tup [.int (zaA ts n 0),.int (zaA ts n 1),.int (zaA ts n 2),.int (zaA ts n 3)]]:=by
 apply List.ext_getElem?;intro k
 by_cases hk:k<ts.length
 ·have h1:k<(zbw (ts.map zab)).length:=by rw [zcC,List.length_map];exact hk
  have h2:(zbw (ts.map zab))[k]?=some (zbw (ts.map zab))[k]:=List.getElem?_eq_getElem h1;obtain ⟨y,e1,e2⟩:=zdi h2;rw [h2,e2];have:=ziB ht (x:=(k:Int)) ⟨by omega,by omega⟩;rw [zba,e1] at this;rw [Option.some.inj this];unfold zbT;rw [List.map_map,List.getElem?_map,List.getElem?_range hk];rfl
 ·rw [List.getElem?_eq_none (by rw [zcC,List.length_map];omega),List.getElem?_eq_none (by unfold zbT;rw [List.map_map,List.length_map,List.length_range];omega)]
theorem zi4{ts:Z2}{c:Nat}{o:Option Int}{t:List Int}(ht:TOk ts):(zbw (ts.map zab)).flatMap (gIw ts c o t)=(zbH ts c o t).map zab:=by
 rw [zjW ht];unfold zbH;generalize zbT ts=l
 induction l with
 | nil=>rfl
 | cons x l ih =>
  rw [List.map_cons,List.flatMap_cons,ih,List.filter_cons];show (if okO o x&&zhu ts c t x then [zab (t++[x])] else [])++_=_
  cases okO o x&&zhu ts c t x<;>simp
theorem zfe{ts:Z2}{c:Nat}{o:Option Int}{t:List Int}:(zbH ts c o t).length<=ts.length:=by
 unfold zbH;rw [List.length_map];refine Nat.le_trans (List.length_filter_le _ _) ?_;simp [zbT]
theorem zdd{α β:Type}{g:α->List β}{m:Nat}:∀{l:List α},(∀x∈l,(g x).length<=m)->(l.flatMap g).length<=l.length*m
 | [],_=>by simp
 | x::l,h=>by
  have h1:=h x List.mem_cons_self;have h2:=zdd (l:=l) fun y hy=>h y (List.mem_cons_of_mem _ hy)
  rw [List.flatMap_cons,List.length_append,List.length_cons,Nat.add_mul];omega
structure FillG(ts:Z2)(k:Nat)(F:Z2):Prop where
 mem:∀t∈F,t.length=k/\InR ts t
theorem zde{ts:Z2}{gr:Z4}{c:Nat}:∀k,FillG ts k (zaz ts gr c k)
 | 0=>⟨fun t ht=>by rw [List.mem_singleton.mp ht];exact ⟨rfl,fun x hx=>(List.not_mem_nil hx).elim⟩⟩
 | k+1=>⟨fun t ht=>by
  obtain ⟨u,hu,ht⟩:=List.mem_flatMap.mp ht;obtain ⟨x,hx,rfl⟩:=List.mem_map.mp ht;obtain ⟨h1,h2⟩:=(zde (ts:=ts) (gr:=gr) (c:=c) k).mem u hu;refine ⟨by rw [List.length_append,h1];rfl,fun y hy=>?_⟩
  rcases List.mem_append.mp hy with hy | hy
  ·exact h2 y hy
  ·rw [List.mem_singleton.mp hy];obtain ⟨i,hi,rfl⟩:=List.mem_map.mp (List.mem_filter.mp hx).1;have:=List.mem_range.mp hi
   omega⟩
theorem zet{ts:Z2}{gr:Z4}{c:Nat}:∀k,(zaz ts gr c k).length<=ts.length ^ k
 | 0=>by simp [zaz]
 | k+1=>by
  show ((zaz ts gr c k).flatMap _).length<=_;refine Nat.le_trans (zdd (m:=ts.length) fun t _=>zfe) ?_;rw [Nat.pow_succ];exact Nat.mul_le_mul_right _ (zet k)
section
variable{ts:Z2}{c:Nat}{S:Sto}{s1 s3 s4:Option (Bool×D)}{o:Option Int}
theorem znw{t:List Int}{k:Nat}{L:List D}{s5 x y z:Option (Bool×D)}(ht:TOk ts)(hc:1<=c)(hc4:c<=100)(hg:InR ts t)(hk:t.length=k)(hk2:k<=100)(hL:L.length<=80000) :
  ∃x' y' z',zbM [some (false,.tup (ts.map zab)),s1,some (false,.int c),s3,s4,s5,some (false,.int k),some (false,oD o),some (true,.lst L),some (false,zab t),x,y,z] S
   = .nx [some (false,.tup (ts.map zab)),s1,some (false,.int c),s3,s4,s5,some (false,.int k),some (false,oD o),some (true,.lst (L++(zbH ts c o t).map zab)),some (false,zab t),x',y',z'] S:=by
 subst hk
 obtain ⟨x',e⟩:=zd6 (tg:=.tup [10,11]) (body:=zbN) (S:=S) (fun L (x:Option (Bool×D)×Option (Bool×D)×Option (Bool×D))=>[some (false,.tup (ts.map zab)),s1,some (false,.int c),s3,s4,s5,some (false,.int t.length),some (false,oD o),some (true,.lst L),some (false,zab t),x.1,x.2.1,x.2.2]) (gIw ts c o t) 90000 (ds:=zbw (ts.map zab)) (by
  intro d hd L x hL;obtain ⟨n,hn,rfl⟩:=znx ht hd;obtain ⟨x',e⟩:=zjV (w:=oD o) (fb:=okO o n) (ts:=ts) (c:=c) (t:=t) (n:=n) (L:=L) (S:=S) (s1:=s1) (s3:=s3) (s4:=s4) (s5:=s5) (x:=x.2.2) ht hc hc4 hg ⟨by omega,by omega⟩ (by omega) (by omega) zp2
  exact ⟨_,(some (false,.int n),some (false,.tup [.int (zaA ts n 0),.int (zaA ts n 1),.int (zaA ts n 2),.int (zaA ts n 3)]),x'),rfl,e⟩) L (x,y,z) (by
   rw [zi4 ht,List.length_map];have:=zfe (ts:=ts) (c:=c) (o:=o) (t:=t);have:=ht.le
   omega)
 rw [zi4 ht] at e;refine ⟨x'.1,x'.2.1,x'.2.2,?_⟩;simp at e;simp [zbM,e]
theorem zlK{k:Nat}{F:Z2}{fl:Bool}{x8 x9 x10 x11 x12:Option (Bool×D)}(ht:TOk ts)(hc:1<=c)(hc4:c<=100)(hF:FillG ts k F)(hk2:k<=100)(hz:F.length*ts.length<=80000) :
  ∃y8 y9 y10 y11 y12,zbL [some (false,.tup (ts.map zab)),s1,some (false,.int c),s3,s4,some (fl,.lst (F.map zab)),some (false,.int k),some (false,oD o),x8,x9,x10,x11,x12] S
   = .nx [some (false,.tup (ts.map zab)),s1,some (false,.int c),s3,s4,some (false,.lst ((F.flatMap (zbH ts c o)).map zab)),some (false,.int k),some (false,oD o),y8,y9,y10,y11,y12] S:=by
 have hfl:∀G:List (List Int),(G.map zab).flatMap (fun d=>match d with | .tup l=>(zbH ts c o (l.map unI)).map zab | _=>[])=(G.flatMap (zbH ts c o)).map zab:=by
  intro G
  induction G with
  | nil=>rfl
  | cons t G ih =>
   rw [List.map_cons,List.flatMap_cons,List.flatMap_cons,List.map_append,ih];show (zbH ts c o ((t.map D.int).map unI)).map zab++_=_;rw [ziA]
 obtain ⟨x',e⟩:=zd6 (tg:=.one 9) (body:=zbM) (S:=S) (fun L' (x:Option (Bool×D)×Option (Bool×D)×Option (Bool×D)×Option (Bool×D))=>[some (false,.tup (ts.map zab)),s1,some (false,.int c),s3,s4,some (false,.lst (F.map zab)),some (false,.int k),some (false,oD o),some (true,.lst L'),x.1,x.2.1,x.2.2.1,x.2.2.2]) (fun d=>match d with | .tup l=>(zbH ts c o (l.map unI)).map zab | _=>[]) 80000 (ds:=F.map zab) (by
  intro d hd L' x hL;obtain ⟨t,ht',rfl⟩:=List.mem_map.mp hd;obtain ⟨hl,hg⟩:=hF.mem t ht';obtain ⟨a,b,z,e⟩:=znw (o:=o) (ts:=ts) (c:=c) (S:=S) (s1:=s1) (s3:=s3) (s4:=s4) (t:=t) (k:=k) (L:=L') (s5:=some (false,.lst (F.map zab))) (x:=x.2.1) (y:=x.2.2.1) (z:=x.2.2.2) ht hc hc4 hg hl hk2 (by omega);refine ⟨_,(some (false,zab t),a,b,z),rfl,?_⟩;show _=Fo.nx [_,_,_,_,_,_,_,_,some (true,.lst (L'++(zbH ts c o ((t.map D.int).map unI)).map zab)),_,_,_,_] S;rw [ziA]
  exact e) [] (x9,x10,x11,x12) (by
   rw [hfl,List.length_map];have:=zdd (g:=zbH ts c o) (m:=ts.length) (l:=F) fun t _=>zfe
   simp only [List.length_nil];omega)
 rw [hfl] at e;refine ⟨some (false,.lst ((F.flatMap (zbH ts c o)).map zab)),x'.1,x'.2.1,x'.2.2.1,x'.2.2.2,?_⟩;simp at e;generalize F.map zab=Fd at *
 cases fl<;>simp [zbL,e]
end
theorem znQ{r c:Nat}{g:Z1}:(zce r c g).flatMap ztV=(zak r c g).map oD:=by
 unfold zce zak;rw [List.flatMap_map,List.map_flatMap];congr 1;funext i;show zc4 c (g i)=_;rw [List.map_map];rfl
theorem zjF{ts:Z2}{r c:Nat}{g:Z1}{S:Sto}(ht:TOk ts)(hr:1<=r)(hc:1<=c)(hrc:r*c<=100)(hc4:c<=100)(hr4:r<=100)(hp:ts.length ^ (r*c)<=80000)(h1:1<=ts.length):zbP [.tup (ts.map zab),flr r c g] S=.ok (.lst ((zaz ts (zak r c g) c (r*c)).map zab)) S:=by
 have g0:(zce r c g)[0]?=some (.tup (zc4 c (g 0))):=zcR (by omega);have gl:=zaK (r:=r) (c:=c) (g:=g)
 obtain ⟨x1,e1⟩:=zd6 (tg:=.one 4) (body:=zcx) (S:=S) (fun L (x:Option (Bool×D))=>[some (false,.tup (ts.map zab)),some (false,flr r c g),some (false,.int c),some (true,.lst L),x,none,none,none,none,none,none,none,none]) ztV 1000 (ds:=zce r c g) (by
  intro d hd L x hL;obtain ⟨i,_,rfl⟩:=List.mem_map.mp hd;refine ⟨_,some (false,zeJ c (g i)),rfl,?_⟩
  have:L.length+c<=100000:=by have hL':L.length+(zc4 c (g i)).length<=1000:=hL;rw [zbW] at hL';omega
  simp [zcx,zeJ,ztV,this]) [] none (by rw [znQ,List.length_map,gl];simp only [List.length_nil];omega)
 simp only [List.nil_append] at e1;rw [znQ] at e1
 obtain ⟨ρ',e2,fl,x4,x6,x7,x8,x9,x10,x11,x12,rfl⟩:=zcP (tg:=.tup [6,7]) (body:=zbL) (ds:=zbw ((zak r c g).map oD)) (S:=S) (fun k ρ=>∃fl x4 x6 x7 x8 x9 x10 x11 x12,ρ=[some (false,.tup (ts.map zab)),some (false,flr r c g),some (false,.int c),some (false,.lst ((zak r c g).map oD)),x4,some (fl,.lst ((zaz ts (zak r c g) c k).map zab)),x6,x7,x8,x9,x10,x11,x12]) (by
  rintro k d ρ hd ⟨fl,x4,x6,x7,x8,x9,x10,x11,x12,rfl⟩;obtain ⟨y,hy,rfl⟩:=zdi hd
  have hk:k<r*c:=by
   have:=(List.getElem?_eq_some_iff.mp hy).1;rw [List.length_map,gl] at this;exact this
  have ey:y=oD ((zak r c g).getD k none):=by
   rw [List.getElem?_map,List.getElem?_eq_getElem (by omega)] at hy;rw [List.getD_eq_getElem?_getD,List.getElem?_eq_getElem (by omega)];exact (Option.some.inj hy).symm
  subst ey
  have hz:(zaz ts (zak r c g) c k).length*ts.length<=80000:=by
   refine Nat.le_trans (Nat.mul_le_mul_right _ (zet k)) ?_;rw [<-Nat.pow_succ];exact Nat.le_trans (Nat.pow_le_pow_right h1 hk) hp
  obtain ⟨y8,y9,y10,y11,y12,e⟩:=zlK (o:=(zak r c g).getD k none) (ts:=ts) (c:=c) (S:=S) (s1:=some (false,flr r c g)) (s3:=some (false,.lst ((zak r c g).map oD))) (s4:=x4) (k:=k) (fl:=fl) (x8:=x8) (x9:=x9) (x10:=x10) (x11:=x11) (x12:=x12) ht hc hc4 (zde (gr:=zak r c g) (c:=c) k) (by omega) hz
  exact ⟨_,_,rfl,e,_,_,_,_,_,_,_,_,_,rfl⟩)
  (ρ:=[some (false,.tup (ts.map zab)),some (false,flr r c g),some (false,.int c),some (false,.lst ((zak r c g).map oD)),x1,some (true,.lst [.tup []]),none,none,none,none,none,none,none]) ⟨true,x1,none,none,none,none,none,none,none,rfl⟩
 rw [zcC,List.length_map,gl] at e2;unfold flr at *;generalize (zaz ts (zak r c g) c (r*c)).map zab=res at *;generalize (zak r c g).map oD=W at *
 cases fl<;>simp [zbP,zav,zdh,g0,zeJ,e1,e2]
end S2
namespace S2
open PySem
open L2 hiding D
def zlN(ts:Z2)(gr:Z4)(c:Nat):Nat->List Int->Nat
 | 0,_=>1
 | m+1,t=>((zbH ts c (gr.getD t.length none) t).map (zlN ts gr c m)).sum
theorem ziH{α:Type}{f:α->Nat}{h:α->List α}:∀l:List α,((l.flatMap h).map f).sum=(l.map fun t=>((h t).map f).sum).sum
 | []=>rfl
 | t::l=>by rw [List.flatMap_cons,List.map_append,List.sum_append,ziH l,List.map_cons,List.sum_cons]
theorem zhw{ts:Z2}{gr:Z4}{c:Nat}:∀m k,(zaz ts gr c (k+m)).length=((zaz ts gr c k).map (zlN ts gr c m)).sum
 | 0,k=>by
  show (zaz ts gr c k).length=_;generalize zaz ts gr c k=F
  induction F with
  | nil=>rfl
  | cons t F ih=>rw [List.length_cons,ih,List.map_cons,List.sum_cons];simp [zlN];omega
 | m+1,k=>by
  rw [show k+(m+1)=(k+1)+m by omega,zhw m (k+1)];show (((zaz ts gr c k).flatMap _).map _).sum=_;rw [ziH];congr 1;apply List.map_congr_left;intro t ht;show _=((zbH ts c (gr.getD t.length none) t).map (zlN ts gr c m)).sum;rw [((zde k).mem t ht).1]
theorem zlI{ts:Z2}{gr:Z4}{c L:Nat}:(zaz ts gr c L).length=zlN ts gr c L []:=by
 have:=zhw (ts:=ts) (gr:=gr) (c:=c) L 0;rw [Nat.zero_add] at this;rw [this];simp [zaz]
structure SeamOk(ts:Z2)(L c:Nat)(t:List Int)(s:Z4):Prop where
 len:s.length=c+2
 west:s.getD 0 none=if t.length % c=0 then none else some (zaA ts (t.getLastD 0) 1)
 north:∀j,j<c->s.getD (1+j) none=if t.length+j<c\/L<=t.length+j then none else some (zaA ts (t.getD (t.length+j-c) 0) 2)
theorem SeamOk.first{ts:Z2}{L c:Nat}:SeamOk ts L c [] (List.replicate (c+2) none) where
 len:=List.length_replicate ..
 west:=by simp [List.getD_eq_getElem?_getD,List.getElem?_replicate]
 north:=fun j hj=>by
  rw [if_pos (.inl (by simpa using hj))];rw [List.getD_eq_getElem?_getD,List.getElem?_replicate]
  split<;>rfl
theorem SeamOk.next{ts:Z2}{L c:Nat}{t:List Int}{s:Z4}{x:Int}(h:SeamOk ts L c t s)(hc:1<=c):SeamOk ts L c (t++[x]) (zgS ts L c false t.length s x) where
 len:=zl7 hc h.len
 west:=by
  rw [List.length_append,List.length_singleton];show (if (t.length+1) % c=0 then none else some (zaA ts x 1))=_;simp [List.getLastD_eq_getLast?]
 north:=fun j hj=>by
  have hm:((s.drop 2).dropLast).length=c-1:=by rw [List.length_dropLast,List.length_drop,h.len];omega
  rw [List.length_append,List.length_singleton];show ((if (t.length+1) % c=0 then none else some (zaA ts x 1))::((s.drop 2).dropLast++[if L<=t.length+c then none else some (zaA ts x 2),if false&&!decide ((t.length+1) % c=0) then crO ts c t.length s x else none])).getD (1+j) none=_;rw [show 1+j=j+1 by omega,List.getD_cons_succ]
  by_cases hl:j<c-1
  ·rw [List.getD_eq_getElem?_getD,List.getElem?_append_left (by rw [hm];exact hl),List.getElem?_dropLast,if_pos (by rw [List.length_drop,h.len];omega),List.getElem?_drop,<-List.getD_eq_getElem?_getD];have hn:=h.north (j+1) (by omega);rw [show 2+j=1+(j+1) by omega,hn];rw [show t.length+1+j=t.length+(j+1) by omega]
   by_cases z:t.length+(j+1)<c\/L<=t.length+(j+1)
   ·rw [if_pos z,if_pos z]
   ·rw [if_neg z,if_neg z,zi3,if_pos (by omega)]
  ·have hj':j=c-1:=by omega
   subst hj';rw [List.getD_eq_getElem?_getD,List.getElem?_append_right (by rw [hm];exact Nat.le_refl _),hm,Nat.sub_self];show (if L<=t.length+c then none else some (zaA ts x 2))=_
   have e:(t++[x]).getD (t.length+1+(c-1)-c) 0=x:=by
    rw [zi3,show t.length+1+(c-1)-c=t.length by omega,if_neg (Nat.lt_irrefl _),if_pos rfl]
   rw [e,show t.length+1+(c-1)=t.length+c by omega]
   have:¬ t.length+c<c:=by omega
   simp [this]
theorem zjc{ts:Z2}{L c:Nat}{t:List Int}{s:Z4}{x:Int}(h:SeamOk ts L c t s)(hc:1<=c)(hL:t.length<L):zjd ts c false t.length s x=zhu ts c t x:=by
 unfold zjd zhu;have h1:=h.north 0 (by omega);rw [Nat.add_zero,Nat.add_zero] at h1;rw [h.west,h1]
 have hL':¬ L<=t.length:=by omega
 simp only [Bool.not_false,Bool.true_or,Bool.and_true];rw [Bool.eq_iff_iff,Bool.and_eq_true,decide_eq_true_iff]
 have a:okO (if t.length % c=0 then none else some (zaA ts (t.getLastD 0) 1)) (zaA ts x 3)=true↔(0<t.length % c->zaA ts (t.getLastD 0) 1=zaA ts x 3):=by
  by_cases z:t.length % c=0
  ·rw [if_pos z];simp [okO,z]
  ·rw [if_neg z]
   have z':0<t.length % c:=by omega
   simp [okO,z']
 have b:okO (if t.length<c\/L<=t.length then none else some (zaA ts (t.getD (t.length-c) 0) 2)) (zaA ts x 0)=true↔(c<=t.length->zaA ts (t.getD (t.length-c) 0) 2=zaA ts x 0):=by
  by_cases z:t.length<c
  ·rw [if_pos (.inl z)]
   have z':¬ c<=t.length:=by omega
   simp [okO,z']
  ·have z':c<=t.length:=by omega
   rw [if_neg (by simp only [not_or];exact ⟨z,hL'⟩)];simp [okO,z']
 rw [a,b]
theorem zf2{ts:Z2}{o:Option Int}{p:Int->Bool}(ho:∀x,o=some x->0<=x/\x<ts.length):(zbT ts).filter (fun x=>okO o x&&p x)=(zh3 ts o).filter p:=by
 cases o with
 | none =>
  show (zbT ts).filter (fun x=>true&&p x)=(zbT ts).filter p;simp
 | some y =>
  obtain ⟨y0,y1⟩:=ho y rfl
  have e:(zbT ts).filter (fun x=>decide (y=x))=[y]:=by
   obtain ⟨n,rfl⟩:=Int.eq_ofNat_of_zero_le y0
   have hn:n<ts.length:=by omega
   unfold zbT;rw [List.filter_map]
   have hf:(List.range ts.length).filter ((fun x=>decide ((n:Int)=x))∘fun (i:Nat)=>(i:Int))=[n]:=by
    have:((fun x=>decide ((n:Int)=x))∘fun (i:Nat)=>(i:Int))=fun i=>decide (i=n):=by
     funext i;simp only [Function.comp];congr 1;exact propext ⟨fun z=>by omega,fun z=>by omega⟩
    rw [this];generalize ts.length=N at hn;clear y1
    induction N with
    | zero=>omega
    | succ N ih =>
     rw [List.range_succ,List.filter_append]
     by_cases z:n<N
     ·rw [ih z]
      have:¬ N=n:=by omega
      simp [this]
     ·have:N=n:=by omega
      subst this
      have h0:(List.range N).filter (fun i=>decide (i=N))=[]:=by
       rw [List.filter_eq_nil_iff];intro i hi;have:=List.mem_range.mp hi;simp;omega
      rw [h0];simp
   rw [hf];rfl
  show (zbT ts).filter (fun x=>decide (y=x)&&p x)=[y].filter p;rw [<-e,List.filter_filter];congr 1;funext x;exact Bool.and_comm _ _
theorem zgi{ts:Z2}{gr:Z4}{c:Nat}(hc:1<=c)(hg:∀o∈gr,∀x,o=some x->0<=x/\x<ts.length):∀m t s,SeamOk ts gr.length c t s->t.length+m=gr.length->zbt ts gr c false m t.length s=zlN ts gr c m t
 | 0,_,_,_,_=>rfl
 | m+1,t,s,h,hl=>by
  have hk:t.length<gr.length:=by omega
  have ho:∀x,gr.getD t.length none=some x->0<=x/\x<ts.length:=by
   rw [List.getD_eq_getElem?_getD,List.getElem?_eq_getElem hk];exact hg _ (List.getElem_mem hk)
  show ((chs ts gr c false t.length s).map fun p=>zbt ts gr c false m (t.length+1) p.2).sum=((zbH ts c (gr.getD t.length none) t).map (zlN ts gr c m)).sum;unfold chs zbH;rw [zf2 ho,List.map_map,List.map_map]
  have e:(zh3 ts (gr.getD t.length none)).filter (zjd ts c false t.length s)=(zh3 ts (gr.getD t.length none)).filter (zhu ts c t):=by
   congr 1;funext x;exact zjc h hc hk
  rw [e];congr 1;apply List.map_congr_left;intro x _;show zbt ts gr c false m (t.length+1) (zgS ts gr.length c false t.length s x)=zlN ts gr c m (t++[x]);have:=zgi hc hg m (t++[x]) _ (h.next (x:=x) hc) (by rw [List.length_append,List.length_singleton];omega);rw [List.length_append,List.length_singleton] at this;exact this
theorem zfp{ts:Z2}{r c:Nat}{g:Z1}(hg:InT ts g):∀o∈zak r c g,∀x,o=some x->0<=x/\x<ts.length:=by
 intro o ho x hx;obtain ⟨i,_,ho⟩:=List.mem_flatMap.mp ho;obtain ⟨j,_,rfl⟩:=List.mem_map.mp ho;exact hg i j x hx
theorem zeg{ts:Z2}{r c:Nat}{g:Z1}(hc:1<=c)(hg:InT ts g):zmj ts r c g false=(zaz ts (zak r c g) c (r*c)).length:=by
 rw [zlI];unfold zmj;exact zgi hc (zfp hg) (r*c) [] _ (by rw [zaK];exact SeamOk.first) (by rw [zaK];simp)
end S2
namespace S2
open PySem
open L2 hiding D
theorem zqf{α:Type}{l:List α}{n:Nat}:zev l (some (n:Int)) none=l.drop n:=by
 unfold zev;rw [HT.zgp];simp [HT.sIx]
 by_cases h:n<=l.length
 ·rw [Nat.min_eq_left h];exact List.take_of_length_le (by simp)
 ·rw [List.drop_eq_nil_of_le (show l.length<=n by omega),List.drop_eq_nil_of_le (by omega)];simp
theorem zsR{α:Type}{l:List α}{n:Nat}(h:n<=l.length):zev l none (some (n:Int))=l.take n:=by
 unfold zev;rw [HT.zgp];simp [HT.sIx,Nat.min_eq_left h]
end S2
namespace S2
open PySem
open L2 hiding D
def zc5(g:Z1)(i j:Nat)(o:Option Int):Nat->Nat->Option Int:=fun a b=>if a=i/\b=j then o else g a b
theorem zpa{c j:Nat}{g:Nat->Option Int}{o:Option Int}:(zc4 c g).set j (oD o)=zc4 c fun b=>if b=j then o else g b:=by
 apply List.ext_getElem?;intro k
 by_cases hk:k<c
 ·rw [zcH hk]
  by_cases e:j=k
  ·subst e;rw [List.getElem?_set_self (by rw [zbW];exact hk),if_pos rfl]
  ·rw [List.getElem?_set_ne e,zcH hk,if_neg (fun z=>e z.symm)]
 ·rw [List.getElem?_eq_none (by rw [List.length_set,zbW];omega),List.getElem?_eq_none (by rw [zbW];omega)]
theorem zp5{r c i j:Nat}{g:Z1}{o:Option Int}:(zce r c g).set i (zeJ c fun b=>if b=j then o else g i b)=zce r c (zc5 g i j o):=by
 apply List.ext_getElem?;intro k
 by_cases hk:k<r
 ·rw [zcR hk]
  by_cases e:i=k
  ·subst e;rw [List.getElem?_set_self (by rw [zcQ];exact hk)];congr 3;funext b;unfold zc5
   by_cases z:b=j<;>simp [z]
  ·rw [List.getElem?_set_ne e,zcR hk];congr 3;funext b;unfold zc5;rw [if_neg (fun z=>e z.1.symm)]
 ·rw [List.getElem?_eq_none (by rw [List.length_set,zcQ];omega),List.getElem?_eq_none (by rw [zcQ];omega)]
theorem zlS{α:Type}{l:List α}{j:Nat}{x:α}(h:j<l.length):zev l none (some (j:Int))++x::zev l (some ((j:Int)+1)) none=l.set j x:=by
 rw [zsR (by omega),show ((j:Int)+1)=((j+1:Nat):Int) by omega,zqf,List.set_eq_take_append_cons_drop,if_pos h]
theorem zeY{r c i j:Nat}{g:Z1}{o:Option Int}{S:Sto}(hi:i<r)(hj:j<c)(hr:r<=100)(hc:c<=100):zbX [flr r c g,plD i j,oD o] S=.ok (flr r c (zc5 g i j o)) S:=by
 have e0:atI (zce r c g) (i:Int)=some (zeJ c (g i)):=by rw [zba,zcR hi]
 have e1:zev (zc4 c (g i)) none (some (j:Int))++oD o::zev (zc4 c (g i)) (some ((j:Int)+1)) none=zc4 c fun b=>if b=j then o else g i b:=by rw [zlS (by rw [zbW];exact hj),zpa]
 have e2:zev (zce r c g) none (some (i:Int))++(zeJ c fun b=>if b=j then o else g i b)::zev (zce r c g) (some ((i:Int)+1)) none=zce r c (zc5 g i j o):=by rw [zlS (by rw [zcQ];exact hi),zp5]
 have l1:=congrArg List.length e1;have l2:=congrArg List.length e2;rw [List.length_append,List.length_cons,zbW] at l1;rw [List.length_append,List.length_cons,zcQ] at l2;unfold flr;rw [<-e2];unfold zeJ at e0 ⊢;rw [<-e1];generalize q1:zev (zc4 c (g i)) none (some (j:Int))=a1 at *;generalize q2:zev (zc4 c (g i)) (some ((j:Int)+1)) none=a2 at *;generalize q3:zev (zce r c g) none (some (i:Int))=b1 at *;generalize q4:zev (zce r c g) (some ((i:Int)+1)) none=b2 at *
 have p1:a1.length+1<=100000:=by omega
 have p2:a1.length+1+a2.length<=100000:=by omega
 have p3:b1.length+1<=100000:=by omega
 have p4:b1.length+1+b2.length<=100000:=by omega
 simp [zbX,zav,zcT,plD,e0,q1,q2,q3,q4,p1,p2,p3,p4]
end S2
namespace S2
open PySem
open L2 hiding D
@[simp] theorem zxT{x y:Bool}:ztu (.bl x) (.bl y)=some (.bl (decide (x=y))):=(rfl)
theorem zcB{tg:Tg}{body:Fs}{ds:List D}(Iv:Nat->Env->Sto->Prop)(step:∀k d ρ S,ds[k]?=some d->Iv k ρ S->∃ρ1 ρ2 S2,tg.put ρ d=some ρ1/\body ρ1 S=.nx ρ2 S2/\Iv (k+1) ρ2 S2){ρ:Env}{S:Sto}(h0:Iv 0 ρ S):∃ρ' S',zfr tg body ds ρ S=.nx ρ' S'/\Iv ds.length ρ' S':=by
 have go:∀(n:Nat) (es:List D) (k:Nat) (ρ:Env) (S:Sto),es.length=n->ds.drop k=es->k+n=ds.length->Iv k ρ S->∃ρ' S',zfr tg body es ρ S=.nx ρ' S'/\Iv ds.length ρ' S':=by
  intro n
  induction n with
  | zero =>
   intro es k ρ S hl he hk hi;obtain rfl:es=[]:=List.eq_nil_of_length_eq_zero hl;exact ⟨ρ,S,rfl,by rw [show ds.length=k by omega];exact hi⟩
  | succ n ih =>
   intro es k ρ S hl he hk hi
   cases es with
   | nil=>cases hl
   | cons d es =>
    have hd:ds[k]?=some d:=by
     have:=congrArg (fun l=>l[0]?) he;rw [List.getElem?_drop] at this;simpa using this
    obtain ⟨ρ1,ρ2,S2,e1,e2,hi2⟩:=step k d ρ S hd hi;obtain ⟨ρ',S',e3,e4⟩:=ih es (k+1) ρ2 S2 (by simpa using hl) (by rw [<-List.drop_drop,he];rfl) (by omega) hi2;refine ⟨ρ',S',?_,e4⟩;unfold zfr;rw [e1];dsimp only;rw [e2];exact e3
 exact go ds.length ds 0 ρ S rfl (by simp) (by omega) h0
theorem ze1{r c i j:Nat}{g:Z1}{S:Sto}(h1:1<=r)(hi:i<r)(hj:j<c):zaJ [flr r c g,plD i j] S=.ok .non S:=by
 have hp:zb7 [flr r c g,plD i j] S=.ok (.bl true) S:=by rw [zdT h1];congr 3;simp;omega
 simp [zaJ,zav,zbn,hp]
theorem zhY{ts:List D}{o:Option Int}{S:Sto}(h:∀x,o=some x->0<=x/\x<ts.length):zc9 [.tup ts,oD o] S=.ok (.bl true) S:=by
 have e:=zdA (ts:=ts) (o:=o) (S:=S) h
 cases o with
 | none=>simp [zc9,zav,zea,oD]
 | some x =>
  simp only [oD] at e;simp [zc9,zav,zea,oD,e]
theorem zcG{ts:Z2}{r c i j:Nat}{g:Z1}{o:Option Int}{S:Sto}(h:∀x,o=some x->0<=x/\x<ts.length)(h1:1<=r)(hi:i<r)(hj:j<c)(hr:r<=100)(hc:c<=100):zbE [.tup (ts.map zab),flr r c g,plD i j,oD o] S=.ok (flr r c (zc5 g i j o)) S:=by
 have e1:=ze1 (g:=g) (S:=S) h1 hi hj;have e2:=zhY (ts:=ts.map zab) (o:=o) (S:=S) (fun x hx=>by simpa using h x hx);have e3:=zeY (g:=g) (o:=o) (S:=S) hi hj hr hc;generalize flr r c g=fl at *;generalize flr r c (zc5 g i j o)=fl' at *;generalize plD i j=pp at *;generalize oD o=od at *;simp [zbE,zav,zdM,e1,e2,e3]
def zfF(q m:Nat):Prop:=zaN q m+m*(zaN q m+q*zaN q m)<=1000000/\q ^ m<=80000
instance{q m:Nat}:Decidable (zfF q m):=by unfold zfF;exact inferInstance
theorem zuw:∀{q:Nat},q<=5->∀{m:Nat},m<=6->zfF q m:=by
 have h:∀q,q<6->∀m,m<7->zfF q m:=by decide
 intro q hq m hm;exact h q (by omega) m (by omega)
structure FP(ts:Z2)(r c:Nat):Prop where
 ht:TOk ts
 h1:1<=ts.length
 h4:zfF ts.length (r*c)
 r1:1<=r
 c1:1<=c
 rc:r*c<=6
theorem FP.r6{ts:Z2}{r c:Nat}(h:FP ts r c):r<=6:=by
 have:=h.rc;have:=h.c1;exact Nat.le_trans (Nat.le_mul_of_pos_right r h.c1) h.rc
theorem FP.c6{ts:Z2}{r c:Nat}(h:FP ts r c):c<=6:=Nat.le_trans (Nat.le_mul_of_pos_left c h.r1) h.rc
theorem zgw(q:Nat)(m:Nat)(h:zfF q m):zaN q m<=1000000/\q ^ m<=80000:=⟨by have:=h.1;omega,h.2⟩
def zae(ts:Z2)(r c:Nat)(g:Z1):List (List Int):=zaz ts (zak r c g) c (r*c)
section
variable{ts:Z2}{r c:Nat}{g:Z1}
theorem zdV(P:FP ts r c)(hg:InT ts g)(S:Sto):∃S',zay [.tup (ts.map zab),flr r c g] S=.ok (.int ((zae ts r c g).length:Nat)) S':=by
 obtain ⟨b1,b2⟩:=zgw ts.length (r*c) P.h4;obtain ⟨S',e⟩:=ze3 (S:=S) P.ht P.h1 hg P.r1 (by have:=P.r6;omega) P.c1 (by have:=P.c6;omega) (by have:=P.rc;omega) (by omega) b1;rw [zeg P.c1 hg] at e;exact ⟨S',e⟩
theorem zjG(P:FP ts r c)(S:Sto):zbP [.tup (ts.map zab),flr r c g] S=.ok (.lst ((zae ts r c g).map zab)) S:=by
 obtain ⟨b1,b2⟩:=zgw ts.length (r*c) P.h4;exact zjF P.ht P.r1 P.c1 (by have:=P.rc;omega) (by have:=P.c6;omega) (by have:=P.r6;omega) b2 P.h1
end
end S2
namespace S2
open PySem
open L2 hiding D
def zeD(r c:Nat):List (Nat×Nat):=(List.range r).flatMap fun i=>(List.range c).map fun j=>(i,j)
theorem zcp{r c:Nat}{g:Z1}:zak r c g=(zeD r c).map fun p=>g p.1 p.2:=by
 unfold zak zeD;rw [List.map_flatMap];congr 1;funext i;rw [List.map_map];rfl
theorem zk3{r c:Nat}{p:Nat×Nat}(h:p∈zeD r c):p.1<r/\p.2<c:=by
 obtain ⟨i,hi,h⟩:=List.mem_flatMap.mp h;obtain ⟨j,hj,rfl⟩:=List.mem_map.mp h;exact ⟨List.mem_range.mp hi,List.mem_range.mp hj⟩
def LeG(r c:Nat)(g h:Z1):Prop:=∀i j,i<r->j<c->g i j=none\/g i j=h i j
theorem zn4{ts:Z2}{g:Z1}{i j:Nat}{o:Option Int}(hg:InT ts g)(ho:∀x,o=some x->0<=x/\x<ts.length):InT ts (zc5 g i j o):=by
 intro a b x hx;unfold zc5 at hx;split at hx
 ·exact ho x hx
 ·exact hg a b x hx
section
variable{ts:Z2}{r c:Nat}{g:Z1}
end
end S2
namespace S2
open PySem
open L2 hiding D
section
variable{ts:Z2}{r c:Nat}{g:Z1}
theorem zn6{i j a b:Nat}(h:plD i j=plD a b):i=a/\j=b:=by
 unfold plD at h
 injection h with h
 injection h with h1 h2
 injection h2 with h2 h3
 injection h1 with h1
 injection h2 with h2
 omega
end
end S2
namespace S2
open PySem
open L2 hiding D
def zfG{α:Type}(w:α->Nat):List α->Nat->Option (α×Nat)
 | [],_=>none
 | p::l,q=>if q<w p then some (p,q) else zfG w l (q-w p)
theorem zi8{α β:Type}{f:α->List β}:∀(xs:List α) (q:Nat),(xs.flatMap f)[q]?=(zfG (fun x=>(f x).length) xs q).bind fun p=>(f p.1)[p.2]?
 | [],q=>by simp [zfG]
 | x::xs,q=>by
  rw [List.flatMap_cons];unfold zfG
  by_cases h:q<(f x).length
  ·rw [if_pos h,List.getElem?_append_left h];rfl
  ·rw [if_neg h,List.getElem?_append_right (by omega),zi8 xs]
theorem zhR{α:Type}{w:α->Nat}{p:α}{q':Nat}:∀{l:List α} {q:Nat},zfG w l q=some (p,q')->p∈l/\q'<w p
 | [],q,h=>by cases h
 | x::l,q,h=>by
  unfold zfG at h;split at h
  ·rename_i hq;cases h;exact ⟨List.mem_cons_self,hq⟩
  ·obtain ⟨h1,h2⟩:=zhR h;exact ⟨List.mem_cons_of_mem _ h1,h2⟩
theorem ziJ{α:Type}{w:α->Nat}:∀{l:List α} {q:Nat},q<(l.map w).sum->∃p,zfG w l q=some p
 | [],q,h=>by simp at h
 | x::l,q,h=>by
  unfold zfG;rw [List.map_cons,List.sum_cons] at h;split
  ·exact ⟨_,rfl⟩
  ·exact ziJ (by omega)
theorem zkB{α β:Type}{w:β->Nat}{g:α->β}:∀(l:List α) (q:Nat),zfG w (l.map g) q=(zfG (fun x=>w (g x)) l q).map fun p=>(g p.1,p.2)
 | [],q=>rfl
 | x::l,q=>by
  rw [List.map_cons];unfold zfG;split
  ·rfl
  ·exact zkB l _
theorem zg5{α:Type}{w w':α->Nat}:∀(l:List α),(∀x∈l,w x=w' x)->∀q,zfG w l q=zfG w' l q
 | [],_,_=>rfl
 | x::l,h,q=>by
  unfold zfG;rw [h x List.mem_cons_self,zg5 l (fun y hy=>h y (List.mem_cons_of_mem _ hy))]
def zcA(ts:Z2)(gr:Z4)(c:Nat)(b:Bool):Nat->Nat->List (Option Int)->Nat->Option (List Int)
 | 0,_,_,_=>some []
 | m+1,k,s,q=>(zfG (fun p=>zbt ts gr c b m (k+1) p.2) (chs ts gr c b k s) q).bind fun p=>(zcA ts gr c b m (k+1) p.1.2 p.2).map (p.1.1::·)
section
variable{n:Nat}{ts:Z2}{gr:Z4}{r c:Nat}{b:Bool}
theorem zs1{m k:Nat}(C:CfOk n ts gr r c b m zat)(hk:k+1+m=gr.length){s1:Option (Bool×D)}{N:List D}(hN:N.length<=1000){p:Int×List (Option Int)}{q':Nat}:∀(cs:List (Int×List (Option Int))) (q:Nat) (S:Sto) (ds:List (D×D)) (s4 s6 s7:Option (Bool×D)),(∀p∈cs,p.2.length=c+2)->zfG (fun p=>zbt ts gr c b m (k+1) p.2) cs q=some (p,q')->WAt S n ts gr r c b ds->znO ts gr c b ds->ds.length+cs.length*zaN ts.length m<=1000000 →
  ∃ds' x6 x7,zfr (.one 6) za5 (cs.map chD) [some (false,.ref n),s1,some (true,.lst N),some (false,.int q),s4,some (false,.int k),s6,s7] S
   = .nx [some (false,.ref n),s1,some (true,.lst (N++[.int p.1])),some (false,.int q'),some (false,zaM p.2),some (false,.int k),x6,x7] (S.set n (wOb (.tup (ts.map zab)) (.lst (gr.map oD)) (.tup [.int r,.int c]) b ds'))/\znO ts gr c b ds'/\ds'.length<=ds.length+cs.length*zaN ts.length m
 | [],q,S,ds,s4,s6,s7,_,e,_,_,_=>by cases e
 | p0::cs,q,S,ds,s4,s6,s7,hl,e,W,M,hz=>by
  rw [List.length_cons,Nat.add_mul] at hz;obtain ⟨ds1,e1,M1,z1,_⟩:=C.run S ds (k+1) p0.2 W M hk (hl p0 List.mem_cons_self) (by omega);have e1':zat [.ref n,.int ((k:Int)+1),zaM p0.2] S=_:=e1;have mo:=W.meth "count_from" (by decide +kernel);have W1:=W.put ds1
  have hNs:N.length<=100000:=by omega
  have i0:ixD (chD p0) (.int 0)=some (.int p0.1):=rfl;have i1:ixD (chD p0) (.int 1)=some (zaM p0.2):=rfl;unfold zfG at e
  by_cases h:q<zbt ts gr c b m (k+1) p0.2
  ·rw [if_pos h] at e;cases e;refine ⟨ds1,some (false,chD p),some (false,.int (zbt ts gr c b m (k+1) p.2:Nat)),?_,M1,by rw [List.length_cons,Nat.add_mul];omega⟩;rw [List.map_cons];unfold zfr;generalize wOb (.tup (ts.map zab)) (.lst (gr.map oD)) (.tup [.int r,.int c]) b ds1=ob at *;generalize zbt ts gr c b m (k+1) p.2=ww at *;generalize chD p=cp at *;generalize zaM p.2=sd at *;simp [za5,mo,i0,i1,e1',h,hNs]
  ·rw [if_neg h] at e;obtain ⟨ds2,x6,x7,e2,M2,z2⟩:=zs1 (s1:=s1) C hk hN cs (q-zbt ts gr c b m (k+1) p0.2) _ ds1 s4 (some (false,chD p0)) (some (false,.int (zbt ts gr c b m (k+1) p0.2:Nat))) (fun p hp=>hl p (List.mem_cons_of_mem _ hp)) e W1 M1 (by omega);refine ⟨ds2,x6,x7,?_,M2,by rw [List.length_cons,Nat.add_mul];omega⟩;rw [List.set_set] at e2
   have hq:((q-zbt ts gr c b m (k+1) p0.2:Nat):Int)=(q:Int)-((zbt ts gr c b m (k+1) p0.2:Nat):Int):=by omega
   rw [hq] at e2;rw [List.map_cons];unfold zfr;generalize wOb (.tup (ts.map zab)) (.lst (gr.map oD)) (.tup [.int r,.int c]) b ds1=ob at *;generalize zbt ts gr c b m (k+1) p0.2=ww at *;generalize chD p0=cp at *;generalize zaM p0.2=sd at *;simp [za5,mo,i0,i1,e1',h,zo8];exact e2
end
end S2
namespace S2
open PySem
open L2 hiding D
theorem zkL{q:Nat}(h:1<=q):∀{m L:Nat},m<=L->zaN q m<=zaN q L:=by
 intro m L hml
 have step:∀n,zaN q n<=zaN q (n+1):=by
  intro n;show _<=1+q*zaN q n;have:1*zaN q n<=q*zaN q n:=Nat.mul_le_mul_right _ h;omega
 induction L with
 | zero=>rw [show m=0 by omega];exact Nat.le_refl _
 | succ L ih =>
  by_cases e:m=L+1
  ·rw [e];exact Nat.le_refl _
  ·exact Nat.le_trans (ih (by omega)) (step L)
theorem zdW{L k:Nat}{d:D}(h:(zas 0 (L:Int))[k]?=some d):k<L/\d=.int (k:Int):=by
 unfold zas at h;simp only [Int.sub_zero,Int.toNat_natCast] at h;rw [List.getElem?_map] at h
 by_cases hk:k<L
 ·rw [List.getElem?_range hk] at h;refine ⟨hk,?_⟩;have:=(Option.some.inj h).symm;simpa using this
 ·rw [List.getElem?_eq_none (by simp;omega)] at h;cases h
section
variable{n:Nat}{ts:Z2}{gr:Z4}{r c:Nat}{b:Bool}
theorem zfM{S:Sto}{ds:List (D×D)}{q:Nat}(W:WAt S n ts gr r c b ds)(M:znO ts gr c b ds)(ht:TOk ts)(h1:1<=ts.length)(hg:∀o∈gr,∀x,o=some x->0<=x/\x<ts.length)(hc:1<=c)(hc2:c<=100)(hm:gr.length<=30)(hp:ts.length ^ gr.length<=1000000)(hz:ds.length+gr.length*(ts.length*zaN ts.length gr.length)<=1000000)(hq:q<zbt ts gr c b gr.length 0 (List.replicate (c+2) none)) :
  ∃ds' t,zcA ts gr c b gr.length 0 (List.replicate (c+2) none) q=some t/\zbf [.ref n,.int q] S=.ok (.lst (t.map D.int)) (S.set n (wOb (.tup (ts.map zab)) (.lst (gr.map oD)) (.tup [.int r,.int c]) b ds')):=by
 have e1:=zcs W hc2;have m1:=W.meth "first_seam" (by decide +kernel)
 obtain ⟨ρ',S',e2,t,s,q',ds',x5,x6,x7,rfl,rfl,M',z',hs,ht',hq',hpath⟩:=zcB (tg:=.one 5) (body:=zbs) (ds:=zas 0 (gr.length:Int)) (fun k ρ S'=>∃(t:List Int) (s:Z4) (q':Nat) (ds':List (D×D)) (x5 x6 x7:Option (Bool×D)),ρ=[some (false,.ref n),some (false,.int q),some (true,.lst (t.map D.int)),some (false,.int q'),some (false,zaM s),x5,x6,x7]/\S'=S.set n (wOb (.tup (ts.map zab)) (.lst (gr.map oD)) (.tup [.int r,.int c]) b ds')/\znO ts gr c b ds'/\ds'.length<=ds.length+k*(ts.length*zaN ts.length gr.length)/\s.length=c+2/\t.length=k/\q'<zbt ts gr c b (gr.length-k) k s/\(zcA ts gr c b (gr.length-k) k s q').map (t++·)=zcA ts gr c b gr.length 0 (List.replicate (c+2) none) q) (by
  rintro k d ρ S' hd ⟨t,s,q',ds',x5,x6,x7,rfl,rfl,M',z',hs,ht',hq',hpath⟩;obtain ⟨hk,rfl⟩:=zdW hd;obtain ⟨m,hmk⟩:∃m,gr.length-k=m+1:=⟨gr.length-k-1,by omega⟩;rw [hmk] at hq' hpath;have W':=W.put ds';have C:CfOk n ts gr r c b m zat:=zjm ht h1 hg hc hc2 m 40 (by omega) (Nat.le_trans (Nat.pow_le_pow_right h1 (by omega)) hp);have ech:=ze4 (k:=k) (s:=s) W' ht hk hg hc hc2 hs;obtain ⟨⟨p,q2⟩,esel⟩:=ziJ (w:=fun p=>zbt ts gr c b m (k+1) p.2) (l:=chs ts gr c b k s) hq';obtain ⟨hpm,hq2⟩:=zhR esel;have hcl:=zis (gr:=gr) (c:=c) (b:=b) (k:=k) (s:=s) h1;have hmul:(chs ts gr c b k s).length*zaN ts.length m<=ts.length*zaN ts.length gr.length:=Nat.mul_le_mul hcl (zkL h1 (by omega));have hkz:(k+1)*(ts.length*zaN ts.length gr.length)<=gr.length*(ts.length*zaN ts.length gr.length):=Nat.mul_le_mul_right _ hk
  have hk1:(k+1)*(ts.length*zaN ts.length gr.length)=k*(ts.length*zaN ts.length gr.length)+ts.length*zaN ts.length gr.length:=by rw [Nat.add_mul,Nat.one_mul]
  obtain ⟨ds2,y6,y7,e3,M2,z2⟩:=zs1 (s1:=some (false,.int q)) (N:=t.map D.int) C (by omega) (by rw [List.length_map];omega) (chs ts gr c b k s) q' _ ds' (some (false,zaM s)) x6 x7 (zgI hc hs) esel W' M' (by omega);rw [List.set_set] at e3;have mo:=W'.meth "choices" (by decide +kernel);refine ⟨_,_,_,rfl,?_,t++[p.1],p.2,q2,ds2,some (false,.int k),y6,y7,rfl,rfl,M2,by omega,zgI hc hs p hpm,by rw [List.length_append,ht'];rfl,by rw [show gr.length-(k+1)=m by omega];exact hq2,?_⟩
  ·have em:(t++[p.1]).map D.int=t.map D.int++[D.int p.1]:=by rw [List.map_append];rfl
   rw [em];generalize wOb (.tup (ts.map zab)) (.lst (gr.map oD)) (.tup [.int r,.int c]) b ds'=ob at *;generalize wOb (.tup (ts.map zab)) (.lst (gr.map oD)) (.tup [.int r,.int c]) b ds2=ob2 at *;generalize (chs ts gr c b k s).map chD=cs at *;generalize zaM s=sd at *;generalize zaM p.2=sp at *;simp [zbs,mo,ech,e3]
  ·rw [<-hpath,show gr.length-(k+1)=m by omega];show _=Option.map (t++·) ((zfG (fun p=>zbt ts gr c b m (k+1) p.2) (chs ts gr c b k s) q').bind fun p=>(zcA ts gr c b m (k+1) p.1.2 p.2).map (p.1.1::·));rw [esel];show _=Option.map (t++·) ((zcA ts gr c b m (k+1) p.2 q2).map (p.1::·))
   cases zcA ts gr c b m (k+1) p.2 q2 with
   | none=>rfl
   | some u=>simp)
  (ρ:=[some (false,.ref n),some (false,.int q),some (true,.lst []),some (false,.int q),some (false,zaM (List.replicate (c+2) none)),none,none,none]) (S:=S) ⟨[],List.replicate (c+2) none,q,ds,none,none,none,rfl,(zeO W.at_).symm,M,by omega,List.length_replicate ..,rfl,hq,by
   show Option.map (fun x=>[]++x) (zcA ts gr c b gr.length 0 _ q)=_
   cases zcA ts gr c b gr.length 0 (List.replicate (c+2) none) q<;>rfl⟩
 have hL:(zas 0 (gr.length:Int)).length=gr.length:=by unfold zas;simp
 rw [hL,Nat.sub_self] at hpath
 have hpath':zcA ts gr c b gr.length 0 (List.replicate (c+2) none) q=some t:=by
  rw [<-hpath];show some (t++[])=some t;rw [List.append_nil]
 refine ⟨ds',t,hpath',?_⟩
 have hgl:-1000000<=(gr.length:Int)/\(gr.length:Int)<=1000000:=by omega
 have eg:=W.ground;generalize wOb (.tup (ts.map zab)) (.lst (gr.map oD)) (.tup [.int r,.int c]) b ds'=ob at *;generalize zaM (List.replicate (c+2) none)=sd at *;generalize t.map D.int=td at *;simp [zbf,zav,zbJ,m1,e1,eg,hgl,e2]
end
end S2
namespace S2
open PySem
open L2 hiding D
def xsT(ts:Z2)(c:Nat)(o:Option Int)(t:List Int):List Int:=(zbT ts).filter fun x=>okO o x&&zhu ts c t x
def zjA(ts:Z2)(gr:Z4)(c:Nat):Nat->List Int->List (List Int)
 | 0,_=>[[]]
 | m+1,t=>(xsT ts c (gr.getD t.length none) t).flatMap fun x=>(zjA ts gr c m (t++[x])).map (x::·)
theorem zes{α β:Type}{f g:α->List β}:∀{l:List α},(∀x∈l,f x=g x)->l.flatMap f=l.flatMap g
 | [],_=>rfl
 | x::l,h=>by rw [List.flatMap_cons,List.flatMap_cons,h x List.mem_cons_self,zes fun y hy=>h y (List.mem_cons_of_mem _ hy)]
section
variable{ts:Z2}{gr:Z4}{c:Nat}
theorem ziI:∀m t,(zjA ts gr c m t).length=zlN ts gr c m t
 | 0,_=>rfl
 | m+1,t=>by
  show ((xsT ts c (gr.getD t.length none) t).flatMap _).length=((zbH ts c (gr.getD t.length none) t).map (zlN ts gr c m)).sum;unfold zbH;rw [List.length_flatMap,List.map_map];congr 1;apply List.map_congr_left;intro x _;show ((zjA ts gr c m (t++[x])).map (x::·)).length=zlN ts gr c m (t++[x]);rw [List.length_map,ziI m]
theorem zgb:∀m k,zaz ts gr c (k+m)=(zaz ts gr c k).flatMap fun t=>(zjA ts gr c m t).map (t++·)
 | 0,k=>by
  show zaz ts gr c k=_;generalize zaz ts gr c k=F
  induction F with
  | nil=>rfl
  | cons t F ih=>rw [List.flatMap_cons,<-ih];simp [zjA]
 | m+1,k=>by
  rw [show k+(m+1)=(k+1)+m by omega,zgb m (k+1)];show ((zaz ts gr c k).flatMap (zbH ts c (gr.getD k none))).flatMap _=_;rw [List.flatMap_assoc];apply zes;intro t ht;have hl:=((zde k).mem t ht).1;show ((((zbT ts).filter fun x=>okO (gr.getD k none) x&&zhu ts c t x).map fun x=>t++[x]).flatMap _)=((xsT ts c (gr.getD t.length none) t).flatMap fun x=>(zjA ts gr c m (t++[x])).map (x::·)).map (t++·);rw [hl,List.flatMap_map,List.map_flatMap];apply zes;intro x _;rw [List.map_map];apply List.map_congr_left;intro u _;simp
theorem zlJ{L:Nat}:zaz ts gr c L=zjA ts gr c L []:=by
 have:=zgb (ts:=ts) (gr:=gr) (c:=c) L 0;rw [Nat.zero_add] at this;rw [this];simp [zaz]
theorem zhh(hc:1<=c)(hg:∀o∈gr,∀x,o=some x->0<=x/\x<ts.length):∀m t s q,SeamOk ts gr.length c t s->t.length+m=gr.length->q<zbt ts gr c false m t.length s->zcA ts gr c false m t.length s q=(zjA ts gr c m t)[q]?
 | 0,_,_,q,_,_,hq=>by
  have hq':q<1:=hq;rw [show q=0 by omega];rfl
 | m+1,t,s,q,h,hl,hq=>by
  have hk:t.length<gr.length:=by omega
  have ho:∀x,gr.getD t.length none=some x->0<=x/\x<ts.length:=by
   rw [List.getD_eq_getElem?_getD,List.getElem?_eq_getElem hk];exact hg _ (List.getElem_mem hk)
  have ex:(zh3 ts (gr.getD t.length none)).filter (zjd ts c false t.length s)=xsT ts c (gr.getD t.length none) t:=by
   unfold xsT;rw [zf2 ho];congr 1;funext x;exact zjc h hc hk
  have wx:∀x,zbt ts gr c false m (t.length+1) (zgS ts gr.length c false t.length s x)=(zjA ts gr c m (t++[x])).length:=by
   intro x;have:=zgi hc hg m (t++[x]) _ (h.next (x:=x) hc) (by rw [List.length_append,List.length_singleton];omega);rw [List.length_append,List.length_singleton] at this;rw [this,ziI]
  show ((zfG (fun p=>zbt ts gr c false m (t.length+1) p.2) (chs ts gr c false t.length s) q).bind fun p=>(zcA ts gr c false m (t.length+1) p.1.2 p.2).map (p.1.1::·))=((xsT ts c (gr.getD t.length none) t).flatMap fun x=>(zjA ts gr c m (t++[x])).map (x::·))[q]?;rw [zi8];unfold chs;rw [ex,zkB];have ec:=zg5 (w:=fun x=>zbt ts gr c false m (t.length+1) (zgS ts gr.length c false t.length s x)) (w':=fun x=>((zjA ts gr c m (t++[x])).map (x::·)).length) (xsT ts c (gr.getD t.length none) t) (fun x _=>by rw [List.length_map];exact wx x) q;show ((zfG (fun x=>zbt ts gr c false m (t.length+1) (zgS ts gr.length c false t.length s x)) (xsT ts c (gr.getD t.length none) t) q).map fun p=>((p.1,zgS ts gr.length c false t.length s p.1),p.2)).bind _=_;rw [ec]
  cases hs:zfG (fun x=>((zjA ts gr c m (t++[x])).map (x::·)).length) (xsT ts c (gr.getD t.length none) t) q with
  | none=>rfl
  | some p =>
   obtain ⟨x,q'⟩:=p;obtain ⟨_,hq2⟩:=zhR hs;rw [List.length_map] at hq2;show (zcA ts gr c false m (t.length+1) (zgS ts gr.length c false t.length s x) q').map (x::·)=((zjA ts gr c m (t++[x])).map (x::·))[q']?
   have ih:=zhh hc hg m (t++[x]) _ q' (h.next (x:=x) hc) (by rw [List.length_append,List.length_singleton];omega) (by
    rw [List.length_append,List.length_singleton,wx];exact hq2)
   rw [List.length_append,List.length_singleton] at ih;rw [ih,List.getElem?_map]
end
theorem zjJ{ts:Z2}{r c:Nat}{g:Z1}{q:Nat}(hc:1<=c)(hg:InT ts g)(hq:q<(zae ts r c g).length):zcA ts (zak r c g) c false (r*c) 0 (List.replicate (c+2) none) q=(zae ts r c g)[q]?:=by
 have hw:zbt ts (zak r c g) c false (r*c) 0 (List.replicate (c+2) none)=(zae ts r c g).length:=zeg hc hg;have:=zhh (ts:=ts) (gr:=zak r c g) (c:=c) hc (zfp hg) (r*c) [] (List.replicate (c+2) none) q (by rw [zaK];exact SeamOk.first) (by rw [zaK];simp) (by show q<zbt ts (zak r c g) c false (r*c) 0 _;rw [hw];exact hq);unfold zae;rw [zlJ];exact this
def zbb(c:Nat)(t:List Int):Nat->Nat->Option Int:=fun i j=>some (t.getD (i*c+j) 0)
theorem zqe{t:List Int}{r c i:Nat}(hl:t.length=r*c)(hi:i<r):zev (t.map D.int) (some ((i:Int)*(c:Int))) (some (((i:Int)+1)*(c:Int)))=zc4 c (zbb c t i):=by
 have h1:i*c+c<=r*c:=by
  have:=Nat.mul_le_mul_right c (show i+1<=r by omega);rw [Nat.succ_mul] at this;exact this
 unfold zev;rw [show (i:Int)*(c:Int)=((i*c:Nat):Int) by rw [Int.natCast_mul],show ((i:Int)+1)*(c:Int)=((i*c+c:Nat):Int) by rw [Int.add_mul,Int.one_mul,Int.natCast_add,Int.natCast_mul],HT.zgp,HT.zgp,List.length_map,hl];rw [Nat.min_eq_left h1,Nat.min_eq_left (show i*c<=r*c by omega),show i*c+c-i*c=c by omega];apply List.ext_getElem?;intro j;rw [List.getElem?_take]
 by_cases hj:j<c
 ·rw [if_pos hj,List.getElem?_drop,zcH hj,List.getElem?_map,List.getElem?_eq_getElem (by omega)];simp [oD,zbb,List.getD_eq_getElem?_getD,List.getElem?_eq_getElem (show i*c+j<t.length by omega)]
 ·rw [if_neg hj,List.getElem?_eq_none (by simp [zc4];omega)]
theorem zhZ{t:List Int}{r c:Nat}{S:Sto}(hl:t.length=r*c)(hc:c<=100)(hr:r<=100):zdX [.lst (t.map D.int),.tup [.int r,.int c]] S=.ok (flr r c (zbb c t)) S:=by
 have fc:zbU (c:Int)=true:=zlM (by omega) (by omega)
 have ec:=zfD (tg:=.one 0) (elt:=zaE zb6 [(eSl (zai 1) (some (zaf zfO (zai 0) (zaf ixD (zai 2) (zah (.int 1))))) (some (zaf zfO (zaf zb5 (zai 0) (zah (.int 1))) (zaf ixD (zai 2) (zah (.int 1))))))]) (ρ0:=[none,some (false,.lst (t.map D.int)),some (false,.tup [.int r,.int c])]) (S:=S) (g:=fun d=>match d with | .int i=>zeJ c (zbb c t i.toNat) | _=>.non) (ds:=zas 0 (r:Int)) (by
  intro d hd;obtain ⟨k,hk⟩:=List.getElem?_of_mem hd;obtain ⟨hi,rfl⟩:=zdW hk;refine ⟨_,rfl,?_⟩;have e:=zqe hl hi;show _=Out.ok (D.tup (zc4 c (zbb c t ((k:Int).toNat)))) S;rw [Int.toNat_natCast];generalize zc4 c (zbb c t k)=res at *;generalize t.map D.int=td at *
  simp [fc,e])
 have er:(zas 0 (r:Int)).map (fun d=>match d with | .int i=>zeJ c (zbb c t i.toNat) | _=>.non)=zce r c (zbb c t):=by
  unfold zas zce;simp only [Int.sub_zero,Int.toNat_natCast,List.map_map];apply List.map_congr_left;intro i _;simp
 rw [er] at ec
 have hl2:(zce r c (zbb c t)).length<=100000:=by rw [zcQ];omega
 have hr2:-1000000<=(r:Int)/\(r:Int)<=1000000:=by omega
 unfold flr;generalize zce r c (zbb c t)=res at *;generalize t.map D.int=td at *;simp [zdX,zav,zfw,hr2,ec,hl2]
end S2
namespace S2
open PySem
open L2 hiding D
section
variable{n:Nat}{ts:Z2}{gr:Z4}{r c:Nat}{b:Bool}{S:Sto}
theorem zfN(W:WAt S n ts gr r c b [])(ht:TOk ts)(h1:1<=ts.length)(hg:∀o∈gr,∀x,o=some x->0<=x/\x<ts.length)(hc:1<=c)(hc2:c<=100)(hm:gr.length<=30)(hp:ts.length ^ gr.length<=1000000)(hq:zaN ts.length gr.length<=1000000) :
  ∃ds',zaB [.ref n] S=.ok (.int (zbt ts gr c b gr.length 0 (List.replicate (c+2) none))) (S.set n (wOb (.tup (ts.map zab)) (.lst (gr.map oD)) (.tup [.int r,.int c]) b ds'))/\znO ts gr c b ds'/\ds'.length<=zaN ts.length gr.length:=by
 obtain ⟨ds',e,M,z,_⟩:=(zjm (n:=n) (r:=r) (b:=b) ht h1 hg hc hc2 gr.length 40 (by omega) hp).run S [] 0 (List.replicate (c+2) none) W (fun k s d h=>by cases h) (by omega) (List.length_replicate ..) (by simpa using hq);refine ⟨ds',?_,M,by simpa using z⟩;have e':zat [.ref n,.int 0,zaM (List.replicate (c+2) none)] S=_:=e;have e2:=zcs W hc2;have m1:=W.meth "count_from" (by decide +kernel);have m2:=W.meth "first_seam" (by decide +kernel);generalize wOb (.tup (ts.map zab)) (.lst (gr.map oD)) (.tup [.int r,.int c]) b ds'=ob at *;simp [zaB,zav,zbo,m1,m2,e2,e']
theorem zg7{q:Int}(W:WAt S n ts gr r c b [])(ht:TOk ts)(h1:1<=ts.length)(hg:∀o∈gr,∀x,o=some x->0<=x/\x<ts.length)(hc:1<=c)(hc2:c<=100)(hr:r<=100)(hrc:gr.length=r*c)(hm:gr.length<=30)(hp:ts.length ^ gr.length<=1000000)(hz:zaN ts.length gr.length+gr.length*(ts.length*zaN ts.length gr.length)<=1000000) :
  ∃S',zaQ [.ref n,.int q] S=(if 0<=q/\q<zbt ts gr c b gr.length 0 (List.replicate (c+2) none) then .ok (flr r c (zbb c ((zcA ts gr c b gr.length 0 (List.replicate (c+2) none) q.toNat).getD []))) S' else .exc "NoFill" S'):=by
 obtain ⟨ds',e1,M,z⟩:=zfN W ht h1 hg hc hc2 hm hp (by omega);have m1:=W.meth "count_all" (by decide +kernel)
 by_cases h0:0<=q
 ·by_cases hN:q<zbt ts gr c b gr.length 0 (List.replicate (c+2) none)
  ·obtain ⟨q',rfl⟩:=Int.eq_ofNat_of_zero_le h0;have W':=W.put ds'
   have hq':q'<zbt ts gr c b gr.length 0 (List.replicate (c+2) none):=by omega
   obtain ⟨ds2,t,et,e2⟩:=zfM (q:=q') W' M ht h1 hg hc hc2 hm hp (by omega) hq';rw [List.set_set] at e2;have W2:=W.put ds2;have es:=W2.size;have m2:=W'.meth "numbers_by" (by decide +kernel)
   have htl:t.length=gr.length:=by
    have:∀m k s q t,zcA ts gr c b m k s q=some t->t.length=m:=by
     intro m
     induction m with
     | zero=>intro k s q t h;cases h;rfl
     | succ m ih =>
      intro k s q t h;unfold zcA at h
      cases hs:zfG (fun p=>zbt ts gr c b m (k+1) p.2) (chs ts gr c b k s) q with
      | none=>rw [hs] at h;cases h
      | some p =>
       rw [hs] at h
       cases hp:zcA ts gr c b m (k+1) p.1.2 p.2 with
       | none =>
        have h':(zcA ts gr c b m (k+1) p.1.2 p.2).map (p.1.1::·)=some t:=h;rw [hp] at h';cases h'
       | some u =>
        have h':(zcA ts gr c b m (k+1) p.1.2 p.2).map (p.1.1::·)=some t:=h;rw [hp] at h';cases h';rw [List.length_cons,ih _ _ _ _ hp]
    exact this _ _ _ _ _ et
   have er:=zhZ (t:=t) (r:=r) (c:=c) (S:=S.set n (wOb (.tup (ts.map zab)) (.lst (gr.map oD)) (.tup [.int r,.int c]) b ds2)) (by omega) hc2 hr;refine ⟨S.set n (wOb (.tup (ts.map zab)) (.lst (gr.map oD)) (.tup [.int r,.int c]) b ds2),?_⟩;rw [if_pos ⟨h0,hN⟩,Int.toNat_natCast,et];show _=Out.ok (flr r c (zbb c t)) _;have hlt:q'<zbt ts gr c b gr.length 0 (List.replicate (c+2) none):=hq';generalize zbt ts gr c b gr.length 0 (List.replicate (c+2) none)=ww at *;generalize wOb (.tup (ts.map zab)) (.lst (gr.map oD)) (.tup [.int r,.int c]) b ds'=ob1 at *;generalize wOb (.tup (ts.map zab)) (.lst (gr.map oD)) (.tup [.int r,.int c]) b ds2=ob2 at *;generalize flr r c (zbb c t)=fl at *;generalize t.map D.int=td at *;simp [zaQ,zav,zbe,m1,e1,hlt,m2,e2,es,er]
  ·refine ⟨S.set n (wOb (.tup (ts.map zab)) (.lst (gr.map oD)) (.tup [.int r,.int c]) b ds'),?_⟩;rw [if_neg (fun z=>hN z.2)];generalize zbt ts gr c b gr.length 0 (List.replicate (c+2) none)=ww at *;generalize wOb (.tup (ts.map zab)) (.lst (gr.map oD)) (.tup [.int r,.int c]) b ds'=ob1 at *;simp [zaQ,zav,zbe,m1,e1,hN,h0]
 ·refine ⟨S,?_⟩;rw [if_neg (fun z=>h0 z.1)];simp [zaQ,zav,zbe,h0]
end
theorem zmG(q m:Nat)(h:zfF q m):zaN q m+m*(q*zaN q m)<=1000000:=by
 have h1:=h.1;have:m*(q*zaN q m)<=m*(zaN q m+q*zaN q m):=Nat.mul_le_mul_left _ (Nat.le_add_left _ _);omega
theorem zmA{ts:Z2}{r c:Nat}{g:Z1}(P:FP ts r c)(hg:InT ts g)(q:Int)(S:Sto) :
  ∃S',zfZ [.tup (ts.map zab),flr r c g,.int q] S=(if 0<=q/\q<((zae ts r c g).length:Int) then .ok (flr r c (zbb c ((zae ts r c g).getD q.toNat []))) S' else .exc "NoFill" S'):=by
 obtain ⟨b1,b2⟩:=zgw ts.length (r*c) P.h4;have b3:=zmG ts.length (r*c) P.h4;have r6:=P.r6;have c6:=P.c6;have e1:=ziK (T:=.tup (ts.map zab)) (b:=false) (S:=S) (g:=g) (c:=c) P.r1 (show r<=100 by omega) (show c<=100 by omega);have W:WAt (S++[wOb (.tup (ts.map zab)) (.lst ((zak r c g).map oD)) (.tup [.int r,.int c]) false []]) S.length ts (zak r c g) r c false []:=⟨by rw [List.getElem?_append_right (Nat.le_refl _),Nat.sub_self];rfl⟩;have gl:=zaK (r:=r) (c:=c) (g:=g);have rc:=P.rc;obtain ⟨S',e2⟩:=zg7 (q:=q) W P.ht P.h1 (zfp hg) P.c1 (by omega) (by omega) gl (by omega) (by rw [gl];omega) (by rw [gl];exact b3);rw [gl] at e2;have hw:zbt ts (zak r c g) c false (r*c) 0 (List.replicate (c+2) none)=(zae ts r c g).length:=zeg P.c1 hg;rw [hw] at e2;have m:=W.meth "whole_by" (by decide +kernel);refine ⟨S',?_⟩;have ei:=zdG (i:=q) (S:=S)
 by_cases h:0<=q/\q<((zae ts r c g).length:Int)
 ·rw [if_pos h] at e2 ⊢;have hp:=zjJ (r:=r) (q:=q.toNat) P.c1 hg (by obtain ⟨x,y⟩:=h;omega);rw [hp,<-List.getD_eq_getElem?_getD] at e2;generalize flr r c (zbb c ((zae ts r c g).getD q.toNat []))=res at *;generalize wOb (.tup (ts.map zab)) (.lst ((zak r c g).map oD)) (.tup [.int r,.int c]) false []=ob at *;generalize flr r c g=fl at *;simp [zfZ,zav,zje,ei,e1,m,e2]
 ·rw [if_neg h] at e2 ⊢;generalize wOb (.tup (ts.map zab)) (.lst ((zak r c g).map oD)) (.tup [.int r,.int c]) false []=ob at *;generalize flr r c g=fl at *;simp [zfZ,zav,zje,ei,e1,m,e2]
end S2
namespace S2
open PySem
open L2 hiding D
def agN(gr:Z4)(k:Nat)(t:List Int):Bool:=(List.range k).all fun i=>okO (gr.getD i none) (t.getD i 0)
theorem znM{gr:Z4}{k:Nat}{t:List Int}:agN gr (k+1) t=(agN gr k t&&okO (gr.getD k none) (t.getD k 0)):=by
 unfold agN;rw [List.range_succ,List.all_append];simp
theorem zqy{gr:Z4}{k:Nat}{t u:List Int}(h:k<=t.length):agN gr k (t++u)=agN gr k t:=by
 unfold agN;rw [Bool.eq_iff_iff,List.all_eq_true,List.all_eq_true]
 have e:∀i∈List.range k,(t++u).getD i 0=t.getD i 0:=fun i hi=>by
  have:=List.mem_range.mp hi;rw [List.getD_eq_getElem?_getD,List.getD_eq_getElem?_getD,List.getElem?_append_left (by omega)]
 constructor
 ·intro z i hi;have:=z i hi;rw [e i hi] at this;exact this
 ·intro z i hi;rw [e i hi];exact z i hi
theorem zeG{ts:Z2}{gr:Z4}{c:Nat}:∀k,zaz ts gr c k=(zaz ts [] c k).filter (agN gr k)
 | 0=>rfl
 | k+1=>by
  show (zaz ts gr c k).flatMap _=((zaz ts [] c k).flatMap _).filter _;rw [zeG k];have hl:∀t∈zaz ts [] c k,t.length=k:=fun t ht=>((zde k).mem t ht).1
  generalize zaz ts [] c k=F at hl;have hn:([]:Z4).getD k none=none:=rfl;rw [hn]
  induction F with
  | nil=>rfl
  | cons t F ih =>
   have ih':=ih fun u hu=>hl u (List.mem_cons_of_mem _ hu)
   have ht:=hl t List.mem_cons_self;rw [List.flatMap_cons,List.filter_append,<-ih',List.filter_cons]
   have key:(zbH ts c none t).filter (agN gr (k+1))=if agN gr k t then zbH ts c (gr.getD k none) t else []:=by
    unfold zbH;rw [List.filter_map]
    have ef:(agN gr (k+1)∘fun x=>t++[x])=fun x=>agN gr k t&&okO (gr.getD k none) x:=by
     funext x;show agN gr (k+1) (t++[x])=_;rw [znM,zqy (by omega)]
     have:(t++[x]).getD k 0=x:=by rw [List.getD_eq_getElem?_getD,List.getElem?_append_right (by omega),ht];simp
     rw [this]
    rw [ef,List.filter_filter]
    cases ha:agN gr k t with
    | true =>
     simp only [Bool.true_and,if_true];rfl
    | false =>
     have:∀l:List Int,l.filter (fun a=>(false&&okO (gr.getD k none) a)&&(okO none a&&zhu ts c t a))=[]:=by
      intro l;rw [List.filter_eq_nil_iff];intro a _;simp
     rw [this];rfl
   rw [key]
   cases agN gr k t with
   | true=>simp only [if_true,List.flatMap_cons]
   | false=>simp
def zze(ts:Z2)(r c:Nat):List (List Int):=zaz ts [] c (r*c)
def agG(r c:Nat)(g:Z1)(t:List Int):Bool:=agN (zak r c g) (r*c) t
theorem zcS{ts:Z2}{r c:Nat}{g:Z1}:zae ts r c g=(zze ts r c).filter (agG r c g):=zeG _
theorem zk4{r c:Nat}(hc:1<=c):∀{k:Nat},k<r*c->(zeD r c)[k]?=some (k / c,k % c):=by
 induction r with
 | zero=>intro k h;omega
 | succ r ih =>
  intro k h
  have hl:(zeD r c).length=r*c:=by
   have:=zaK (r:=r) (c:=c) (g:=fun _ _=>none);rw [zcp,List.length_map] at this;exact this
  have e:zeD (r+1) c=zeD r c++(List.range c).map fun j=>(r,j):=by
   unfold zeD;rw [List.range_succ,List.flatMap_append];simp
  rw [e]
  by_cases z:k<r*c
  ·rw [List.getElem?_append_left (by omega)];exact ih z
  ·rw [List.getElem?_append_right (by omega),hl,List.getElem?_map]
   have h2:k<r*c+c:=by rw [Nat.succ_mul] at h;exact h
   rw [List.getElem?_range (by omega)]
   have hd:k / c=r:=by
    rw [Nat.div_eq_iff (by omega)];have:r*c=c*r:=Nat.mul_comm _ _
    constructor<;>first | omega | (rw [Nat.mul_comm];omega) | skip
    all_goals omega
   have hm:k % c=k-r*c:=by
    have:=Nat.div_add_mod k c;rw [hd] at this;rw [Nat.mul_comm] at this;omega
   rw [hd,hm];rfl
theorem zf8{r c k:Nat}{g:Z1}(hc:1<=c)(h:k<r*c):(zak r c g).getD k none=g (k / c) (k % c):=by
 rw [zcp,List.getD_eq_getElem?_getD,List.getElem?_map,zk4 hc h];rfl
theorem zin{r c k:Nat}(hc:1<=c)(h:k<r*c):k / c<r:=Nat.div_lt_of_lt_mul (by rw [Nat.mul_comm];exact h)
theorem zjR{r c i j:Nat}(hi:i<r)(hj:j<c):i*c+j<r*c:=by
 have:=Nat.mul_le_mul_right c (show i+1<=r by omega);rw [Nat.succ_mul] at this;omega
theorem zlz{c i j:Nat}(hj:j<c):(i*c+j) / c=i/\(i*c+j) % c=j:=by
 have hc:0<c:=by omega
 constructor
 ·rw [Nat.mul_comm,Nat.mul_add_div hc,Nat.div_eq_of_lt hj,Nat.add_zero]
 ·rw [Nat.mul_comm,Nat.mul_add_mod,Nat.mod_eq_of_lt hj]
theorem zfE{r c:Nat}{g:Z1}{t:List Int}(hc:1<=c):agG r c g t=true↔∀i j,i<r->j<c->okO (g i j) (t.getD (i*c+j) 0)=true:=by
 unfold agG agN;rw [List.all_eq_true];constructor
 ·intro h i j hi hj;have:=h (i*c+j) (List.mem_range.mpr (zjR hi hj));rw [zf8 hc (zjR hi hj),(zlz hj).1,(zlz hj).2] at this;exact this
 ·intro h k hk;have hk:=List.mem_range.mp hk;rw [zf8 hc hk];have:=h (k / c) (k % c) (zin hc hk) (Nat.mod_lt _ hc);rw [Nat.mul_comm,Nat.div_add_mod] at this;exact this
theorem zek{o:Option Int}{x:Int}:okO o x=true↔o=none\/o=some x:=by
 cases o with
 | none=>simp [okO]
 | some y=>simp [okO]
structure RtL(ts:Z2)(c k:Nat)(t:List Int):Prop where
 len:t.length=k
 inr:InR ts t
 fit:∀i,i<k->zhu ts c (t.take i) (t.getD i 0)=true
theorem zf4{ts:Z2}{x:Int}:x∈zbT ts↔0<=x/\x<ts.length:=by
 unfold zbT;rw [List.mem_map];constructor
 ·rintro ⟨i,hi,rfl⟩;have:=List.mem_range.mp hi;omega
 ·intro h;exact ⟨x.toNat,List.mem_range.mpr (by omega),by omega⟩
theorem zff{ts:Z2}{c:Nat}:∀{k:Nat} {t:List Int},t∈zaz ts [] c k↔RtL ts c k t
 | 0,t=>by
  constructor
  ·intro h;rw [List.mem_singleton.mp h];exact ⟨rfl,fun x hx=>(List.not_mem_nil hx).elim,fun i hi=>by omega⟩
  ·intro h;rw [List.eq_nil_of_length_eq_zero h.len];exact List.mem_singleton.mpr rfl
 | k+1,t=>by
  show t∈(zaz ts [] c k).flatMap _↔_;rw [List.mem_flatMap];constructor
  ·rintro ⟨u,hu,ht⟩;have R:=zff.mp hu;unfold zbH at ht;obtain ⟨x,hx,rfl⟩:=List.mem_map.mp ht;obtain ⟨h1,h2⟩:=List.mem_filter.mp hx;rw [Bool.and_eq_true] at h2;have hx:=zf4.mp h1;refine ⟨by rw [List.length_append,R.len];rfl,fun y hy=>?_,fun i hi=>?_⟩
   ·rcases List.mem_append.mp hy with hy | hy
    ·exact R.inr y hy
    ·rw [List.mem_singleton.mp hy];exact hx
   ·by_cases z:i<k
    ·have e1:(u++[x]).take i=u.take i:=List.take_append_of_le_length (by rw [R.len];omega)
     have e2:(u++[x]).getD i 0=u.getD i 0:=by
      rw [List.getD_eq_getElem?_getD,List.getD_eq_getElem?_getD,List.getElem?_append_left (by rw [R.len];exact z)]
     rw [e1,e2];exact R.fit i z
    ·have hi':i=u.length:=by rw [R.len];omega
     subst hi'
     have e1:(u++[x]).take u.length=u:=by simp
     have e2:(u++[x]).getD u.length 0=x:=by
      rw [List.getD_eq_getElem?_getD,List.getElem?_append_right (Nat.le_refl _)];simp
     rw [e1,e2];exact h2.2
  ·intro R
   have hk:k<t.length:=by rw [R.len];omega
   have e:t=t.take k++[t.getD k 0]:=by
    have h1:t.getD k 0=t[k]:=by rw [List.getD_eq_getElem?_getD,List.getElem?_eq_getElem hk];rfl
    rw [h1,List.take_append_getElem hk,List.take_of_length_le (by rw [R.len];omega)]
   refine ⟨t.take k,zff.mpr ⟨by rw [List.length_take,R.len];omega,fun x hx=>R.inr x (List.mem_of_mem_take hx),fun i hi=>?_⟩,?_⟩
   ·have h1:(t.take k).take i=t.take i:=by rw [List.take_take,Nat.min_eq_left (by omega)]
    have h2:(t.take k).getD i 0=t.getD i 0:=by
     rw [List.getD_eq_getElem?_getD,List.getD_eq_getElem?_getD,List.getElem?_take_of_lt hi]
    rw [h1,h2];exact R.fit i (by omega)
   ·have:t.take k++[t.getD k 0]∈zbH ts c none (t.take k):=by
     unfold zbH;refine List.mem_map.mpr ⟨t.getD k 0,List.mem_filter.mpr ⟨zf4.mpr ?_,?_⟩,rfl⟩
     ·have h1:t.getD k 0=t[k]:=by rw [List.getD_eq_getElem?_getD,List.getElem?_eq_getElem hk];rfl
      rw [h1];exact R.inr _ (List.getElem_mem hk)
     ·rw [R.fit k (by omega)];rfl
    rw [<-e] at this;exact this
theorem zjM{ts:Z2}{r c:Nat}{g:Z1}{t:List Int}:t∈zae ts r c g↔RtL ts c (r*c) t/\agG r c g t=true:=by
 rw [zcS,List.mem_filter];show t∈zaz ts [] c (r*c)/\_↔_;rw [zff]
structure RtG(ts:Z2)(r c:Nat)(G:Nat->Nat->Int):Prop where
 inr:∀i j,i<r->j<c->0<=G i j/\G i j<ts.length
 east:∀i j,i<r->j+1<c->zaA ts (G i j) 1=zaA ts (G i (j+1)) 3
 south:∀i j,i+1<r->j<c->zaA ts (G i j) 2=zaA ts (G (i+1) j) 0
def tnG(c:Nat)(t:List Int)(i j:Nat):Int:=t.getD (i*c+j) 0
theorem zkl{t:List Int}{i j:Nat}(h:j<i):(t.take i).getD j 0=t.getD j 0:=by
 rw [List.getD_eq_getElem?_getD,List.getD_eq_getElem?_getD,List.getElem?_take_of_lt h]
theorem zkk{t:List Int}{i:Nat}(h:i<t.length)(h0:0<i):(t.take i).getLastD 0=t.getD (i-1) 0:=by
 rw [List.getLastD_eq_getLast?,List.getLast?_eq_getElem?,List.length_take,Nat.min_eq_left (by omega),List.getElem?_take_of_lt (by omega),List.getD_eq_getElem?_getD]
theorem zjb{ts:Z2}{r c i j:Nat}{t:List Int}(hc:1<=c)(hl:t.length=r*c)(hi:i<r)(hj:j<c):zhu ts c (t.take (i*c+j)) (t.getD (i*c+j) 0)=true↔((0<j->zaA ts (tnG c t i (j-1)) 1=zaA ts (tnG c t i j) 3)/\(0<i->zaA ts (tnG c t (i-1) j) 2=zaA ts (tnG c t i j) 0)):=by
 have hk:=zjR hi hj
 have e1:(t.take (i*c+j)).length=i*c+j:=by rw [List.length_take];omega
 unfold zhu;rw [decide_eq_true_iff,e1,(zlz hj).2]
 have a:0<j->(t.take (i*c+j)).getLastD 0=tnG c t i (j-1):=fun h=>by
  rw [zkk (by omega) (by omega)];unfold tnG;congr 1;omega
 have hmul:0<i->(i-1)*c+c=i*c:=fun h=>by
  have:i=(i-1)+1:=by omega
  conv=>rhs;rw [this,Nat.succ_mul]
 have b:0<i->(t.take (i*c+j)).getD (i*c+j-c) 0=tnG c t (i-1) j:=fun h=>by
  have:=hmul h;rw [zkl (by omega)];unfold tnG;congr 1;omega
 have cc:c<=i*c+j↔0<i:=by
  constructor
  ·intro h
   rcases Nat.eq_zero_or_pos i with z | z
   ·subst z;omega
   ·exact z
  ·intro h;have:=hmul h;omega
 rw [cc];constructor
 ·rintro ⟨x,y⟩;exact ⟨fun h=>by rw [<-a h];exact x h,fun h=>by rw [<-b h];exact y h⟩
 ·rintro ⟨x,y⟩;exact ⟨fun h=>by rw [a h];exact x h,fun h=>by rw [b h];exact y h⟩
theorem zo9{ts:Z2}{r c:Nat}{t:List Int}(hc:1<=c):RtL ts c (r*c) t↔t.length=r*c/\RtG ts r c (tnG c t):=by
 constructor
 ·intro R;have key:∀i j,i<r->j<c->_:=fun i j hi hj=>(zjb hc R.len hi hj).mp (R.fit _ (zjR hi hj))
  refine ⟨R.len,⟨fun i j hi hj=>?_,fun i j hi hj=>?_,fun i j hi hj=>?_⟩⟩
  ·have hk:=zjR hi hj
   have e:tnG c t i j=t[i*c+j]'(by rw [R.len];exact hk):=by
    unfold tnG;rw [List.getD_eq_getElem?_getD,List.getElem?_eq_getElem (by rw [R.len];exact hk)];rfl
   rw [e];exact R.inr _ (List.getElem_mem _)
  ·exact (key i (j+1) hi hj).1 (by omega)
  ·exact (key (i+1) j hi hj).2 (by omega)
 ·rintro ⟨hl,G⟩;refine ⟨hl,fun x hx=>?_,fun k hk=>?_⟩
  ·obtain ⟨k,hk,rfl⟩:=List.mem_iff_getElem.mp hx
   have hk':k<r*c:=by omega
   have:=G.inr (k / c) (k % c) (zin hc hk') (Nat.mod_lt _ hc);unfold tnG at this;rw [Nat.mul_comm,Nat.div_add_mod,List.getD_eq_getElem?_getD,List.getElem?_eq_getElem hk] at this;exact this
  ·have hi:=zin hc hk;have hj:=Nat.mod_lt k hc;have:=(zjb (ts:=ts) hc hl hi hj).mpr ⟨fun h=>by have:=G.east (k / c) (k % c-1) hi (by omega);rw [show k % c-1+1=k % c by omega] at this;exact this,fun h=>by have:=G.south (k / c-1) (k % c) (by omega) hj;rw [show k / c-1+1=k / c by omega] at this;exact this⟩;rw [Nat.mul_comm,Nat.div_add_mod] at this;exact this
theorem zel{ts:Z2}{r c:Nat}{g:Z1}{t:List Int}(hc:1<=c):t∈zae ts r c g↔t.length=r*c/\RtG ts r c (tnG c t)/\∀i j,i<r->j<c->g i j=none\/g i j=some (tnG c t i j):=by
 rw [zjM,zo9 hc,zfE hc,and_assoc];constructor
 ·rintro ⟨a,b,h⟩;exact ⟨a,b,fun i j hi hj=>zek.mp (h i j hi hj)⟩
 ·rintro ⟨a,b,h⟩;exact ⟨a,b,fun i j hi hj=>zek.mpr (h i j hi hj)⟩
end S2
namespace S2
open PySem
open L2 hiding D
section
variable{ts:Z2}{r c:Nat}{g h:Z1}
theorem zih(e:∀i j,i<r->j<c->g i j=h i j):zae ts r c g=zae ts r c h:=by
 have:zak r c g=zak r c h:=by
  rw [zcp,zcp];apply List.map_congr_left;intro p hp;obtain ⟨h1,h2⟩:=zk3 hp;exact e _ _ h1 h2
 unfold zae;rw [this]
theorem zhv(hc:1<=c)(l:LeG r c g h):zae ts r c h=(zae ts r c g).filter (agG r c h):=by
 rw [zcS,zcS,List.filter_filter];apply List.filter_congr;intro t _
 cases ha:agG r c h t with
 | false=>rfl
 | true =>
  have:=(zfE hc).mp ha
  have:agG r c g t=true:=(zfE hc).mpr fun i j hi hj=>by
   rcases l i j hi hj with z | z
   ·rw [z];rfl
   ·rw [z];exact this i j hi hj
  rw [this];rfl
theorem zii(hc:1<=c){t:List Int}(ht:t∈zae ts r c g){i j:Nat}(hi:i<r)(hj:j<c):g i j=none\/g i j=some (tnG c t i j):=((zel hc).mp ht).2.2 i j hi hj
theorem zeQ(hc:1<=c){t:List Int}(ht:t∈zae ts r c g){i j:Nat}(hi:i<r)(hj:j<c):0<=tnG c t i j/\tnG c t i j<ts.length:=((zel hc).mp ht).2.1.inr i j hi hj
theorem zsm{i j:Nat}{o:Option Int}(hg:g i j=none\/g i j=o):LeG r c g (zc5 g i j o):=fun a b _ _=>by
 unfold zc5
 by_cases z:a=i/\b=j
 ·rw [if_pos z];obtain ⟨rfl,rfl⟩:=z;exact hg
 ·rw [if_neg z];exact .inr rfl
theorem zfu(hc:1<=c){i j:Nat}{x:Int}(hi:i<r)(hj:j<c)(hg:g i j=none\/g i j=some x):zae ts r c (zc5 g i j (some x))=(zae ts r c g).filter fun t=>decide (tnG c t i j=x):=by
 rw [zhv hc (zsm hg)];apply List.filter_congr;intro t ht;rw [Bool.eq_iff_iff,zfE hc,decide_eq_true_iff];constructor
 ·intro z;have:=z i j hi hj;unfold zc5 at this;rw [if_pos ⟨rfl,rfl⟩] at this
  rcases zek.mp this with w | w
  ·cases w
  ·exact (Option.some.inj w).symm
 ·intro z a b ha hb;unfold zc5
  by_cases w:a=i/\b=j
  ·rw [if_pos w];obtain ⟨rfl,rfl⟩:=w;exact zek.mpr (.inr (by rw [<-z];rfl))
  ·rw [if_neg w];exact zek.mpr (zii hc ht ha hb)
theorem zd7{α:Type}{p:α->Bool}:∀{l:List α},(l.filter p).length=l.length↔∀x∈l,p x=true
 | []=>by simp
 | x::l=>by
  have ih:=zd7 (p:=p) (l:=l);have le:=List.length_filter_le p l;rw [List.filter_cons]
  cases hp:p x with
  | true=>simp [hp,ih]
  | false =>
   simp only [Bool.false_eq_true,if_false,List.length_cons];constructor
   ·intro z;omega
   ·intro z;have:=z x List.mem_cons_self;rw [hp] at this;cases this
def zcE(ts:Z2)(r c:Nat)(g:Z1):List Int:=(zae ts r c g).getD 0 []
def zfH(ts:Z2)(r c:Nat)(g:Z1)(i j:Nat):Bool:=(g i j).isNone&&!(zae ts r c g).isEmpty&&decide (∀t∈zae ts r c g,tnG c t i j=tnG c (zcE ts r c g) i j)
def zeF(ts:Z2)(r c:Nat)(g:Z1):D->List D
 | .tup [.int i,.int j]=>if zfH ts r c g i.toNat j.toNat then [.tup [plD i.toNat j.toNat,.int (tnG c (zcE ts r c g) i.toNat j.toNat)]] else []
 | _=>[]
theorem zga{i j:Nat}:zeF ts r c g (plD i j)=if zfH ts r c g i j then [.tup [plD i j,.int (tnG c (zcE ts r c g) i j)]] else []:=by
 show (if zfH ts r c g ((i:Int).toNat) ((j:Int).toNat) then _ else _)=_;rw [Int.toNat_natCast,Int.toNat_natCast]
def zao(ts:Z2)(r c:Nat)(g:Z1):List D:=(zcK r c).flatMap (zeF ts r c g)
def wfG(ts:Z2)(r c:Nat)(g:Z1):Nat->Nat->Option Int:=fun i j=>if zfH ts r c g i j then some (tnG c (zcE ts r c g) i j) else g i j
theorem zjU(h:zae ts r c g=[]):zao ts r c g=[]:=by
 unfold zao;rw [List.flatMap_eq_nil_iff];intro d hd;obtain ⟨i,j,_,_,rfl⟩:=zeh hd;rw [zga]
 have:zfH ts r c g i j=false:=by unfold zfH;rw [h];simp
 rw [this];rfl
theorem zbI{d:D}:d∈zao ts r c g↔∃i j,i<r/\j<c/\zfH ts r c g i j=true/\d=.tup [plD i j,.int (tnG c (zcE ts r c g) i j)]:=by
 unfold zao;rw [List.mem_flatMap];constructor
 ·rintro ⟨p,hp,hd⟩;obtain ⟨i,j,hi,hj,rfl⟩:=zeh hp;rw [zga] at hd;split at hd
  ·rename_i hb;exact ⟨i,j,hi,hj,hb,List.mem_singleton.mp hd⟩
  ·exact (List.not_mem_nil hd).elim
 ·rintro ⟨i,j,hi,hj,hb,rfl⟩;refine ⟨_,zrJ hi hj,?_⟩;rw [zga,if_pos hb];exact List.mem_singleton.mpr rfl
theorem zi6{d:D}:(zeF ts r c g d).length<=1:=by
 unfold zeF;split
 ·split<;>simp
 ·simp
def zfR(g:Z1):D->Bool | .tup [.int i,.int j]=>(g i.toNat j.toNat).isNone | _=>false
theorem ziv{i j:Nat}:zfR g (plD i j)=(g i j).isNone:=by
 show (g ((i:Int).toNat) ((j:Int).toNat)).isNone=_;rw [Int.toNat_natCast,Int.toNat_natCast]
theorem zse{o:Option Int}:zcN (oD o)=o.isNone:=by cases o<;>rfl
theorem zmC{S:Sto}(h1:1<=r)(hr:r<=100)(hc:c<=100):zbZ [flr r c g] S=.ok (.lst ((zcK r c).filter (zfR g))) S:=by
 have e1:=zfV (g:=g) (S:=S) (c:=c) h1 hr hc
 have e2:=zdl (tg:=.one 0) (c:=zaf zhq (eFn zaY [(zad 1),(zad 0)]) (zah .non)) (elt:=zad 0) (ρ0:=[none,some (false,flr r c g)]) (S:=S) (g:=id) (p:=zfR g) (ds:=zcK r c) (by
  intro d hd;obtain ⟨i,j,hi,hj,rfl⟩:=zeh hd;have n1:=zdp (g:=g) (S:=S) hi hj;refine ⟨_,rfl,?_,fun _=>rfl⟩;rw [ziv,<-zse];generalize flr r c g=fg at *;generalize plD i j=pp at *
  simp [n1])
 rw [List.map_id] at e2
 have hl:((zcK r c).filter (zfR g)).length<=100000:=by
  refine Nat.le_trans (List.length_filter_le _ _) ?_;rw [ze8];exact Nat.le_trans (Nat.mul_le_mul hr hc) (by decide)
 generalize (zcK r c).filter (zfR g)=res at *;generalize flr r c g=fg at *;simp [zbZ,zav,zcY,e1,e2,hl]
theorem zmm{t:List Int}{i j:Nat}:zbb c t i j=some (tnG c t i j):=rfl
theorem zhW{i j:Nat}{S:Sto}(h1:1<=r)(hi:i<r)(hj:j<c):zcy [flr r c g,plD i j] S=.ok (oD (g i j)) S:=by
 have e1:=ze1 (g:=g) (S:=S) h1 hi hj;have e2:=zdp (g:=g) (S:=S) hi hj;generalize flr r c g=fg at *;generalize plD i j=pp at *;simp [zcy,zav,zd9,e1,e2]
theorem zg9{i j:Int}{S:Sto}(h1:1<=r)(h:¬ ((0<=i/\i<r)/\0<=j/\j<c)):zcy [flr r c g,.tup [.int i,.int j]] S=.exc "NoPlace" S:=by
 have hp:=zdT (g:=g) (c:=c) (i:=i) (j:=j) (S:=S) h1;rw [decide_eq_false h] at hp;generalize flr r c g=fg at *;generalize D.tup [.int i,.int j]=pp at *;simp [zcy,zav,zd9,zaJ,zbn,hp]
theorem zhy{a b:Int}:eqD (.int a) (.int b)=some (.bl (decide (a=b))):=by
 simp [eqD,zeK,D.py,PyData.eqv];rfl
theorem zsh{a b:Int}:neD (.int a) (.int b)=some (.bl (!decide (a=b))):=by
 simp [neD,zeK,D.py,PyData.eqv];rfl
theorem zd4(h:zae ts r c g≠[]):zcE ts r c g∈zae ts r c g:=by
 unfold zcE
 cases hf:zae ts r c g with
 | nil=>exact absurd hf h
 | cons a l=>simp
theorem zlD(P:FP ts r c)(hne:zae ts r c g≠[]){i j:Nat}(hi:i<r)(hj:j<c)(hb:g i j=none):decide (((zae ts r c (zc5 g i j (some (tnG c (zcE ts r c g) i j)))).length:Int)=((zae ts r c g).length:Int))=zfH ts r c g i j:=by
 unfold zfH
 have he:(zae ts r c g).isEmpty=false:=by cases hf:zae ts r c g with | nil=>exact absurd hf hne | cons _ _=>rfl
 rw [zfu P.c1 hi hj (.inl hb),hb,he];simp only [Option.isNone_none,Bool.not_false,Bool.true_and];congr 1;rw [Int.ofNat_inj,zd7];simp
theorem zfW(P:FP ts r c)(hg:InT ts g)(S:Sto):∃S',zdq [.tup (ts.map zab),flr r c g] S=.ok (.lst (zao ts r c g)) S':=by
 obtain ⟨S1,e1⟩:=zdV P hg S;have q1:=zhy (a:=((zae ts r c g).length:Nat)) (b:=0)
 by_cases hne:zae ts r c g=[]
 ·rw [zjU hne];rw [hne] at e1;refine ⟨S1,?_⟩;have q:eqD (.int 0) (.int 0)=some (.bl true):=rfl;generalize flr r c g=fl at *;simp at e1;simp [zdq,zav,zeR,e1,q]
 ·have hlen:0<(zae ts r c g).length:=List.length_pos_iff.mpr hne;obtain ⟨S2,e2⟩:=zmA P hg 0 S1;rw [if_pos ⟨by omega,by omega⟩] at e2;have e2':zfZ [.tup (ts.map zab),flr r c g,.int 0] S1=.ok (flr r c (zbb c (zcE ts r c g))) S2:=e2;have e3:=zmC (g:=g) (S:=S2) P.r1 (show r<=100 by have:=P.r6;omega) (show c<=100 by have:=P.c6;omega);have r6:=P.r6;have c6:=P.c6
  have hfl:((zcK r c).filter (zfR g)).flatMap (zeF ts r c g)=zao ts r c g:=by
   unfold zao
   have:∀l:List D,(∀d∈l,∃i j,i<r/\j<c/\d=plD i j)->(l.filter (zfR g)).flatMap (zeF ts r c g)=l.flatMap (zeF ts r c g):=by
    intro l
    induction l with
    | nil=>intro _;rfl
    | cons d l ih =>
     intro hm;obtain ⟨i,j,_,_,rfl⟩:=hm d List.mem_cons_self;have ih':=ih fun d hd=>hm d (List.mem_cons_of_mem _ hd)
     rw [List.filter_cons,ziv,List.flatMap_cons]
     cases hb:g i j with
     | none=>simp only [Option.isNone_none,if_true,List.flatMap_cons,ih']
     | some x =>
      have:zeF ts r c g (plD i j)=[]:=by
       rw [zga]
       have:zfH ts r c g i j=false:=by unfold zfH;rw [hb];rfl
       rw [this];rfl
      simp only [Option.isNone_some,Bool.false_eq_true,if_false,ih',this,List.nil_append]
   exact this _ fun d hd=>zeh hd
  have hmem:∀d∈(zcK r c).filter (zfR g),∃i j,i<r/\j<c/\d=plD i j/\g i j=none:=fun d hd=>by
   obtain ⟨h1,h2⟩:=List.mem_filter.mp hd;obtain ⟨i,j,hi,hj,rfl⟩:=zeh h1;rw [ziv] at h2;exact ⟨i,j,hi,hj,rfl,Option.isNone_iff_eq_none.mp h2⟩
  have hfin:=zd4 hne
  have hsm:((zcK r c).filter (zfR g)).length<=100:=by
   refine Nat.le_trans (List.length_filter_le _ _) ?_;rw [ze8];have:=P.rc;omega
  rw [<-hfl];generalize (zcK r c).filter (zfR g)=ps at *
  obtain ⟨ρ',S3,e4,x5,x6,rfl⟩:=zcB (tg:=.one 5) (body:=zdw) (ds:=ps) (fun k ρ S=>∃x5 x6,ρ=[some (false,.tup (ts.map zab)),some (false,flr r c g),some (false,.int ((zae ts r c g).length:Nat)),some (false,flr r c (zbb c (zcE ts r c g))),some (true,.lst ((ps.take k).flatMap (zeF ts r c g))),x5,x6]) (by
   rintro k d ρ S hd ⟨x5,x6,rfl⟩;obtain ⟨i,j,hi,hj,rfl,hb⟩:=hmem d (List.mem_of_getElem? hd)
   have et:ps.take (k+1)=ps.take k++[plD i j]:=by
    rw [List.take_add_one,hd];rfl
   rw [et,List.flatMap_append,List.flatMap_singleton,zga]
   have hL:((ps.take k).flatMap (zeF ts r c g)).length<=100000:=by
    have:=zdd (g:=zeF ts r c g) (m:=1) (l:=ps.take k) fun d _=>zi6
    rw [List.length_take] at this;omega
   have n1:=zdp (g:=zbb c (zcE ts r c g)) (S:=S) hi hj;rw [zmm] at n1;have hx:=zeQ P.c1 hfin hi hj;have w:=zcG (ts:=ts) (g:=g) (o:=some (tnG c (zcE ts r c g) i j)) (S:=S) (fun x hx'=>by cases hx';exact hx) P.r1 hi hj (by omega) (by omega);obtain ⟨S',hcn⟩:=zdV (g:=zc5 g i j (some (tnG c (zcE ts r c g) i j))) P (zn4 hg fun x hx'=>by cases hx';exact hx) S;have q:=zhy (a:=((zae ts r c (zc5 g i j (some (tnG c (zcE ts r c g) i j)))).length:Nat)) (b:=((zae ts r c g).length:Nat));rw [zlD P hne hi hj hb] at q;refine ⟨_,[some (false,.tup (ts.map zab)),some (false,flr r c g),some (false,.int ((zae ts r c g).length:Nat)),some (false,flr r c (zbb c (zcE ts r c g))),some (true,.lst ((ps.take k).flatMap (zeF ts r c g)++if zfH ts r c g i j then [.tup [plD i j,.int (tnG c (zcE ts r c g) i j)]] else [])),some (false,plD i j),some (false,.int (tnG c (zcE ts r c g) i j))],S',rfl,?_,_,_,rfl⟩;have ho:oD (some (tnG c (zcE ts r c g) i j))=.int (tnG c (zcE ts r c g) i j):=rfl;rw [ho] at n1 w;generalize (ps.take k).flatMap (zeF ts r c g)=L at *;generalize (zae ts r c (zc5 g i j (some (tnG c (zcE ts r c g) i j)))).length=n2 at *;generalize (zae ts r c g).length=n3 at *;generalize flr r c (zc5 g i j (some (tnG c (zcE ts r c g) i j)))=f1 at *;generalize flr r c (zbb c (zcE ts r c g))=f2 at *;generalize flr r c g=fl at *;generalize tnG c (zcE ts r c g) i j=xx at *;generalize plD i j=pp at *
   cases hbb:zfH ts r c g i j with
   | true=>rw [hbb] at q;simp [zdw,n1,w,hcn,q,hL]
   | false=>rw [hbb] at q;simp [zdw,n1,w,hcn,q])
   (ρ:=[some (false,.tup (ts.map zab)),some (false,flr r c g),some (false,.int ((zae ts r c g).length:Nat)),some (false,flr r c (zbb c (zcE ts r c g))),some (true,.lst []),none,none]) (S:=S2) ⟨none,none,rfl⟩
  rw [List.take_length] at e4;refine ⟨S3,?_⟩;rw [decide_eq_false (by omega)] at q1;generalize ps.flatMap (zeF ts r c g)=res at *;generalize (zae ts r c g).length=n3 at *;generalize flr r c (zbb c (zcE ts r c g))=f2 at *;generalize flr r c g=fl at *;simp [zdq,zav,zeR,e1,q1,e2',e3,e4]
theorem ztF(P:FP ts r c)(hg:InT ts g):∃h,InT ts h/\(∀i j,i<r->j<c->h i j=wfG ts r c g i j):=by
 refine ⟨fun i j=>if i<r/\j<c then wfG ts r c g i j else none,?_,fun i j hi hj=>if_pos ⟨hi,hj⟩⟩;intro i j x hx;dsimp only at hx;split at hx
 ·rename_i hij;unfold wfG at hx;split at hx
  ·rename_i hb;cases hx
   have hne:zae ts r c g≠[]:=by
    intro z;unfold zfH at hb;rw [z] at hb;simp at hb
   exact zeQ P.c1 (zd4 hne) hij.1 hij.2
  ·exact hg i j x hx
 ·cases hx
def stW(h:Z1):D->Nat->Nat->Option Int | .tup [.tup [.int i,.int j],.int x]=>zc5 h i.toNat j.toNat (some x) | _=>h
theorem zoK{i j:Nat}{x:Int}{h:Z1}:stW h (.tup [plD i j,.int x])=zc5 h i j (some x):=by
 show zc5 h ((i:Int).toNat) ((j:Int).toNat) (some x)=_;rw [Int.toNat_natCast,Int.toNat_natCast]
theorem zlF{X:Nat->Nat->Int}:∀(L:List D) (h:Z1),(∀d∈L,∃i j:Nat,d=.tup [plD i j,.int (X i j)])->∀i j,((D.tup [plD i j,.int (X i j)])∈L->(L.foldl stW h) i j=some (X i j))/\((D.tup [plD i j,.int (X i j)]) ∉ L->(L.foldl stW h) i j=h i j)
 | [],h,_,i,j=>⟨fun z=>(List.not_mem_nil z).elim,fun _=>rfl⟩
 | d::L,h,hm,i,j=>by
  obtain ⟨a,b,rfl⟩:=hm d List.mem_cons_self;obtain ⟨h1,h2⟩:=zlF L (zc5 h a b (some (X a b))) (fun d hd=>hm d (List.mem_cons_of_mem _ hd)) i j;rw [List.foldl_cons,zoK]
  by_cases z:D.tup [plD i j,.int (X i j)]∈L
  ·exact ⟨fun _=>h1 z,fun w=>absurd (List.mem_cons_of_mem _ z) w⟩
  ·have h3:=h2 z;constructor
   ·intro w
    rcases List.mem_cons.mp w with w | w
    ·injection w with w
     injection w with w1 w2
     obtain ⟨rfl,rfl⟩:=zn6 w1;rw [h3];unfold zc5;rw [if_pos ⟨rfl,rfl⟩]
    ·exact absurd w z
   ·intro w;rw [h3];unfold zc5;rw [if_neg];rintro ⟨rfl,rfl⟩;exact w List.mem_cons_self
theorem zlE{i j:Nat}(hi:i<r)(hj:j<c):((zao ts r c g).foldl stW g) i j=wfG ts r c g i j:=by
 obtain ⟨h1,h2⟩:=zlF (X:=fun i j=>tnG c (zcE ts r c g) i j) (zao ts r c g) g (fun d hd=>by
  obtain ⟨i,j,_,_,_,e⟩:=zbI.mp hd
  exact ⟨i,j,e⟩) i j
 unfold wfG
 cases hb:zfH ts r c g i j with
 | true=>exact h1 (zbI.mpr ⟨i,j,hi,hj,hb,rfl⟩)
 | false =>
  refine h2 fun z=>?_
  obtain ⟨a,b,_,_,hb',e⟩:=zbI.mp z
  injection e with e
  injection e with e1 e2
  obtain ⟨rfl,rfl⟩:=zn6 e1;rw [hb] at hb';cases hb'
theorem zeZ(P:FP ts r c)(hg:InT ts g)(S:Sto):∃S',zbY [.tup (ts.map zab),flr r c g] S=.ok (flr r c (wfG ts r c g)) S':=by
 obtain ⟨S1,e1⟩:=zfW P hg S;have r6:=P.r6;have c6:=P.c6;have hmem:∀d∈zao ts r c g,∃i j,i<r/\j<c/\zfH ts r c g i j=true/\d=.tup [plD i j,.int (tnG c (zcE ts r c g) i j)]:=fun d hd=>zbI.mp hd
 have hwf:flr r c ((zao ts r c g).foldl stW g)=flr r c (wfG ts r c g):=zft fun i j hi hj=>zlE hi hj
 rw [<-hwf];generalize zao ts r c g=L at *
 obtain ⟨ρ',S2,e2,x3,x4,rfl⟩:=zcB (tg:=.tup [3,4]) (body:=zcd) (ds:=L) (fun k ρ S=>∃x3 x4,ρ=[some (false,.tup (ts.map zab)),some (false,flr r c g),some (false,flr r c ((L.take k).foldl stW g)),x3,x4]) (by
  rintro k d ρ S hd ⟨x3,x4,rfl⟩;obtain ⟨i,j,hi,hj,hb,rfl⟩:=hmem d (List.mem_of_getElem? hd)
  have hne:zae ts r c g≠[]:=by
   intro z;unfold zfH at hb;rw [z] at hb;simp at hb
  have hx:=zeQ P.c1 (zd4 hne) hi hj;rw [List.take_add_one,hd,List.foldl_append];show ∃ρ1 ρ2 S2,_/\_/\∃x3 x4,ρ2=[_,_,some (false,flr r c (stW ((L.take k).foldl stW g) (.tup [plD i j,.int (tnG c (zcE ts r c g) i j)]))),x3,x4];rw [zoK];generalize (L.take k).foldl stW g=h at *;have w:=zcG (ts:=ts) (g:=h) (o:=some (tnG c (zcE ts r c g) i j)) (S:=S) (fun x hx'=>by cases hx';exact hx) P.r1 hi hj (by omega) (by omega);refine ⟨_,_,S,rfl,?_,some (false,plD i j),some (false,.int (tnG c (zcE ts r c g) i j)),rfl⟩;have ho:oD (some (tnG c (zcE ts r c g) i j))=.int (tnG c (zcE ts r c g) i j):=rfl;rw [ho] at w;generalize flr r c (zc5 h i j (some (tnG c (zcE ts r c g) i j)))=f1 at *;generalize flr r c h=f2 at *;generalize flr r c g=fl at *;generalize tnG c (zcE ts r c g) i j=xx at *;generalize plD i j=pp at *
  simp [zcd,w])
  (ρ:=[some (false,.tup (ts.map zab)),some (false,flr r c g),some (false,flr r c g),none,none]) (S:=S1) ⟨none,none,rfl⟩
 rw [List.take_length] at e2;refine ⟨S2,?_⟩;generalize flr r c (L.foldl stW g)=f1 at *;generalize flr r c g=fl at *;simp [zbY,zav,zcU,e1,e2]
def zew(ts:Z2)(r c:Nat)(g:Z1)(i j:Nat)(x:Int):Nat:=((zae ts r c g).filter fun t=>decide (tnG c t i j=x)).length
def zed(ts:Z2)(r c:Nat)(g:Z1)(i j:Nat):List D:=(List.range ts.length).map fun x:Nat=>D.int (zew ts r c g i j x:Nat)
theorem zl1(hc:1<=c){i j:Nat}{x y:Int}(hi:i<r)(hj:j<c)(h:g i j=some y)(hxy:y≠x):zew ts r c g i j x=0:=by
 unfold zew;rw [List.length_eq_zero_iff,List.filter_eq_nil_iff];intro t ht
 rcases zii hc ht hi hj with z | z
 ·rw [h] at z;cases z
 ·rw [h] at z;have:=Option.some.inj z;simp;omega
theorem zdU(P:FP ts r c)(hg:InT ts g){i j:Nat}(hi:i<r)(hj:j<c)(S:Sto):∃S',za0 [.tup (ts.map zab),flr r c g,plD i j] S=.ok (.lst (zed ts r c g i j)) S':=by
 have r6:=P.r6;have c6:=P.c6;have tl:=P.ht.le;have e1:=zhW (g:=g) (S:=S) P.r1 hi hj
 obtain ⟨ρ',S2,e2,x5,x6,rfl⟩:=zcB (tg:=.one 5) (body:=zbC) (ds:=zas 0 (ts.length:Int)) (fun k ρ S=>∃x5 x6,ρ=[some (false,.tup (ts.map zab)),some (false,flr r c g),some (false,plD i j),some (false,oD (g i j)),some (true,.lst ((List.range k).map fun x:Nat=>D.int (zew ts r c g i j x:Nat))),x5,x6]) (by
  rintro k d ρ S hd ⟨x5,x6,rfl⟩;obtain ⟨hk,rfl⟩:=zdW hd;rw [List.range_succ,List.map_append]
  have hL:((List.range k).map fun x:Nat=>D.int (zew ts r c g i j x:Nat)).length<=100000:=by simp;omega
  have hx:∀x,some (k:Int)=some x->0<=x/\x<ts.length:=fun x hx=>by cases hx;omega
  have w:=zcG (ts:=ts) (g:=g) (o:=some (k:Int)) (S:=S) hx P.r1 hi hj (by omega) (by omega);obtain ⟨S',hcn⟩:=zdV (g:=zc5 g i j (some (k:Int))) P (zn4 hg hx) S;have ho:oD (some (k:Int))=.int (k:Int):=rfl;rw [ho] at w
  cases hgo:g i j with
  | none =>
   rw [zfu P.c1 hi hj (.inl hgo)] at hcn;have hcn':zay [.tup (ts.map zab),flr r c (zc5 g i j (some (k:Int)))] S=.ok (.int (zew ts r c g i j k:Nat)) S':=hcn;refine ⟨_,_,S',rfl,?_,some (false,.int k),some (false,.bl true),rfl⟩;show _=Fo.nx [_,_,_,_,some (true,.lst (_++[D.int (zew ts r c g i j k:Nat)])),_,_] S';generalize (List.range k).map (fun x:Nat=>D.int (zew ts r c g i j x:Nat))=L at *;generalize zew ts r c g i j k=cn at *;generalize flr r c (zc5 g i j (some (k:Int)))=f1 at *;generalize flr r c g=fl at *;generalize plD i j=pp at *;simp [zbC,oD,w,hcn',hL]
  | some y =>
   have q:=zhy (a:=y) (b:=(k:Int))
   by_cases hy:y=(k:Int)
   ·rw [zfu P.c1 hi hj (.inr (by rw [hgo,hy]))] at hcn;have hcn':zay [.tup (ts.map zab),flr r c (zc5 g i j (some (k:Int)))] S=.ok (.int (zew ts r c g i j k:Nat)) S':=hcn;rw [decide_eq_true hy] at q;refine ⟨_,_,S',rfl,?_,some (false,.int k),some (false,.bl true),rfl⟩;show _=Fo.nx [_,_,_,_,some (true,.lst (_++[D.int (zew ts r c g i j k:Nat)])),_,_] S';generalize (List.range k).map (fun x:Nat=>D.int (zew ts r c g i j x:Nat))=L at *;generalize zew ts r c g i j k=cn at *;generalize flr r c (zc5 g i j (some (k:Int)))=f1 at *;generalize flr r c g=fl at *;generalize plD i j=pp at *;simp [zbC,oD,w,hcn',hL,q]
   ·rw [decide_eq_false hy] at q;refine ⟨_,_,S,rfl,?_,some (false,.int k),some (false,.bl false),rfl⟩;show _=Fo.nx [_,_,_,_,some (true,.lst (_++[D.int (zew ts r c g i j k:Nat)])),_,_] S;rw [zl1 P.c1 hi hj hgo hy];generalize (List.range k).map (fun x:Nat=>D.int (zew ts r c g i j x:Nat))=L at *;generalize flr r c g=fl at *;generalize plD i j=pp at *
    simp [zbC,oD,hL,q])
  (ρ:=[some (false,.tup (ts.map zab)),some (false,flr r c g),some (false,plD i j),some (false,oD (g i j)),some (true,.lst []),none,none]) (S:=S) ⟨none,none,rfl⟩
 rw [zjH] at e2;simp only [Int.sub_zero,Int.toNat_natCast] at e2;refine ⟨S2,?_⟩
 have hb:-1000000<=(ts.length:Int)/\(ts.length:Int)<=1000000:=by omega
 unfold zed;generalize (List.range ts.length).map (fun x:Nat=>D.int (zew ts r c g i j x:Nat))=L at *;generalize flr r c g=fl at *;generalize plD i j=pp at *;simp [za0,zav,zcW,e1,hb,e2]
theorem zdB{i j:Int}{S:Sto}{T:D}(h1:1<=r)(h:¬ ((0<=i/\i<r)/\0<=j/\j<c)):za0 [T,flr r c g,.tup [.int i,.int j]] S=.exc "NoPlace" S:=by
 have e:=zg9 (g:=g) (S:=S) h1 h;generalize flr r c g=fg at *;generalize D.tup [.int i,.int j]=pp at *;simp [za0,zav,zcW,e]
def zdJ(ts:Z2)(r c:Nat)(g:Z1)(i j:Nat):List D:=((List.range ts.length).filter fun x:Nat=>decide (0<zew ts r c g i j x)).map fun x:Nat=>D.int x
theorem zdv{n:Nat}{f:Nat->D}:zbw ((List.range n).map f)=(List.range n).map fun k:Nat=>D.tup [.int k,f k]:=by
 apply List.ext_getElem?;intro k
 by_cases hk:k<n
 ·have h1:k<(zbw ((List.range n).map f)).length:=by rw [zcC,List.length_map,List.length_range];exact hk
  have h2:(zbw ((List.range n).map f))[k]?=some (zbw ((List.range n).map f))[k]:=List.getElem?_eq_getElem h1;obtain ⟨y,e1,e2⟩:=zdi h2;rw [h2,e2,List.getElem?_map,List.getElem?_range hk];rw [List.getElem?_map,List.getElem?_range hk] at e1;cases e1;rfl
 ·rw [List.getElem?_eq_none (by rw [zcC,List.length_map,List.length_range];omega),List.getElem?_eq_none (by rw [List.length_map,List.length_range];omega)]
theorem zgs(P:FP ts r c)(hg:InT ts g){i j:Nat}(hi:i<r)(hj:j<c)(S:Sto):∃S',zbc [.tup (ts.map zab),flr r c g,plD i j] S=.ok (.lst (zdJ ts r c g i j)) S':=by
 obtain ⟨S1,e1⟩:=zdU P hg hi hj S;refine ⟨S1,?_⟩
 have e2:=zdl (tg:=.tup [0,1]) (c:=zaf gtD (zai 1) (zah (.int 0))) (elt:=zad 0) (ρ0:=[none,none]) (S:=S1) (g:=fun d=>match d with | .tup [a,_]=>a | _=>.non) (p:=fun d=>match d with | .tup [_,.int n]=>decide (0<n) | _=>false) (ds:=zbw (zed ts r c g i j)) (by
  intro d hd;unfold zed at hd;rw [zdv] at hd;obtain ⟨k,_,rfl⟩:=List.mem_map.mp hd;refine ⟨_,rfl,?_,fun _=>rfl⟩
  simp)
 have e3:((zbw (zed ts r c g i j)).filter (fun d=>match d with | .tup [_,.int n]=>decide (0<n) | _=>false)).map (fun d=>match d with | .tup [a,_]=>a | _=>.non)=zdJ ts r c g i j:=by
  unfold zed zdJ;rw [zdv,List.filter_map,List.map_map]
  have ef:((fun d=>match d with | D.tup [_,.int n]=>decide (0<n) | _=>false)∘fun k:Nat=>D.tup [.int k,.int (zew ts r c g i j k:Nat)])=fun x:Nat=>decide (0<zew ts r c g i j x):=by
   funext k;show decide ((0:Int)<(zew ts r c g i j k:Nat))=_;congr 1;exact propext ⟨fun z=>by omega,fun z=>by omega⟩
  rw [ef];rfl
 rw [e3] at e2
 have hl:(zdJ ts r c g i j).length<=100000:=by
  unfold zdJ;rw [List.length_map];refine Nat.le_trans (List.length_filter_le _ _) ?_;rw [List.length_range];have:=P.ht.le;omega
 generalize zdJ ts r c g i j=res at *;generalize zed ts r c g i j=cs at *;generalize flr r c g=fl at *;generalize plD i j=pp at *;simp [zbc,zav,zcV,e1,e2,hl]
theorem zhX{i j:Int}{S:Sto}{T:D}(h1:1<=r)(h:¬ ((0<=i/\i<r)/\0<=j/\j<c)):zbc [T,flr r c g,.tup [.int i,.int j]] S=.exc "NoPlace" S:=by
 have e:=zdB (T:=T) (g:=g) (S:=S) h1 h;generalize flr r c g=fg at *;generalize D.tup [.int i,.int j]=pp at *;simp [zbc,zav,zcV,e,zne,znf]
end
end S2
namespace S2
open PySem
open L2 hiding D
theorem zpb{c:Nat}{f:Nat->Option Int}:(zeJ c f).pl=true:=by
 show D.pls (zc4 c f)=true;rw [D.pls_iff];intro d hd;obtain ⟨j,_,rfl⟩:=List.mem_map.mp hd
 cases f j<;>rfl
theorem zp6{r c:Nat}{g:Z1}:(flr r c g).pl=true:=by
 show D.pls (zce r c g)=true;rw [D.pls_iff];intro d hd;obtain ⟨i,_,rfl⟩:=List.mem_map.mp hd;exact zpb
theorem zmD{c n:Nat}{f:Nat->Option Int}:(zeJ c f).fit (n+1)=true:=by
 show D.fits n (zc4 c f)=true;rw [D.fits_iff];intro d hd;obtain ⟨j,_,rfl⟩:=List.mem_map.mp hd
 cases f j<;>simp [oD]
theorem zns{r c n:Nat}{g:Z1}:(flr r c g).fit (n+2)=true:=by
 show D.fits (n+1) (zce r c g)=true;rw [D.fits_iff];intro d hd;obtain ⟨i,_,rfl⟩:=List.mem_map.mp hd;exact zmD
theorem zsi{r c:Nat}{g:Z1}:neD (flr r c g) (flr r c g)=some (.bl false):=zh4 zp6 zns
section
variable{ts:Z2}{r c:Nat}{g h:Z1}
theorem zla{α:Type}{t:α}:∀{l:List α},l.Nodup->t∈l->(∀u∈l,u=t)->l=[t]
 | [],_,h,_=>(List.not_mem_nil h).elim
 | [u],_,_,h=>by rw [h u List.mem_cons_self]
 | u::v::l,n,_,h=>by
  have h1:=h u List.mem_cons_self;have h2:=h v (List.mem_cons_of_mem _ List.mem_cons_self);rw [List.nodup_cons] at n;exact absurd (by rw [h1,<-h2];exact List.mem_cons_self) n.1
theorem znv{t:List Int}(hc:1<=c)(ht:t∈zae ts r c g):t.length=r*c:=((zel hc).mp ht).1
theorem zd5{i j:Nat}:zfH ts r c g i j=true↔g i j=none/\zae ts r c g≠[]/\∀t∈zae ts r c g,tnG c t i j=tnG c (zcE ts r c g) i j:=by
 unfold zfH;rw [Bool.and_eq_true,Bool.and_eq_true,decide_eq_true_iff,and_assoc,Option.isNone_iff_eq_none];simp
theorem zuM(hc:1<=c):LeG r c g (wfG ts r c g):=fun i j hi hj=>by
 unfold wfG;split
 ·rename_i hb;exact .inl (zd5.mp hb).1
 ·exact .inr rfl
theorem znu(hc:1<=c):zae ts r c (wfG ts r c g)=zae ts r c g:=by
 rw [zhv hc (zuM hc)];rw [List.filter_eq_self];intro t ht;rw [zfE hc];intro i j hi hj;rw [zek];unfold wfG;split
 ·rename_i hb;exact .inr (congrArg some ((zd5.mp hb).2.2 t ht).symm)
 ·exact zii hc ht hi hj
theorem zjT:D.pls (zao ts r c g)=true:=by
 rw [D.pls_iff];intro d hd;obtain ⟨i,j,_,_,_,rfl⟩:=zbI.mp hd;rfl
theorem zig{n:Nat}:D.fits (n+3) (zao ts r c g)=true:=by
 rw [D.fits_iff];intro d hd;obtain ⟨i,j,_,_,_,rfl⟩:=zbI.mp hd;simp [D.fit,D.fits]
end
end S2
namespace S2
open PySem
open L2 hiding D
section
variable{n:Nat}{ts:Z2}{gr:Z4}{r c:Nat}{b:Bool}
end
section
variable{ts:Z2}{gr:Z4}{c:Nat}
end
section
variable{n:Nat}{ts:Z2}{gr:Z4}{r c:Nat}{b:Bool}
end
end S2
namespace S2.L20
open PySem
open L2 hiding D
def ztR:List (Str×Str):=[("NoPlace","FloorError"),("NoTile","FloorError"),("NoFill","FloorError")]
def isL:Str->Str->Option Bool:=ztt ["NoPlace","NoTile","NoFill"] ["FloorError","NoPlace","NoTile","NoFill","Unlike","Nothing","NoText"]
noncomputable def zfx:Fs :=
  (zag (sFz [] (zaW 1 true (zeu [(eUn (zls isL "NoFill") (zai 0)),(eUn (zls isL "NoPlace") (zai 0)),(eUn (zls isL "NoText") (zai 0)),(eUn (zls isL "NoTile") (zai 0))])))
  (zag (sFz [] (zqD 1 (zeu [(eUn (zls isL "Nothing") (zai 0)),(eUn (zls isL "Unlike") (zai 0))])))
  (zag (sFz [] (sIf (eOr (zaf neD (eMt zdj 1 (zah (.bl true))) (zah (.int 1))) (eUn zeL (eUn (zls isL "ValueError") (zai 0)))) (zag (sFz [] (zbp (zah (.str "wrong")))) sNx) sNx))
  (zag (sFz [] (zbp (zaf ixD (zeu [(zah (.str "no fill")),(zah (.str "no place")),(zah (.str "no text")),(zah (.str "no tile")),(zah (.str "nothing")),(zah (.str "unlike"))]) (eMt zf6 1 (zah (.bl true))))))
  sNx))))
noncomputable def zcI:List S2.D->Sto->Out S2.D:=zbR 2 false zfx
noncomputable def zfy:Fs :=
  (zag (sFz [] (zaW 4 false (zah .non)))
  (zag (sFz [] (zaW 5 false (zah .non)))
  (zag (sFz [] (zqC (zqJ ztR) "FloorError" 6 4 (zag (sFz [1,2,3,1,2,3] (zaW 5 false (eIf (zaf eqD (zai 0) (zah (.int 0))) (eFn za0 [(zad 1),(zad 2),(zad 3)]) (eFn zbc [(zad 1),(zad 2),(zad 3)])))) sNx)))
  (zag (sFz [] (sIf (zaf zhq (zai 4) (zah .non)) (zag (sFz [5] (zbp (zad 5))) sNx) sNx))
  (zag (sFz [4] (zbp (eFn zcI [(zad 4)])))
  sNx)))))
noncomputable def zaw:List S2.D->Sto->Out S2.D:=zbR 7 false zfy
noncomputable def zgO:Fs :=
  (zag (sFz [5,8,3,7] (zaW 9 true (zcZ 1 (.one 0) (zaV (zad 5)) zfI (zaf ixD (zai 0) (zaf zb5 (zaf zfO (zai 3) (zai 2)) (zai 1))) [8,3,7]))) (zag (sFz [9] (zaW 11 true (zcZ 1 (.one 0) (zc7 (zaE zem [(zai 1)])) zfI (eMt zdj 1 (zai 0)) [9]))) (zag (sFz [1,4,7,8] (sIf (zaf neD (eFn zaw [(zah (.int 0)),(zad 1),(zad 4),(zcv [(zad 7),(zad 8)])]) (zai 11)) (zag (sFz [] (zbp (zah (.bl false)))) sNx) sNx)) (zag (sFz [11] (zaW 12 true (zcZ 2 (.tup [0,1]) (zgG (zad 11)) (zaf gtD (zai 1) (zah (.int 0))) (zad 0) []))) (zag (sFz [1,4,7,8] (sIf (zaf neD (eFn zaw [(zah (.int 1)),(zad 1),(zad 4),(zcv [(zad 7),(zad 8)])]) (zai 12)) (zag (sFz [] (zbp (zah (.bl false)))) sNx) sNx)) (zag (sFz [] (sIf (zfK (zaf zhq (zaf ixD (zaf ixD (zai 4) (zai 7)) (zai 8)) (zah .non)) (zaf eqD (zaE zem [(zai 12)]) (zah (.int 1)))) (zag (sFz [7,8] (zg6 6 (zcv [(zcv [(zad 7),(zad 8)]),(zaf ixD (zai 12) (zah (.int 0)))]))) sNx) sNx)) sNx))))))
noncomputable def zgN:Fs :=
  (zag (sFz [3] (zeX (.one 8) (zc7 (zad 3)) zgO)) sNx)
noncomputable def zgM:Fs :=
  (zag (sFz [10] (zhS 14 15 0 1 (zad 10))) sNx)
noncomputable def ziC:Fs:=zag (sFz [1,4,16,1,4,16] (zbp (zfK (zaf eqD (eFn zaw [(zah (.int 0)),(zad 1),(zad 4),(zad 16)]) (zah (.str "no place"))) (zaf eqD (eFn zaw [(zah (.int 1)),(zad 1),(zad 4),(zad 16)]) (zah (.str "no place")))))) sNx
noncomputable def zgk:Fs:=zag (sFz [2,3,0] (zaW 16 false (zaf ixD (zeu [(zcv [(eUn zkb (zah (.int 1))),(zah (.int 0))]),(zcv [(zad 2),(zah (.int 0))]),(zcv [(zah (.int 0)),(zad 3)]),(zcv [(zah (.int 0)),(eUn zkb (zah (.int 1)))])]) (eFn zaD [(zad 0),(zah (.int 200)),(zah (.int 4))])))) ziC
noncomputable def ziD:Fs:=zag (sFz [14,1,13] (sIf (eOr (zaf neD (zai 13) (zaE zb6 [(zcZ 1 (.one 0) (zaV (zad 14)) zfI (zaE zb6 [(zai 0)]) [])])) (zaf neD (eFn zay [(zad 1),(zad 13)]) (zaE zem [(zai 5)]))) (zag (sFz [] (zbp (zah (.bl false)))) sNx) sNx)) zgk
noncomputable def ziE:Fs:=zag (sFz [6] (zeX (.tup [15,10]) (zaV (zad 6)) zgM)) ziD
noncomputable def zkm:Fs:=zag (sFz [4] (zhU 14 (zfB 1 (.one 0) (zaV (zad 4)) zfI (zaE zhn [(zai 0)]) []))) ziE
noncomputable def zkn:Fs:=zag (sFz [1,4] (zaW 13 false (eFn zbY [(zad 1),(zad 4)]))) zkm
noncomputable def zgj:Fs:=zag (sFz [1,4] (sIf (zaf neD (eFn zdq [(zad 1),(zad 4)]) (zai 6)) (zag (sFz [] (zbp (zah (.bl false)))) sNx) sNx)) zkn
noncomputable def zko:Fs:=zag (sFz [2] (zeX (.one 7) (zc7 (zad 2)) zgN)) zgj
noncomputable def zkp:Fs:=zag (sFz [] (zaW 6 true (zeu []))) zko
noncomputable def zhP:Fs:=zag (sFz [1,4] (zaW 5 false (eFn zbP [(zad 1),(zad 4)]))) zkp
noncomputable def zkq:Fs:=zag (sFz [0,1,2,3] (zaW 4 false (eFn zcl [(zad 0),(zah (.int 100)),(zad 1),(zad 2),(zad 3),(zah (.int 4))]))) zhP
noncomputable def zkr:Fs:=zag (sFz [0] (zhT (.tup [2,3]) (zaf ixD (zeu [(zcv [(zah (.int 1)),(zah (.int 1))]),(zcv [(zah (.int 1)),(zah (.int 2))]),(zcv [(zah (.int 2)),(zah (.int 1))]),(zcv [(zah (.int 2)),(zah (.int 2))]),(zcv [(zah (.int 2)),(zah (.int 2))]),(zcv [(zah (.int 1)),(zah (.int 3))]),(zcv [(zah (.int 3)),(zah (.int 1))])]) (eFn zaD [(zad 0),(zah (.int 90)),(zah (.int 7))])))) zkq
noncomputable def zks:Fs:=zag (sFz [0] (zaW 1 false (eFn zck [(zad 0),(zah (.int 0)),(zah (.int 3))]))) zkr
noncomputable def zp8:Fs :=
  zks
noncomputable def zrC:List S2.D->Sto->Out S2.D:=zbR 17 false zp8
end S2.L20
namespace S2.L20
open PySem
open L2 hiding D
abbrev Sl:=Option (Bool×D)
theorem zmy{S:Sto}:zcI [.exc "NoPlace"] S=.ok (.str "no place") S:=by rfl
theorem zoJ:(D.str "no place").fit 9=true:=by show PyData.strOk _=true;decide +kernel
theorem zsP:eqD (.str "no place") (.str "no place")=some (.bl true):=zqb rfl zoJ
theorem und:zqJ ztR "NoPlace" "FloorError" = true:=by decide
section
variable{ts:Z2}{r c:Nat}{g:Z1}
noncomputable def tdE:Fe:=eIf (zaf eqD (zai 0) (zah (.int 0))) (eFn za0 [(zad 1),(zad 2),(zad 3)]) (eFn zbc [(zad 1),(zad 2),(zad 3)])
noncomputable def tdF:Fs :=
  (zag (sFz [] (zaW 4 false (zah .non)))
  (zag (sFz [] (zaW 5 false (zah .non)))
  (zag (sFz [] (zqC (zqJ ztR) "FloorError" 6 4 (zag (sFz [1,2,3,1,2,3] (zaW 5 false tdE)) sNx)))
  (zag (sFz [] (sIf (zaf zhq (zai 4) (zah .non)) (zag (sFz [5] (zbp (zad 5))) sNx) sNx))
  (zag (sFz [4] (zbp (eFn zcI [(zad 4)])))
  sNx)))))
theorem znS:zaw=zbR 7 false tdF:=rfl
abbrev tdR(w:Int)(T F p:D):Env:=[some (false,.int w),some (false,T),some (false,F),some (false,p),some (false,.non),some (false,.non),none]
theorem zqQ{w:Int}{T F p:D}{L:List D}{S S':Sto}(h:tdE (tdR w T F p) S=.ok (.lst L) S'):zaw [.int w,T,F,p] S=.ok (.lst L) S':=by
 rw [znS,zav];simp [tdF,h]
theorem zqR{w:Int}{T F p:D}{S:Sto}(h:tdE (tdR w T F p) S=.exc "NoPlace" S):zaw [.int w,T,F,p] S=.ok (.str "no place") S:=by
 rw [znS,zav];simp [tdF,h,und,zmy]
theorem td0{T F p:D}{S:Sto}:tdE (tdR 0 T F p) S=za0 [T,F,p] S:=by
 have q0:eqD (.int 0) (.int 0)=some (.bl true):=rfl;simp [tdE,q0]
theorem td1{T F p:D}{S:Sto}:tdE (tdR 1 T F p) S=zbc [T,F,p] S:=by
 have q0:eqD (.int 1) (.int 0)=some (.bl false):=rfl;simp [tdE,q0]
theorem ztZ(P:FP ts r c)(hg:InT ts g){i j:Nat}(hi:i<r)(hj:j<c)(S:Sto):∃S',zaw [.int 0,.tup (ts.map zab),flr r c g,plD i j] S=.ok (.lst (zed ts r c g i j)) S':=by
 obtain ⟨S',e⟩:=zdU P hg hi hj S;exact ⟨S',zqQ (td0.trans e)⟩
theorem ztY(P:FP ts r c)(hg:InT ts g){i j:Nat}(hi:i<r)(hj:j<c)(S:Sto):∃S',zaw [.int 1,.tup (ts.map zab),flr r c g,plD i j] S=.ok (.lst (zdJ ts r c g i j)) S':=by
 obtain ⟨S',e⟩:=zgs P hg hi hj S;exact ⟨S',zqQ (td1.trans e)⟩
theorem zyq{i j:Int}{S:Sto}{T:D}(h1:1<=r)(h:¬ ((0<=i/\i<r)/\0<=j/\j<c)):zaw [.int 0,T,flr r c g,.tup [.int i,.int j]] S=.ok (.str "no place") S :=
 zqR (td0.trans (zdB (T:=T) (g:=g) (S:=S) h1 h))
theorem zyp{i j:Int}{S:Sto}{T:D}(h1:1<=r)(h:¬ ((0<=i/\i<r)/\0<=j/\j<c)):zaw [.int 1,T,flr r c g,.tup [.int i,.int j]] S=.ok (.str "no place") S :=
 zqR (td1.trans (zhX (T:=T) (g:=g) (S:=S) h1 h))
theorem zfg{i j:Nat}{d:D}:d∈zdJ ts r c g i j↔∃x:Nat,x<ts.length/\d=.int x/\∃t∈zae ts r c g,tnG c t i j=x:=by
 unfold zdJ;rw [List.mem_map];constructor
 ·rintro ⟨x,hx,rfl⟩;obtain ⟨h1,h2⟩:=List.mem_filter.mp hx;have h2':0<zew ts r c g i j x:=of_decide_eq_true h2;unfold zew at h2';obtain ⟨u,hu⟩:=List.exists_mem_of_length_pos h2';obtain ⟨u1,u2⟩:=List.mem_filter.mp hu;exact ⟨x,List.mem_range.mp h1,rfl,u,u1,of_decide_eq_true u2⟩
 ·rintro ⟨x,hx,rfl,u,hu,e⟩;refine ⟨x,List.mem_filter.mpr ⟨List.mem_range.mpr hx,decide_eq_true ?_⟩,rfl⟩;unfold zew;exact List.length_pos_of_mem (List.mem_filter.mpr ⟨hu,decide_eq_true e⟩)
theorem zog(P:FP ts r c){i j:Nat}(hi:i<r)(hj:j<c){t:List Int}(ht:t∈zae ts r c g):D.int (tnG c t i j)∈zdJ ts r c g i j:=by
 have h:=zeQ P.c1 ht hi hj;obtain ⟨x,hx⟩:=Int.eq_ofNat_of_zero_le h.1;exact zfg.mpr ⟨x,by omega,by rw [hx],t,ht,hx⟩
theorem zlg{i j:Nat}:(zdJ ts r c g i j).Nodup:=by
 unfold zdJ;rw [List.nodup_iff_pairwise_ne,List.pairwise_map];refine List.Pairwise.filter _ (List.Pairwise.imp (R:=fun a b=>a<b) ?_ List.pairwise_lt_range);intro a b h z
 injection z with z
 omega
theorem zpI{i j:Nat}:D.pls (zdJ ts r c g i j)=true/\∀n,D.fits (n+1) (zdJ ts r c g i j)=true:=by
 rw [D.pls_iff];refine ⟨fun d hd=>?_,fun n=>?_⟩
 ·obtain ⟨x,_,rfl,_⟩:=zfg.mp hd;rfl
 ·rw [D.fits_iff];intro d hd;obtain ⟨x,_,rfl,_⟩:=zfg.mp hd;rfl
theorem zqh{i j:Nat}:D.pls (zed ts r c g i j)=true/\∀n,D.fits (n+1) (zed ts r c g i j)=true:=by
 unfold zed;rw [D.pls_iff];refine ⟨fun d hd=>?_,fun n=>?_⟩
 ·obtain ⟨x,_,rfl⟩:=List.mem_map.mp hd;rfl
 ·rw [D.fits_iff];intro d hd;obtain ⟨x,_,rfl⟩:=List.mem_map.mp hd;rfl
theorem zoe{l:List D}(h:D.pls l=true/\∀n,D.fits (n+1) l=true):neD (.lst l) (.lst l)=some (.bl false):=zh4 h.1 (h.2 7)
theorem zpJ(P:FP ts r c){i j:Nat}(hi:i<r)(hj:j<c)(hb:zfH ts r c g i j=true):zdJ ts r c g i j=[.int (tnG c (zcE ts r c g) i j)]:=by
 obtain ⟨h1,h2,h3⟩:=zd5.mp hb;refine zla zlg (zog P hi hj (zd4 h2)) ?_;intro u hu;obtain ⟨x,_,rfl,t,ht,e⟩:=zfg.mp hu;rw [<-h3 t ht,e]
theorem zpx(P:FP ts r c){i j:Nat}(hi:i<r)(hj:j<c)(hg:g i j=none)(h:(zdJ ts r c g i j).length=1):zfH ts r c g i j=true:=by
 obtain ⟨d,hd⟩:=List.length_eq_one_iff.mp h
 have hm:d∈zdJ ts r c g i j:=by rw [hd];exact List.mem_singleton.mpr rfl
 obtain ⟨x,_,rfl,t,ht,e⟩:=zfg.mp hm;have hne:zae ts r c g≠[]:=List.ne_nil_of_mem ht
 have all:∀u∈zae ts r c g,D.int (tnG c u i j)=.int (x:Int):=fun u hu=>by
  have:=zog P hi hj hu;rw [hd] at this;exact List.mem_singleton.mp this
 refine zd5.mpr ⟨hg,hne,fun u hu=>?_⟩;have a:=all u hu;have b:=all _ (zd4 hne)
 injection a with a
 injection b with b
 rw [a,b]
theorem zdk{α:Type}{tg:Tg}{elt:Fe}{ρ0:Env}{S:Sto}{f h:α->D}:∀{F:List α},(∀t∈F,∃ρ1,tg.put ρ0 (f t)=some ρ1/\elt ρ1 S=.ok (h t) S)->zbh tg zfI elt ρ0 (F.map f) S=.ok (F.map h) S
 | [],_=>rfl
 | d::F,hh=>by
  obtain ⟨ρ1,e1,e2⟩:=hh d List.mem_cons_self;have ih:=zdk (F:=F) fun x hx=>hh x (List.mem_cons_of_mem _ hx)
  rw [List.map_cons];unfold zbh;rw [e1];simp [e2,ih]
theorem zqq{t:List Int}{i j:Nat}(hl:t.length=r*c)(hi:i<r)(hj:j<c):atI (t.map D.int) ((i:Int)*(c:Int)+(j:Int))=some (.int (tnG c t i j)):=by
 have hlt:i*c+j<t.length:=by rw [hl];exact zjR hi hj
 rw [show (i:Int)*(c:Int)+(j:Int)=((i*c+j:Nat):Int) by push_cast;rfl,zba,List.getElem?_map,List.getElem?_eq_getElem hlt];unfold tnG;rw [List.getD_eq_getElem?_getD,List.getElem?_eq_getElem hlt];rfl
noncomputable def zdL(ts:Z2)(r c:Nat)(g:Z1)(i j:Nat):List D:=((zae ts r c g).map fun t=>tnG c t i j).map D.int
theorem zlZ{i j:Nat}{S:Sto}(P:FP ts r c)(hi:i<r)(hj:j<c):zbh (.one 0) zfI (zaf ixD (zai 0) (zaf zb5 (zaf zfO (zai 3) (zai 2)) (zai 1))) [none,some (false,.int j),some (false,.int c),some (false,.int i)] ((zae ts r c g).map zab) S=.ok (zdL ts r c g i j) S:=by
 unfold zdL;rw [List.map_map];refine zdk fun t ht=>?_
 have ha:=zqq (znv P.c1 ht) hi hj;have hf:zbU (c:Int)=true:=zlM (by have:=P.c6;omega) (by have:=P.c6;omega);exact ⟨_,rfl,by simp [zab,ha,hf]⟩
theorem zmF{a b:Int}:zeK (.int a) (.int b)=decide (a=b):=by
 have h:=zhy (a:=a) (b:=b);have h':(some (D.bl (zeK (.int a) (.int b))):Option D)=some (.bl (decide (a=b))):=h
 injection h' with h'
 injection h'
theorem zjY{i j x:Nat}:zdj (zdL ts r c g i j) (.int (x:Int))=some (.int (zew ts r c g i j x:Nat)):=by
 unfold zdj;rw [show (D.int (x:Int)).fit 8=true from rfl,show D.fits 8 (zdL ts r c g i j)=true by rw [D.fits_iff];intro d hd;obtain ⟨y,_,rfl⟩:=List.mem_map.mp hd;rfl];show some (D.int _)=_;unfold zdL;rw [List.countP_map,List.countP_map];have e:((fun d=>zeK d (.int (x:Int)))∘D.int)∘(fun t=>tnG c t i j)=fun t=>decide (tnG c t i j=(x:Int)):=funext fun t=>zmF
 rw [e,List.countP_eq_length_filter];rfl
theorem zir{i j:Nat}{S:Sto}:zbh (.one 0) zfI (eMt zdj 1 (zai 0)) [none,some (false,.lst (zdL ts r c g i j))] (zas 0 ((ts.length:Nat):Int)) S=.ok (zed ts r c g i j) S:=by
 have e0:zas 0 ((ts.length:Nat):Int)=(List.range ts.length).map fun i:Nat=>D.int i:=by simp [zas]
 rw [e0];unfold zed;refine zdk fun x _=>?_
 have:=zjY (ts:=ts) (r:=r) (c:=c) (g:=g) (i:=i) (j:=j) (x:=x);exact ⟨_,rfl,by simp [this]⟩
theorem znD{i j:Nat}{S:Sto}:zbh (.tup [0,1]) (zaf gtD (zai 1) (zah (.int 0))) (zad 0) [none,none] (zbw (zed ts r c g i j)) S=.ok (zdJ ts r c g i j) S:=by
 have e2:=zdl (tg:=.tup [0,1]) (c:=zaf gtD (zai 1) (zah (.int 0))) (elt:=zad 0) (ρ0:=[none,none]) (S:=S) (g:=fun d=>match d with | .tup [a,_]=>a | _=>.non) (p:=fun d=>match d with | .tup [_,.int n]=>decide (0<n) | _=>false) (ds:=zbw (zed ts r c g i j)) (by
  intro d hd;unfold zed at hd;rw [zdv] at hd;obtain ⟨k,_,rfl⟩:=List.mem_map.mp hd;refine ⟨_,rfl,?_,fun _=>rfl⟩
  simp)
 have e3:((zbw (zed ts r c g i j)).filter (fun d=>match d with | .tup [_,.int n]=>decide (0<n) | _=>false)).map (fun d=>match d with | .tup [a,_]=>a | _=>.non)=zdJ ts r c g i j:=by
  unfold zed zdJ;rw [zdv,List.filter_map,List.map_map]
  have ef:((fun d=>match d with | D.tup [_,.int n]=>decide (0<n) | _=>false)∘fun k:Nat=>D.tup [.int k,.int (zew ts r c g i j k:Nat)])=fun x:Nat=>decide (0<zew ts r c g i j x):=by
   funext k;show decide ((0:Int)<(zew ts r c g i j k:Nat))=_;congr 1;exact propext ⟨fun z=>by omega,fun z=>by omega⟩
  rw [ef];rfl
 rw [e3] at e2;exact e2
abbrev en(l:List Int)(ts:Z2)(r c:Nat)(g:Z1)(s6 s7 s8 s9 s10 s11 s12 s13 s14 s15 s16:Sl):Env:=[some (false,.scr l),some (false,.tup (ts.map zab)),some (false,.int r),some (false,.int c),some (false,flr r c g),some (false,.lst ((zae ts r c g).map zab)),s6,s7,s8,s9,s10,s11,s12,s13,s14,s15,s16]
theorem hz(P:FP ts r c):(zae ts r c g).length<=80000:=by
 obtain ⟨_,b2⟩:=zgw ts.length (r*c) P.h4;exact Nat.le_trans (zet _) b2
theorem zpK:(zdJ ts r c g i j).length<=ts.length:=by
 unfold zdJ;rw [List.length_map];refine Nat.le_trans (List.length_filter_le _ _) ?_;rw [List.length_range];exact Nat.le_refl _
noncomputable def b1e:Fs:=(zag (sFz [] (sIf (zfK (zaf zhq (zaf ixD (zaf ixD (zai 4) (zai 7)) (zai 8)) (zah .non)) (zaf eqD (zaE zem [(zai 12)]) (zah (.int 1)))) (zag (sFz [7,8] (zg6 6 (zcv [(zcv [(zad 7),(zad 8)]),(zaf ixD (zai 12) (zah (.int 0)))]))) sNx) sNx)) sNx)
noncomputable def b1d:Fs:=(zag (sFz [1,4,7,8] (sIf (zaf neD (eFn zaw [(zah (.int 0)),(zad 1),(zad 4),(zcv [(zad 7),(zad 8)])]) (zai 11)) (zag (sFz [] (zbp (zah (.bl false)))) sNx) sNx)) (zag (sFz [11] (zaW 12 true (zcZ 2 (.tup [0,1]) (zgG (zad 11)) (zaf gtD (zai 1) (zah (.int 0))) (zad 0) []))) (zag (sFz [1,4,7,8] (sIf (zaf neD (eFn zaw [(zah (.int 1)),(zad 1),(zad 4),(zcv [(zad 7),(zad 8)])]) (zai 12)) (zag (sFz [] (zbp (zah (.bl false)))) sNx) sNx)) b1e)))
noncomputable def b1c:Fs:=(zag (sFz [5,8,3,7] (zaW 9 true (zcZ 1 (.one 0) (zaV (zad 5)) zfI (zaf ixD (zai 0) (zaf zb5 (zaf zfO (zai 3) (zai 2)) (zai 1))) [8,3,7]))) (zag (sFz [9] (zaW 11 true (zcZ 1 (.one 0) (zc7 (zaE zem [(zai 1)])) zfI (eMt zdj 1 (zai 0)) [9]))) b1d))
theorem zvm:zgO=b1c:=rfl
theorem zyo{l:List Int}{i j:Nat}{S:Sto}{s6 s9 s10 s11 s12 s13 s14 s15 s16:Sl}(P:FP ts r c)(hi:i<r)(hj:j<c) :
  b1c (en l ts r c g s6 (some (false,.int i)) (some (false,.int j)) s9 s10 s11 s12 s13 s14 s15 s16) S
   = b1d (en l ts r c g s6 (some (false,.int i)) (some (false,.int j)) (some (false,.lst (zdL ts r c g i j))) s10 (some (true,.lst (zed ts r c g i j))) s12 s13 s14 s15 s16) S:=by
 have n4:ts.length<=1000:=by have:=P.ht.le;omega
 have c1:=zlZ (g:=g) (S:=S) P hi hj;have c2:=zir (ts:=ts) (r:=r) (c:=c) (g:=g) (i:=i) (j:=j) (S:=S)
 have l1:(zdL ts r c g i j).length<=100000:=by unfold zdL;rw [List.length_map,List.length_map];have:=hz P (g:=g);omega
 have l2:(zed ts r c g i j).length<=100000:=by unfold zed;rw [List.length_map,List.length_range];omega
 have hlt:(ts.map zab).length=ts.length:=List.length_map ..;unfold en;generalize zdL ts r c g i j=A at *;generalize zed ts r c g i j=B at *;generalize (zae ts r c g).map zab=F at *;generalize ts.map zab=tsd at *;generalize ts.length=nt at *;generalize flr r c g=fl at *;simp [b1c,c1,l1,hlt,show (nt:Int)<=1000000 by omega,c2,l2]
theorem zyn{l:List Int}{i j:Nat}{S:Sto}{s6 s9 s10 s12 s13 s14 s15 s16:Sl}(P:FP ts r c)(hg:InT ts g)(hi:i<r)(hj:j<c) :
  ∃S',b1d (en l ts r c g s6 (some (false,.int i)) (some (false,.int j)) s9 s10 (some (true,.lst (zed ts r c g i j))) s12 s13 s14 s15 s16) S
   = b1e (en l ts r c g s6 (some (false,.int i)) (some (false,.int j)) s9 s10 (some (false,.lst (zed ts r c g i j))) (some (true,.lst (zdJ ts r c g i j))) s13 s14 s15 s16) S':=by
 have n4:ts.length<=1000:=by have:=P.ht.le;omega
 obtain ⟨S1,e1⟩:=ztZ P hg hi hj S;obtain ⟨S2,e2⟩:=ztY P hg hi hj S1;have c3:=znD (ts:=ts) (r:=r) (c:=c) (g:=g) (i:=i) (j:=j) (S:=S1);have q1:=zoe (zqh (ts:=ts) (r:=r) (c:=c) (g:=g) (i:=i) (j:=j));have q2:=zoe (zpI (ts:=ts) (r:=r) (c:=c) (g:=g) (i:=i) (j:=j))
 have l3:(zdJ ts r c g i j).length<=100000:=by have:=zpK (ts:=ts) (r:=r) (c:=c) (g:=g) (i:=i) (j:=j);omega
 refine ⟨S2,?_⟩;unfold en;generalize zed ts r c g i j=B at *;generalize zdJ ts r c g i j=C at *;generalize (zae ts r c g).map zab=F at *;generalize ts.map zab=tsd at *;generalize flr r c g=fl at *;simp [b1d,e1,q1,c3,l3,e2,q2]
theorem zuf{l:List Int}{i j:Nat}{L:List D}{S:Sto}{s9 s10 s11 s12 s13 s14 s15 s16:Sl}(P:FP ts r c)(hg:InT ts g)(hi:i<r)(hj:j<c)(hL:L.length<=100000) :
  ∃S' x9 x11 x12,zgO (en l ts r c g (some (true,.lst L)) (some (false,.int i)) (some (false,.int j)) s9 s10 s11 s12 s13 s14 s15 s16) S
   = .nx (en l ts r c g (some (true,.lst (L++zeF ts r c g (plD i j)))) (some (false,.int i)) (some (false,.int j)) x9 s10 x11 x12 s13 s14 s15 s16) S':=by
 obtain ⟨S2,e2⟩:=zyn (l:=l) (S:=S) (s6:=some (true,.lst L)) (s9:=some (false,.lst (zdL ts r c g i j))) (s10:=s10) (s12:=s12) (s13:=s13) (s14:=s14) (s15:=s15) (s16:=s16) P hg hi hj;rw [zvm,zyo P hi hj,e2];clear e2;have w1:(zce r c g)[i]?=some (zeJ c (g i)):=zcR hi;have w2:(zc4 c (g i))[j]?=some (oD (g i j)):=zcH hj;refine ⟨S2,some (false,.lst (zdL ts r c g i j)),some (false,.lst (zed ts r c g i j)),some (true,.lst (zdJ ts r c g i j)),?_⟩;rw [zga];unfold en flr
 by_cases hb:zfH ts r c g i j=true
 ·rw [if_pos hb];have hm:=zpJ (g:=g) P hi hj hb;rw [(zd5.mp hb).1] at w2;generalize tnG c (zcE ts r c g) i j=xx at *;generalize zdJ ts r c g i j=C at *;subst hm;have qe:eqD (.int 1) (.int 1)=some (.bl true):=rfl;generalize zdL ts r c g i j=A at *;generalize zed ts r c g i j=B at *;generalize (zae ts r c g).map zab=F at *;generalize ts.map zab=tsd at *;generalize zce r c g=fl at *;simp [b1e,w1,zeJ,w2,zba,oD,zhq,qe,hL]
 ·rw [if_neg hb,List.append_nil]
  by_cases hgn:g i j=none
  ·have hno:¬ ((zdJ ts r c g i j).length:Int)=1:=fun z=>hb (zpx P hi hj hgn (by omega))
   have qe:=zhy (a:=((zdJ ts r c g i j).length:Int)) (b:=1);rw [decide_eq_false hno] at qe;rw [hgn] at w2;generalize zdL ts r c g i j=A at *;generalize zed ts r c g i j=B at *;generalize zdJ ts r c g i j=C at *;generalize (zae ts r c g).map zab=F at *;generalize ts.map zab=tsd at *;generalize zce r c g=fl at *;simp [b1e,w1,zeJ,w2,zba,oD,zhq,qe]
  ·obtain ⟨x,hx⟩:=Option.ne_none_iff_exists'.mp hgn;rw [hx] at w2;generalize zdL ts r c g i j=A at *;generalize zed ts r c g i j=B at *;generalize zdJ ts r c g i j=C at *;generalize (zae ts r c g).map zab=F at *;generalize ts.map zab=tsd at *;generalize zce r c g=fl at *;simp [b1e,w1,zeJ,w2,zba,oD,zhq]
theorem zqc{i k:Nat}(P:FP ts r c)(hi:i<r)(hk:k<=c):((zcK i c++(List.range k).map fun j=>plD i j).flatMap (zeF ts r c g)).length<=100000:=by
 have h:=zdd (g:=zeF ts r c g) (m:=1) (l:=zcK i c++(List.range k).map fun j=>plD i j) fun x _=>zi6
 rw [List.length_append,List.length_map,List.length_range,ze8] at h;have:i*c<=6*6:=Nat.mul_le_mul (by have:=P.r6;omega) P.c6;have:=P.c6;omega
theorem zue{l:List Int}{i:Nat}{S:Sto}{s8 s9 s10 s11 s12 s13 s14 s15 s16:Sl}(P:FP ts r c)(hg:InT ts g)(hi:i<r) :
  ∃S' x8 x9 x11 x12,zgN (en l ts r c g (some (true,.lst ((zcK i c).flatMap (zeF ts r c g)))) (some (false,.int i)) s8 s9 s10 s11 s12 s13 s14 s15 s16) S
   = .nx (en l ts r c g (some (true,.lst ((zcK (i+1) c).flatMap (zeF ts r c g)))) (some (false,.int i)) x8 x9 s10 x11 x12 s13 s14 s15 s16) S':=by
 have c6:=P.c6
 obtain ⟨ρ',S1,e1,x8,x9,x11,x12,rfl⟩:=zcB (tg:=.one 8) (body:=zgO) (ds:=zas 0 (c:Int)) (fun k ρ S=>∃x8 x9 x11 x12,ρ=en l ts r c g (some (true,.lst ((zcK i c++(List.range k).map fun j=>plD i j).flatMap (zeF ts r c g)))) (some (false,.int i)) x8 x9 s10 x11 x12 s13 s14 s15 s16) (by
  rintro k d ρ S hd ⟨x8,x9,x11,x12,rfl⟩;obtain ⟨hk,rfl⟩:=zdW (L:=c) hd;obtain ⟨S',y9,y11,y12,e⟩:=zuf (l:=l) (i:=i) (j:=k) (S:=S) (s9:=x9) (s10:=s10) (s11:=x11) (s12:=x12) (s13:=s13) (s14:=s14) (s15:=s15) (s16:=s16) P hg hi hk (zqc (g:=g) P hi (Nat.le_of_lt hk));refine ⟨_,_,S',rfl,e,some (false,.int k),y9,y11,y12,?_⟩;rw [List.range_succ,List.map_append,<-List.append_assoc,List.flatMap_append (ys:=[k].map fun j=>plD i j)]
  simp)
  (ρ:=en l ts r c g (some (true,.lst ((zcK i c).flatMap (zeF ts r c g)))) (some (false,.int i)) s8 s9 s10 s11 s12 s13 s14 s15 s16) (S:=S) ⟨s8,s9,s11,s12,by simp⟩
 have hr:(zas 0 (c:Int)).length=c:=by rw [ze5];rfl
 rw [hr] at e1;refine ⟨S1,x8,x9,x11,x12,?_⟩;rw [ze9];unfold en at *;generalize (zcK i c++(List.range c).map fun j=>plD i j).flatMap (zeF ts r c g)=L2 at *;generalize (zcK i c).flatMap (zeF ts r c g)=L1 at *;generalize flr r c g=fl at *;generalize (zae ts r c g).map zab=F at *;generalize ts.map zab=tsd at *;simp [zgN,e1,show (c:Int)<=1000000 by omega]
theorem zqS{l:List Int}{S:Sto}{s6 s7 s8 s9 s10 s11 s12 s13 s14 s15 s16:Sl}(P:FP ts r c):zgk (en l ts r c g s6 s7 s8 s9 s10 s11 s12 s13 s14 s15 s16) S=.rt (.bl true) S:=by
 have k1:=zcj (l:=l) (k:=200) (many:=4) (S:=S) (by omega) (by omega);have p1:=zct l 200 (many:=4) (by omega);generalize zcf l 200 4=a at *
 obtain ⟨i,j,hn,ha⟩:∃i j:Int,¬ ((0<=i/\i<r)/\0<=j/\j<c)/\atI [D.tup [.int (-1),.int 0],.tup [.int r,.int 0],.tup [.int 0,.int c],.tup [.int 0,.int (-1)]] a=some (.tup [.int i,.int j]):=by
  have:a=0\/a=1\/a=2\/a=3:=by omega
  rcases this with rfl | rfl | rfl | rfl
  ·exact ⟨-1,0,by omega,rfl⟩
  ·exact ⟨r,0,by omega,rfl⟩
  ·exact ⟨0,c,by omega,rfl⟩
  ·exact ⟨0,-1,by omega,rfl⟩
 have o0:=zyq (T:=.tup (ts.map zab)) (g:=g) (S:=S) P.r1 hn;have o1:=zyp (T:=.tup (ts.map zab)) (g:=g) (S:=S) P.r1 hn;have qs:=zsP;unfold en;generalize D.tup [.int i,.int j]=pp at *;generalize flr r c g=fl at *;generalize (zae ts r c g).map zab=F at *;generalize ts.map zab=tsd at *;simp only [zgk,ziC];simp [k1,ha,o0,o1,qs]
noncomputable def lnL(r c:Nat)(h:Z1):List D:=(List.range r).map fun i=>D.lst (zc4 c (h i))
theorem ziX{h:Z1}:(lnL r c h).length=r:=by unfold lnL;rw [List.length_map,List.length_range]
theorem zli{h:Z1}{i:Nat}(hi:i<r):(lnL r c h)[i]?=some (.lst (zc4 c (h i))):=by unfold lnL;rw [List.getElem?_map,List.getElem?_range hi];rfl
theorem zjZ{S:Sto}:zbh (.one 0) zfI (zaE zhn [(zai 0)]) [none] (zce r c g) S=.ok (lnL r c g) S:=by
 unfold zce lnL;refine zdk fun i _=>⟨_,rfl,by simp [zeJ]⟩
theorem zlW{S:Sto}{h:Z1}:zbh (.one 0) zfI (zaE zb6 [(zai 0)]) [none] (lnL r c h) S=.ok (zce r c h) S:=by
 unfold zce lnL;refine zdk fun i _=>⟨_,rfl,by simp [zeJ]⟩
theorem zo1{h:Z1}{i j:Nat}{x:Int}(hj:j<c):(zc4 c (h i)).set j (.int x)=zc4 c (zc5 h i j (some x) i):=by
 apply List.ext_getElem?;intro a;rw [List.getElem?_set,zbW]
 by_cases ha:a<c
 ·rw [zcH ha,zcH ha];unfold zc5
  by_cases hja:j=a
  ·subst hja;rw [if_pos rfl,if_pos hj,if_pos ⟨rfl,rfl⟩];rfl
  ·rw [if_neg hja,if_neg (fun z=>hja z.2.symm)]
 ·have hz:∀f,(zc4 c f)[a]?=none:=fun f=>by rw [List.getElem?_eq_none_iff,zbW];omega
  rw [hz,hz,if_neg (by omega)]
theorem zrl{h:Z1}{i j:Nat}{x:Int}(hi:i<r)(hj:j<c):(lnL r c h).set i (.lst ((zc4 c (h i)).set j (.int x)))=lnL r c (zc5 h i j (some x)):=by
 rw [zo1 hj];apply List.ext_getElem?;intro a;rw [List.getElem?_set,ziX]
 by_cases ha:a<r
 ·rw [zli ha,zli ha]
  by_cases hia:i=a
  ·subst hia;rw [if_pos rfl,if_pos hi]
  ·rw [if_neg hia];congr 3;funext b;unfold zc5;rw [if_neg (fun z=>hia z.1.symm)]
 ·have hz:∀f,(lnL r c f)[a]?=none:=fun f=>by rw [List.getElem?_eq_none_iff,ziX];omega
  rw [hz,hz,if_neg (by omega)]
theorem zlq{n k:Nat}(h:k<n):ixN n (k:Int)=some k:=by unfold ixN;simp [h]
theorem zrk{h:Z1}{i j:Nat}{ρ:Env}{S:Sto}{x:Int}(hx:ρ[10]?=some (some (false,.int x)))(hh:ρ[14]?=some (some (true,zgQ (lnL r c h))))(hp:ρ[15]?=some (some (false,plD i j)))(hi:i<r)(hj:j<c) :
  zhS 14 15 0 1 (zad 10) ρ S=.nx (ρ.set 14 (some (true,zgQ (lnL r c (zc5 h i j (some x)))))) S:=by
 have e:zad 10 ρ S=.ok (.int x) S:=by simp [hx]
 rw [zoB e hh hp];unfold zoi;rw [show pkI [D.int i,D.int j] 0=some (i:Int) from rfl,show pkI [D.int i,D.int j] 1=some (j:Int) from rfl];dsimp only;rw [ziX,zlq hi];dsimp only;rw [zli hi];dsimp only;rw [zbW,zlq hj];dsimp only;rw [zrl hi hj]
theorem zuL{l:List Int}{S:Sto}{s7 s8 s9 s10 s11 s12 s13 s15 s16:Sl}:∃x10 x15,zfr (.tup [15,10]) zgM (zao ts r c g) (en l ts r c g (some (false,.lst (zao ts r c g))) s7 s8 s9 s10 s11 s12 s13 (some (true,zgQ (lnL r c g))) s15 s16) S
   = .nx (en l ts r c g (some (false,.lst (zao ts r c g))) s7 s8 s9 x10 s11 s12 s13 (some (true,zgQ (lnL r c ((zao ts r c g).foldl stW g)))) x15 s16) S:=by
 obtain ⟨ρ',e1,x10,x15,rfl⟩:=zcP (tg:=.tup [15,10]) (body:=zgM) (ds:=zao ts r c g) (S:=S) (fun k ρ=>∃x10 x15,ρ=en l ts r c g (some (false,.lst (zao ts r c g))) s7 s8 s9 x10 s11 s12 s13 (some (true,zgQ (lnL r c (((zao ts r c g).take k).foldl stW g)))) x15 s16) (by
  rintro k d ρ hd ⟨x10,x15,rfl⟩;obtain ⟨i,j,hi,hj,_,rfl⟩:=zbI.mp (List.mem_of_getElem? hd);refine ⟨_,_,rfl,?_,some (false,.int (tnG c (zcE ts r c g) i j)),some (false,plD i j),rfl⟩
  have ht:(zao ts r c g).take (k+1)=(zao ts r c g).take k++[.tup [plD i j,.int (tnG c (zcE ts r c g) i j)]]:=by
   rw [List.take_add_one,hd];rfl
  rw [ht,List.foldl_append];simp only [List.foldl_cons,List.foldl_nil];rw [zoK];generalize ((zao ts r c g).take k).foldl stW g=h at *;unfold en;generalize tnG c (zcE ts r c g) i j=x at *;generalize zao ts r c g=LF at *;generalize flr r c g=fl at *;generalize (zae ts r c g).map zab=F at *;generalize ts.map zab=tsd at *;have st:=fun (ρ:Env) (hx:ρ[10]?=some (some (false,.int x))) (hh:ρ[14]?=some (some (true,zgQ (lnL r c h)))) (hp:ρ[15]?=some (some (false,plD i j)))=>zrk (S:=S) (r:=r) (c:=c) hx hh hp hi hj
  generalize lnL r c (zc5 h i j (some x))=l2 at *;generalize lnL r c h=l1 at *;generalize plD i j=pp at *
  simp [zgM,st])
  (ρ:=en l ts r c g (some (false,.lst (zao ts r c g))) s7 s8 s9 s10 s11 s12 s13 (some (true,zgQ (lnL r c g))) s15 s16) ⟨_,_,rfl⟩
 rw [List.take_length] at e1;exact ⟨x10,x15,e1⟩
theorem zt0{l:List Int}{S:Sto}{s7 s8 s9 s10 s11 s12 s13 s14 s15 s16:Sl}(P:FP ts r c)(hg:InT ts g) :
  ∃S',zgj (en l ts r c g (some (true,.lst (zao ts r c g))) s7 s8 s9 s10 s11 s12 s13 s14 s15 s16) S=.rt (.bl true) S':=by
 have r6:=P.r6;have c6:=P.c6;obtain ⟨S1,e1⟩:=zfW P hg S;obtain ⟨S2,e2⟩:=zeZ P hg S1;obtain ⟨h,hin,he⟩:=ztF P hg;obtain ⟨S3,e3⟩:=zdV P hin S2;rw [show flr r c h=flr r c (wfG ts r c g) from zft he,zih he,znu P.c1] at e3;have q1:=zh4 (d:=.lst (zao ts r c g)) zjT (zig (n:=5));have c1:=zjZ (r:=r) (c:=c) (g:=g) (S:=S2);obtain ⟨x10,x15,e4⟩:=zuL (ts:=ts) (r:=r) (c:=c) (g:=g) (l:=l) (S:=S2) (s7:=s7) (s8:=s8) (s9:=s9) (s10:=s10) (s11:=s11) (s12:=s12) (s13:=some (false,flr r c (wfG ts r c g))) (s15:=s15) (s16:=s16);have c2:=zlW (r:=r) (c:=c) (S:=S2) (h:=(zao ts r c g).foldl stW g);have ef:flr r c ((zao ts r c g).foldl stW g)=flr r c (wfG ts r c g):=zft fun i j hi hj=>zlE hi hj
 have q2:neD (flr r c (wfG ts r c g)) (.tup (zce r c ((zao ts r c g).foldl stW g)))=some (.bl false):=by
  have:D.tup (zce r c ((zao ts r c g).foldl stW g))=flr r c (wfG ts r c g):=ef;rw [this];exact zsi
 have l1:(zce r c ((zao ts r c g).foldl stW g)).length<=100000:=by rw [zcQ];omega
 have km:=zpP (S:=S2) (ys:=lnL r c g) (by rw [ziX];omega) (by
  rw [List.all_eq_true];intro d hd;unfold lnL at hd;obtain ⟨i,_,rfl⟩:=List.mem_map.mp hd;rfl)
 have hlf:((zae ts r c g).map zab).length=(zae ts r c g).length:=List.length_map ..;have qn:=zsh (a:=((zae ts r c g).length:Nat)) (b:=((zae ts r c g).length:Nat));have e5:=zqS (ts:=ts) (r:=r) (c:=c) (g:=g) (l:=l) (S:=S3) (s6:=some (false,.lst (zao ts r c g))) (s7:=s7) (s8:=s8) (s9:=s9) (s10:=x10) (s11:=s11) (s12:=s12) (s13:=some (false,flr r c (wfG ts r c g))) (s14:=some (false,.lst (lnL r c ((zao ts r c g).foldl stW g)))) (s15:=x15) (s16:=s16) P;refine ⟨S3,?_⟩;unfold en at *;clear ef;generalize zce r c ((zao ts r c g).foldl stW g)=fl2 at *;generalize lnL r c ((zao ts r c g).foldl stW g)=l2 at *;generalize lnL r c g=l1' at *;unfold flr at *;generalize zce r c (wfG ts r c g)=fw at *;generalize zce r c g=fl at *;generalize zao ts r c g=LF at *;generalize (zae ts r c g).map zab=F at *;generalize (zae ts r c g).length=nn at *;generalize ts.map zab=tsd at *;simp only [zgj,zkn,zkm,ziE,ziD];simp [e1,q1,e2,c1,km,e4,c2,l1,q2,e3,hlf,qn,e5]
theorem zt1{l:List Int}{S:Sto}{s5 s6 s7 s8 s9 s10 s11 s12 s13 s14 s15 s16:Sl}(P:FP ts r c)(hg:InT ts g) :
  ∃S',zhP [some (false,.scr l),some (false,.tup (ts.map zab)),some (false,.int r),some (false,.int c),some (false,flr r c g),s5,s6,s7,s8,s9,s10,s11,s12,s13,s14,s15,s16] S=.rt (.bl true) S':=by
 have r6:=P.r6;have e0:=zjG (g:=g) P S
 obtain ⟨ρ',S1,e1,x7,x8,x9,x11,x12,rfl⟩:=zcB (tg:=.one 7) (body:=zgN) (ds:=zas 0 (r:Int)) (fun k ρ S=>∃x7 x8 x9 x11 x12,ρ=en l ts r c g (some (true,.lst ((zcK k c).flatMap (zeF ts r c g)))) x7 x8 x9 s10 x11 x12 s13 s14 s15 s16) (by
  rintro k d ρ S hd ⟨x7,x8,x9,x11,x12,rfl⟩;obtain ⟨hk,rfl⟩:=zdW (L:=r) hd;obtain ⟨S',y8,y9,y11,y12,e⟩:=zue (l:=l) (i:=k) (S:=S) (s8:=x8) (s9:=x9) (s10:=s10) (s11:=x11) (s12:=x12) (s13:=s13) (s14:=s14) (s15:=s15) (s16:=s16) P hg hk
  exact ⟨_,_,S',rfl,e,some (false,.int k),y8,y9,y11,y12,rfl⟩)
  (ρ:=en l ts r c g (some (true,.lst [])) s7 s8 s9 s10 s11 s12 s13 s14 s15 s16) (S:=S) ⟨_,_,_,_,_,rfl⟩
 have hr:(zas 0 (r:Int)).length=r:=by rw [ze5];rfl
 rw [hr] at e1;obtain ⟨S2,e2⟩:=zt0 (l:=l) (S:=S1) (s7:=x7) (s8:=x8) (s9:=x9) (s10:=s10) (s11:=x11) (s12:=x12) (s13:=s13) (s14:=s14) (s15:=s15) (s16:=s16) P hg;refine ⟨S2,?_⟩;have e2':zgj (en l ts r c g (some (true,.lst ((zcK r c).flatMap (zeF ts r c g)))) x7 x8 x9 s10 x11 x12 s13 s14 s15 s16) S1=.rt (.bl true) S2:=e2;clear e2;unfold en at *;generalize (zcK r c).flatMap (zeF ts r c g)=LF at *;generalize flr r c g=fl at *;generalize (zae ts r c g).map zab=F at *;generalize ts.map zab=tsd at *;simp only [zhP,zkp,zko];simp [e0,e1,e2',show (r:Int)<=1000000 by omega]
end
theorem zm9:∀l:List Int,l.length<=63->∃S,zrC [.scr l] []=.ok (.bl true) S:=by
 intro l _;obtain ⟨ts,hT,et⟩:=zkF (l:=l) (at':=0) (most:=3) (S:=[]) (by omega) (by omega) (by omega);have k1:=zcj (l:=l) (k:=90) (many:=7) (S:=[]) (by omega) (by omega);have p1:=zct l 90 (many:=7) (by omega);generalize zcf l 90 7=a at *
 obtain ⟨r,c,h1,c1,hr,hc,hrc,ha⟩:∃r c:Nat,1<=r/\1<=c/\r<=6/\c<=6/\r*c<=6/\atI [D.tup [.int 1,.int 1],.tup [.int 1,.int 2],.tup [.int 2,.int 1],.tup [.int 2,.int 2],.tup [.int 2,.int 2],.tup [.int 1,.int 3],.tup [.int 3,.int 1]] a=some (.tup [.int r,.int c]):=by
  have:a=0\/a=1\/a=2\/a=3\/a=4\/a=5\/a=6:=by omega
  rcases this with rfl | rfl | rfl | rfl | rfl | rfl | rfl
  ·exact ⟨1,1,by decide,by decide,by decide,by decide,by decide,rfl⟩
  ·exact ⟨1,2,by decide,by decide,by decide,by decide,by decide,rfl⟩
  ·exact ⟨2,1,by decide,by decide,by decide,by decide,by decide,rfl⟩
  ·exact ⟨2,2,by decide,by decide,by decide,by decide,by decide,rfl⟩
  ·exact ⟨2,2,by decide,by decide,by decide,by decide,by decide,rfl⟩
  ·exact ⟨1,3,by decide,by decide,by decide,by decide,by decide,rfl⟩
  ·exact ⟨3,1,by decide,by decide,by decide,by decide,by decide,rfl⟩
 have n1:=hT.ne;have n4:=hT.le;have ht:TOk ts:=⟨hT.four,by omega⟩
 have hp2:0<((ts.map zab).length:Int)*4:=by simp;omega
 have f2:=zkH (l:=l) (at':=100) (m:=4) (ts:=ts.map zab) (r:=r) (c:=c) (S:=[]) (by omega) hp2 (by decide) (by omega) (by omega) (by omega) (by omega)
 have g2:InT ts (zka l 100 (ts.map zab).length 4):=fun i j x e=>by simpa using zsd hp2 x e
 rw [Int.toNat_natCast,Int.toNat_natCast] at f2;generalize zka l 100 (ts.map zab).length 4=gb at *;have P:FP ts r c:=⟨ht,by omega,zuw (by omega) hrc,h1,c1,hrc⟩;obtain ⟨S',e⟩:=zt1 (l:=l) (s5:=none) (s6:=none) (s7:=none) (s8:=none) (s9:=none) (s10:=none) (s11:=none) (s12:=none) (s13:=none) (s14:=none) (s15:=none) (s16:=none) (S:=[]) P g2;refine ⟨S',?_⟩;generalize ts.map zab=tsd at *;generalize flr r c gb=fl at *;simp only [zrC,zav,zp8,zks,zkr,zkq];simp [et,k1,ha,f2,e]
end S2.L20
namespace M20
open PySem L2 S2 S2.L20
def top(i:Nat):Stmt:=PySem.Challenge.pw_floorfits_k20_whole_known.main.body.getD i (.Pass ⟨0,0,0,0⟩)
def T:Tab:=⟨[("NORTH",.int 0),("EAST",.int 1),("SOUTH",.int 2),("WEST",.int 3)],["isinstance","int","bool","tuple","list","len","range","sum","enumerate","ValueError"],["FloorError","NoPlace","NoTile","NoFill","Unlike","Nothing","NoText"],[("NoPlace","FloorError"),("NoTile","FloorError"),("NoFill","FloorError")],["NoPlace","NoTile","NoFill"],[("Ways","tiles"),("Ways","ground"),("Ways","size"),("Ways","is_round"),("Ways","known")],["known"],["_law_lines"]⟩
noncomputable def F0:Fn3:=⟨"",[],[],[]⟩
noncomputable def F1:Fn3:=F0.fn "is_whole" ⟨1,false,zaP⟩
theorem d1:zap (Gn T F0) false ["thing"] (top 14)=some zdu:=by rfl
theorem s1:FnScope ["thing"] ["thing"] (zac (top 14)):=⟨rfl,rfl,rfl,by decide +kernel,rfl,by decide +kernel,by decide +kernel⟩
noncomputable def F2:Fn3:=F1.fn "is_tuple_of" ⟨3,false,zaZ⟩
theorem d2:zap (Gn T F1) false ["thing","least","most"] (top 15)=some zb1:=by rfl
theorem s2:FnScope ["thing","least","most"] ["thing","least","most"] (zac (top 15)):=⟨rfl,rfl,rfl,by decide +kernel,rfl,by decide +kernel,by decide +kernel⟩
noncomputable def F3:Fn3:=F2.fn "has_number" ⟨2,false,zbu⟩
theorem d3:zap (Gn T F2) false ["tiles","thing"] (top 16)=some zcq:=by rfl
theorem s3:FnScope ["tiles","thing"] ["tiles","thing"] (zac (top 16)):=⟨rfl,rfl,rfl,by decide +kernel,rfl,by decide +kernel,by decide +kernel⟩
noncomputable def F4:Fn3:=F3.fn "may_lie" ⟨2,false,zc9⟩
theorem d4:zap (Gn T F3) false ["tiles","thing"] (top 17)=some zea:=by rfl
theorem s4:FnScope ["tiles","thing"] ["tiles","thing"] (zac (top 17)):=⟨rfl,rfl,rfl,by decide +kernel,rfl,by decide +kernel,by decide +kernel⟩
noncomputable def F5:Fn3:=F4.fn "size_of" ⟨1,false,zbO⟩
theorem d5:zap (Gn T F4) false ["floor","columns"] (top 18)=some zfv:=by rfl
theorem s5:FnScope ["floor","columns"] ["floor"] (zac (top 18)):=⟨rfl,rfl,rfl,by decide +kernel,rfl,by decide +kernel,by decide +kernel⟩
noncomputable def F6:Fn3:=F5.fn "places_of" ⟨1,true,zbF⟩
theorem d6:zap (Gn T F5) true ["floor","size","places","row","column"] (top 19)=some zdN:=by rfl
theorem s6:FnScope ["floor","size","places","row","column"] ["floor"] (zac (top 19)):=⟨rfl,rfl,rfl,by decide +kernel,rfl,by decide +kernel,by decide +kernel⟩
noncomputable def F7:Fn3:=F6.fn "in_rows" ⟨2,false,zdX⟩
theorem d7:zap (Gn T F6) false ["numbers","size"] (top 20)=some zfw:=by rfl
theorem s7:FnScope ["numbers","size"] ["numbers","size"] (zac (top 20)):=⟨rfl,rfl,rfl,by decide +kernel,rfl,by decide +kernel,by decide +kernel⟩
noncomputable def F8:Fn3:=F7.fn "number_at" ⟨2,false,zaY⟩
theorem d8:zap (Gn T F7) false ["floor","place"] (top 21)=some zdO:=by rfl
theorem s8:FnScope ["floor","place"] ["floor","place"] (zac (top 21)):=⟨rfl,rfl,rfl,by decide +kernel,rfl,by decide +kernel,by decide +kernel⟩
noncomputable def F9:Fn3:=F8.fn "has_place" ⟨2,false,zb7⟩
theorem d9:zap (Gn T F8) false ["floor","place","size"] (top 22)=some zdP:=by rfl
theorem s9:FnScope ["floor","place","size"] ["floor","place"] (zac (top 22)):=⟨rfl,rfl,rfl,by decide +kernel,rfl,by decide +kernel,by decide +kernel⟩
noncomputable def F10:Fn3:=F9.fn "refuse_outside" ⟨2,false,zaJ⟩
theorem d10:zap (Gn T F9) false ["floor","place"] (top 23)=some zbn:=by rfl
theorem s10:FnScope ["floor","place"] ["floor","place"] (zac (top 23)):=⟨rfl,rfl,rfl,by decide +kernel,rfl,by decide +kernel,by decide +kernel⟩
noncomputable def F11:Fn3:=F10.fn "tile_at" ⟨2,false,zcy⟩
theorem d11:zap (Gn T F10) false ["floor","place"] (top 24)=some zd9:=by rfl
theorem s11:FnScope ["floor","place"] ["floor","place"] (zac (top 24)):=⟨rfl,rfl,rfl,by decide +kernel,rfl,by decide +kernel,by decide +kernel⟩
noncomputable def F12:Fn3:=F11.fn "with_number" ⟨3,false,zbX⟩
theorem d12:zap (Gn T F11) false ["floor","place","number","old","row"] (top 25)=some zcT:=by rfl
theorem s12:FnScope ["floor","place","number","old","row"] ["floor","place","number"] (zac (top 25)):=⟨rfl,rfl,rfl,by decide +kernel,rfl,by decide +kernel,by decide +kernel⟩
noncomputable def F13:Fn3:=F12.fn "with_tile" ⟨4,false,zbE⟩
theorem d13:zap (Gn T F12) false ["tiles","floor","place","number"] (top 26)=some zdM:=by rfl
theorem s13:FnScope ["tiles","floor","place","number"] ["tiles","floor","place","number"] (zac (top 26)):=⟨rfl,rfl,rfl,by decide +kernel,rfl,by decide +kernel,by decide +kernel⟩
noncomputable def F14:Fn3:=F13.fn "suits" ⟨2,false,ze7⟩
theorem d14:zap (Gn T F13) false ["wanted","colour"] (top 28)=some zij:=by rfl
theorem s14:FnScope ["wanted","colour"] ["wanted","colour"] (zac (top 28)):=⟨rfl,rfl,rfl,by decide +kernel,rfl,by decide +kernel,by decide +kernel⟩
noncomputable def F15:Fn3:=F14.cls "Ways" [.bl false] ⟨4,false,zaU⟩
theorem d15:zap (Gn T (F14.at "Ways")) false ["self","tiles","floor","is_round"] (inC 0 (top 29))=some zcc:=by rfl
theorem s15:FnScope ["self","tiles","floor","is_round"] ["self","tiles","floor","is_round"] (zac (inC 0 (top 29))):=⟨rfl,rfl,rfl,by decide +kernel,rfl,by decide +kernel,by decide +kernel⟩
noncomputable def F16:Fn3:=F15.mt "first_seam" "Ways" ⟨1,false,zaS⟩
theorem d16:zap (Gn T (F15.at "Ways")) false ["self"] (inC 1 (top 29))=some zbK:=by rfl
theorem s16:FnScope ["self"] ["self"] (zac (inC 1 (top 29))):=⟨rfl,rfl,rfl,by decide +kernel,rfl,by decide +kernel,by decide +kernel⟩
noncomputable def F17:Fn3:=F16.mt "ends_row" "Ways" ⟨2,false,zaT⟩
theorem d17:zap (Gn T (F16.at "Ways")) false ["self","step"] (inC 2 (top 29))=some zcb:=by rfl
theorem s17:FnScope ["self","step"] ["self","step"] (zac (inC 2 (top 29))):=⟨rfl,rfl,rfl,by decide +kernel,rfl,by decide +kernel,by decide +kernel⟩
noncomputable def F18:Fn3:=F17.mt "colour_round" "Ways" ⟨4,false,zar⟩
theorem d18:zap (Gn T (F17.at "Ways")) false ["self","step","seam","tile"] (inC 3 (top 29))=some za3:=by rfl
theorem s18:FnScope ["self","step","seam","tile"] ["self","step","seam","tile"] (zac (inC 3 (top 29))):=⟨rfl,rfl,rfl,by decide +kernel,rfl,by decide +kernel,by decide +kernel⟩
noncomputable def F19:Fn3:=F18.mt "seam_behind" "Ways" ⟨4,false,za8⟩
theorem d19:zap (Gn T (F18.at "Ways")) false ["self","step","seam","tile","is_last","in_last_row","east","south","around"] (inC 4 (top 29))=some zbz:=by rfl
theorem s19:FnScope ["self","step","seam","tile","is_last","in_last_row","east","south","around"] ["self","step","seam","tile"] (zac (inC 4 (top 29))):=⟨rfl,rfl,rfl,by decide +kernel,rfl,by decide +kernel,by decide +kernel⟩
noncomputable def F20:Fn3:=F19.mt "numbers_for" "Ways" ⟨2,false,zaL⟩
theorem d20:zap (Gn T (F19.at "Ways")) false ["self","step","laid"] (inC 5 (top 29))=some za9:=by rfl
theorem s20:FnScope ["self","step","laid"] ["self","step"] (zac (inC 5 (top 29))):=⟨rfl,rfl,rfl,by decide +kernel,rfl,by decide +kernel,by decide +kernel⟩
noncomputable def F21:Fn3:=F20.mt "fits_round" "Ways" ⟨4,false,zaR⟩
theorem d21:zap (Gn T (F20.at "Ways")) false ["self","step","seam","tile"] (inC 6 (top 29))=some zbg:=by rfl
theorem s21:FnScope ["self","step","seam","tile"] ["self","step","seam","tile"] (zac (inC 6 (top 29))):=⟨rfl,rfl,rfl,by decide +kernel,rfl,by decide +kernel,by decide +kernel⟩
noncomputable def F22:Fn3:=F21.mt "fits" "Ways" ⟨4,false,zcJ⟩
theorem d22:zap (Gn T (F21.at "Ways")) false ["self","step","seam","tile"] (inC 7 (top 29))=some zdR:=by rfl
theorem s22:FnScope ["self","step","seam","tile"] ["self","step","seam","tile"] (zac (inC 7 (top 29))):=⟨rfl,rfl,rfl,by decide +kernel,rfl,by decide +kernel,by decide +kernel⟩
noncomputable def F23:Fn3:=F22.mt "choices" "Ways" ⟨3,true,zbj⟩
theorem d23:zap (Gn T (F22.at "Ways")) true ["self","step","seam","found","number","tile"] (inC 8 (top 29))=some zcu:=by rfl
theorem s23:FnScope ["self","step","seam","found","number","tile"] ["self","step","seam"] (zac (inC 8 (top 29))):=⟨rfl,rfl,rfl,by decide +kernel,rfl,by decide +kernel,by decide +kernel⟩
noncomputable def F24:Fn3:=F23.mt "count_from" "Ways" ⟨3,false,zat⟩
theorem d24:∀r,zap (Gn T ((F23.mt "count_from" "Ways" ⟨["self","step","seam"].length,false,r⟩).at "Ways")) false ["self","step","seam","key"] (inC 9 (top 29))=some (zal r):=by intro r;rfl
theorem s24:FnScope ["self","step","seam","key"] ["self","step","seam"] (zac (inC 9 (top 29))):=⟨rfl,rfl,rfl,by decide +kernel,rfl,by decide +kernel,by decide +kernel⟩
noncomputable def F25:Fn3:=F24.mt "count_all" "Ways" ⟨1,false,zaB⟩
theorem d25:zap (Gn T (F24.at "Ways")) false ["self"] (inC 10 (top 29))=some zbo:=by rfl
theorem s25:FnScope ["self"] ["self"] (zac (inC 10 (top 29))):=⟨rfl,rfl,rfl,by decide +kernel,rfl,by decide +kernel,by decide +kernel⟩
noncomputable def F26:Fn3:=F25.mt "numbers_by" "Ways" ⟨2,true,zbf⟩
theorem d26:zap (Gn T (F25.at "Ways")) true ["self","number","numbers","left","seam","step","choice","many"] (inC 11 (top 29))=some zbJ:=by rfl
theorem s26:FnScope ["self","number","numbers","left","seam","step","choice","many"] ["self","number"] (zac (inC 11 (top 29))):=⟨rfl,rfl,rfl,by decide +kernel,rfl,by decide +kernel,by decide +kernel⟩
noncomputable def F27:Fn3:=F26.mt "whole_by" "Ways" ⟨2,false,zaQ⟩
theorem d27:zap (Gn T (F26.at "Ways")) false ["self","number"] (inC 12 (top 29))=some zbe:=by rfl
theorem s27:FnScope ["self","number"] ["self","number"] (zac (inC 12 (top 29))):=⟨rfl,rfl,rfl,by decide +kernel,rfl,by decide +kernel,by decide +kernel⟩
noncomputable def F28:Fn3:=F27.fn "count_fills" ⟨2,false,zay⟩
theorem d28:zap (Gn T F27) false ["tiles","floor"] (top 30)=some zcX:=by rfl
theorem s28:FnScope ["tiles","floor"] ["tiles","floor"] (zac (top 30)):=⟨rfl,rfl,rfl,by decide +kernel,rfl,by decide +kernel,by decide +kernel⟩
noncomputable def F29:Fn3:=F28.fn "fill" ⟨3,false,zfZ⟩
theorem d29:zap (Gn T F28) false ["tiles","floor","number"] (top 31)=some zje:=by rfl
theorem s29:FnScope ["tiles","floor","number"] ["tiles","floor","number"] (zac (top 31)):=⟨rfl,rfl,rfl,by decide +kernel,rfl,by decide +kernel,by decide +kernel⟩
noncomputable def F30:Fn3:=F29.fn "counts_at" ⟨3,true,za0⟩
theorem d30:zap (Gn T F29) true ["tiles","floor","place","laid","counts","number","is_kept"] (top 33)=some zcW:=by rfl
theorem s30:FnScope ["tiles","floor","place","laid","counts","number","is_kept"] ["tiles","floor","place"] (zac (top 33)):=⟨rfl,rfl,rfl,by decide +kernel,rfl,by decide +kernel,by decide +kernel⟩
noncomputable def F31:Fn3:=F30.fn "may_stand" ⟨3,true,zbc⟩
theorem d31:zap (Gn T F30) true ["tiles","floor","place"] (top 34)=some zcV:=by rfl
theorem s31:FnScope ["tiles","floor","place"] ["tiles","floor","place"] (zac (top 34)):=⟨rfl,rfl,rfl,by decide +kernel,rfl,by decide +kernel,by decide +kernel⟩
noncomputable def F32:Fn3:=F31.fn "bare_places" ⟨1,true,zbZ⟩
theorem d32:zap (Gn T F31) true ["floor"] (top 35)=some zcY:=by rfl
theorem s32:FnScope ["floor"] ["floor"] (zac (top 35)):=⟨rfl,rfl,rfl,by decide +kernel,rfl,by decide +kernel,by decide +kernel⟩
noncomputable def F33:Fn3:=F32.fn "forced" ⟨2,true,zdq⟩
theorem d33:zap (Gn T F32) true ["tiles","floor","many","first","found","place","number"] (top 36)=some zeR:=by rfl
theorem s33:FnScope ["tiles","floor","many","first","found","place","number"] ["tiles","floor"] (zac (top 36)):=⟨rfl,rfl,rfl,by decide +kernel,rfl,by decide +kernel,by decide +kernel⟩
noncomputable def F34:Fn3:=F33.fn "with_forced" ⟨2,false,zbY⟩
theorem d34:zap (Gn T F33) false ["tiles","floor","whole","place","number"] (top 37)=some zcU:=by rfl
theorem s34:FnScope ["tiles","floor","whole","place","number"] ["tiles","floor"] (zac (top 37)):=⟨rfl,rfl,rfl,by decide +kernel,rfl,by decide +kernel,by decide +kernel⟩
noncomputable def F35:Fn3:=F34.fn "_law_cell" ⟨2,false,zbG⟩
theorem d35:zap (Gn T F34) false ["_law_script","_law_k"] (top 39)=some zca:=by rfl
theorem s35:FnScope ["_law_script","_law_k"] ["_law_script","_law_k"] (zac (top 39)):=⟨rfl,rfl,rfl,by decide +kernel,rfl,by decide +kernel,by decide +kernel⟩
noncomputable def F36:Fn3:=F35.fn "_law_pick" ⟨3,false,zaD⟩
theorem d36:zap (Gn T F35) false ["_law_script","_law_k","_law_many","_law_drawn"] (top 40)=some zdQ:=by rfl
theorem s36:FnScope ["_law_script","_law_k","_law_many","_law_drawn"] ["_law_script","_law_k","_law_many"] (zac (top 40)):=⟨rfl,rfl,rfl,by decide +kernel,rfl,by decide +kernel,by decide +kernel⟩
noncomputable def F37:Fn3:=F36.fn "_law_tiles" ⟨3,false,zck⟩
theorem d37:zap (Gn T F36) false ["_law_script","_law_at","_law_most","_law_colours","_law_made","_law_k","_law_tile"] (top 41)=some zdf:=by rfl
theorem s37:FnScope ["_law_script","_law_at","_law_most","_law_colours","_law_made","_law_k","_law_tile"] ["_law_script","_law_at","_law_most"] (zac (top 41)):=⟨rfl,rfl,rfl,by decide +kernel,rfl,by decide +kernel,by decide +kernel⟩
noncomputable def F38:Fn3:=F37.fn "_law_floor" ⟨6,false,zcl⟩
theorem d38:zap (Gn T F37) false ["_law_script","_law_at","_law_tiles_here","_law_rows","_law_columns","_law_many","_law_made","_law_row","_law_line","_law_column","_law_here"] (top 42)=some zdg:=by rfl
theorem s38:FnScope ["_law_script","_law_at","_law_tiles_here","_law_rows","_law_columns","_law_many","_law_made","_law_row","_law_line","_law_column","_law_here"] ["_law_script","_law_at","_law_tiles_here","_law_rows","_law_columns","_law_many"] (zac (top 42)):=⟨rfl,rfl,rfl,by decide +kernel,rfl,by decide +kernel,by decide +kernel⟩
noncomputable def F39:Fn3:=F38.fn "_law_fills" ⟨2,false,zbP⟩
theorem d39:zap (Gn T F38) false ["_law_tiles_here","_law_floor_here","_law_columns","_law_wanted","_law_row","_law_made","_law_at","_law_want","_law_longer","_law_some","_law_number","_law_tile","_law_is_fit"] (top 44)=some zdh:=by rfl
theorem s39:FnScope ["_law_tiles_here","_law_floor_here","_law_columns","_law_wanted","_law_row","_law_made","_law_at","_law_want","_law_longer","_law_some","_law_number","_law_tile","_law_is_fit"] ["_law_tiles_here","_law_floor_here"] (zac (top 44)):=⟨rfl,rfl,rfl,by decide +kernel,rfl,by decide +kernel,by decide +kernel⟩
noncomputable def F40:Fn3:=F39.fn "_law_word" ⟨1,false,zcI⟩
theorem d40:zap (Gn T F39) false ["_law_kept","_law_kinds"] (top 46)=some zfx:=by rfl
theorem s40:FnScope ["_law_kept","_law_kinds"] ["_law_kept"] (zac (top 46)):=⟨rfl,rfl,rfl,by decide +kernel,rfl,by decide +kernel,by decide +kernel⟩
noncomputable def F41:Fn3:=F40.fn "_law_told" ⟨4,false,zaw⟩
theorem d41:zap (Gn T F40) false ["_law_what","_law_tiles_here","_law_floor_here","_law_place","_law_kept","_law_answer","e"] (top 47)=some zfy:=by rfl
theorem s41:FnScope ["_law_what","_law_tiles_here","_law_floor_here","_law_place","_law_kept","_law_answer","e"] ["_law_what","_law_tiles_here","_law_floor_here","_law_place"] (zac (top 47)):=⟨rfl,rfl,rfl,by decide +kernel,rfl,by decide +kernel,by decide +kernel⟩
theorem d42:zap (Gn T F41) false ["_law_script","_law_tiles_here","_law_rows","_law_columns","_law_floor_here","_law_some","_law_due","_law_row","_law_column","_law_here","_law_number","_law_counts","_law_can","_law_more","_law_lines","_law_place","_law_out"] (top 48)=some zp8:=by rfl
theorem s42:FnScope ["_law_script","_law_tiles_here","_law_rows","_law_columns","_law_floor_here","_law_some","_law_due","_law_row","_law_column","_law_here","_law_number","_law_counts","_law_can","_law_more","_law_lines","_law_place","_law_out"] ["_law_script"] (zac (top 48)):=⟨rfl,rfl,rfl,by decide +kernel,rfl,by decide +kernel,by decide +kernel⟩
theorem zoy{L M:List (Str×Addr)}:∀{C:Str},C∈L.map (·.1)->(L++M).lookup C=L.lookup C:=by
 induction L with
 | nil=>intro C h;simp at h
 | cons p L ih =>
  intro C h;rw [List.cons_append,List.lookup_cons,List.lookup_cons]
  cases e:C == p.1 with
  | true=>rfl
  | false =>
   have:C∈L.map (·.1):=by
    rw [List.map_cons,List.mem_cons] at h
    rcases h with h | h
    ·rw [h] at e;simp at e
    ·exact h
   exact ih this
theorem zey{L M:List (Str×Addr)}(nd:(L.map (·.2)).Nodup){C c:Str}(hC:C∈L.map (·.1))(hc:c∈L.map (·.1)):((L++M).lookup C).getD 0=((L++M).lookup c).getD 0↔C=c:=by
 rw [zoy hC,zoy hc];exact zs9 nd hC hc
theorem gm{K:PySem.W.Frag}{x:Str}{st:Stmt}{f:Addr}{oc kV dc pm cd ct:Value}{od an:Option Addr}{sl:Array (Option Value)}(a:PySem.W.nsIn K mainGlobals x=some (some (.ref f)))(l:K.lookup f=some ⟨oc,od,.func (PySem.W.fnOf x x (zbB st) (zbr st) (zac st) .none kV dc pm an cd ct),sl⟩)(c:PySem.W.codeIn K cd x=true)(k:PySem.W.keepIn K (.ref f)=true)(i:PySem.W.isFn K (.ref f)=true):GFn K x st:=⟨f,a,oc,od,kV,dc,pm,an,cd,ct,sl,l,c,k,i⟩
theorem mm{K:PySem.W.Frag}{x q:Str}{st:Stmt}{f:Addr}{oc kV dc pm cd ct:Value}{od an:Option Addr}{sl:Array (Option Value)}{C:Addr}(a:PySem.W.findIn K (.ref C) x=some (some (.ref f)))(l:K.lookup f=some ⟨oc,od,.func (PySem.W.fnOf x q (zbB st) (zbr st) (zac st) .none kV dc pm an cd ct),sl⟩)(c:PySem.W.codeIn K cd q=true)(k:PySem.W.keepIn K (.ref f)=true)(i:PySem.W.isFn K (.ref f)=true):MFn K C x q st:=⟨f,a,oc,od,kV,dc,pm,an,cd,ct,sl,l,c,k,i⟩
theorem all_mk{l:PySem.W.OpenLaw}{w:PySem.World}{K:PySem.W.Frag}{h:Heap}{mg:Z6}{fa f42:Addr}(X:K.In h)(G:h.Ns mainGlobals mg)(hfa:mg "law" = some (.ref fa))
  {od42 an42:Option Addr} {sl42:Array (Option Value)} {oc42 kV42 dc42 pm42 cd42 ct42:Value}
  {yWays:Addr}
  (nyWays:PySem.W.nsIn K mainGlobals "Ways" = some (some (.ref yWays))) (pgWays:PySem.W.plainGet K yWays Str.empty=true) (hdWays:PySem.W.hasDictIn K yWays=true) (poWays:PySem.W.plainOver K yWays=true) (saWays:PySem.W.findIn K (.ref yWays) "__setattr__" = some (some (.builtin "object.__setattr__"))) (mkWays:PySem.W.makesIn K yWays=true) (kpWays:PySem.W.keepIn K (.ref yWays)=true)
  (naWaystiles:PySem.W.findIn K (.ref yWays) "tiles" = some none)
  (naWaysground:PySem.W.findIn K (.ref yWays) "ground" = some none)
  (naWayssize:PySem.W.findIn K (.ref yWays) "size" = some none)
  (naWaysis_round:PySem.W.findIn K (.ref yWays) "is_round" = some none)
  (naWaysknown:PySem.W.findIn K (.ref yWays) "known" = some none)
  {f15:Addr} {od15 an15:Option Addr} {sl15:Array (Option Value)} {oc15 kV15 dc15 pm15 cd15 ct15:Value}
  {dt15:Addr} {dl15:Value} {dm15:Option Addr} {dn15:Nat} {dq15:Array (Option Value)}
  (a15:PySem.W.findIn K (.ref yWays) "__init__" = some (some (.ref f15))) (i15:PySem.W.isFn K (.ref f15)=true)
  (l15:K.lookup f15=some ⟨oc15,od15,.func (PySem.W.fnOf "__init__" "Ways.__init__" (zbB (inC 0 (top 29))) (zbr (inC 0 (top 29))) (zac (inC 0 (top 29))) (.ref dt15) kV15 dc15 pm15 an15 cd15 ct15),sl15⟩) (c15:PySem.W.codeIn K cd15 "Ways.__init__" = true) (k15:PySem.W.keepIn K (.ref f15)=true)
  (dk15:K.lookup dt15=some ⟨dl15,dm15,.seq #[Value.bool false] dn15,dq15⟩)
  (a42:PySem.W.nsIn K mainGlobals "law" = some (some (.ref f42)))
  (l42:K.lookup f42=some ⟨oc42,od42,.func (PySem.W.fnOf "law" "law" (zbB (top 48)) (zbr (top 48)) (zac (top 48)) .none kV42 dc42 pm42 an42 cd42 ct42),sl42⟩) (c42:PySem.W.codeIn K cd42 "law" = true) (k42:PySem.W.keepIn K (.ref f42)=true)
  (z1:PySem.W.nsIn K mainGlobals "isinstance" = some none)
  (z2:PySem.W.nsIn K mainGlobals "int" = some none)
  (z3:PySem.W.nsIn K mainGlobals "bool" = some none)
  (z4:PySem.W.nsIn K mainGlobals "tuple" = some none)
  (z5:PySem.W.nsIn K mainGlobals "list" = some none)
  (z6:PySem.W.nsIn K mainGlobals "len" = some none)
  (z7:PySem.W.nsIn K mainGlobals "range" = some none)
  (z8:PySem.W.nsIn K mainGlobals "sum" = some none)
  (z9:PySem.W.nsIn K mainGlobals "enumerate" = some none)
  (z10:PySem.W.nsIn K mainGlobals "ValueError" = some none)
  {gt1:Tok} (gl1:PySem.W.nsIn K mainGlobals "NORTH" = some (some (.int 0 gt1)))
  {gt2:Tok} (gl2:PySem.W.nsIn K mainGlobals "EAST" = some (some (.int 1 gt2)))
  {gt3:Tok} (gl3:PySem.W.nsIn K mainGlobals "SOUTH" = some (some (.int 2 gt3)))
  {gt4:Tok} (gl4:PySem.W.nsIn K mainGlobals "WEST" = some (some (.int 3 gt4)))
  {e0 e1 e2 e3 e4 e5 e6:Addr}
  (n0:PySem.W.nsIn K mainGlobals "FloorError" = some (some (.ref e0))) (x0:PySem.W.excIn K e0 bmV "ValueError.__new__" = true)
  (n1:PySem.W.nsIn K mainGlobals "NoPlace" = some (some (.ref e1))) (x1:PySem.W.excIn K e1 bmV "ValueError.__new__" = true)
  (n2:PySem.W.nsIn K mainGlobals "NoTile" = some (some (.ref e2))) (x2:PySem.W.excIn K e2 bmV "ValueError.__new__" = true)
  (n3:PySem.W.nsIn K mainGlobals "NoFill" = some (some (.ref e3))) (x3:PySem.W.excIn K e3 bmV "ValueError.__new__" = true)
  (n4:PySem.W.nsIn K mainGlobals "Unlike" = some (some (.ref e4))) (x4:PySem.W.excIn K e4 bmV "ValueError.__new__" = true)
  (n5:PySem.W.nsIn K mainGlobals "Nothing" = some (some (.ref e5))) (x5:PySem.W.excIn K e5 bmV "ValueError.__new__" = true)
  (n6:PySem.W.nsIn K mainGlobals "NoText" = some (some (.ref e6))) (x6:PySem.W.excIn K e6 bmV "ValueError.__new__" = true)
  {el1:Value} {ed1:Option Addr} {ec1:ClassData} {es1:Array (Option Value)} (lk1:K.lookup e1=some ⟨el1,ed1,.cls ec1,es1⟩) (mr1:ec1.mro=.ref e1::.ref e0::bmV)
  (ga1:PySem.W.findIn K (.ref e1) "__getattribute__" = some (some (.builtin "BaseException.__getattribute__"))) (gt1:PySem.W.findIn K (.ref e1) "__getattr__" = some none) (cc1:PySem.W.findIn K (.ref e1) "__class__" = some (some (.builtin "object.__class__")))
  {el2:Value} {ed2:Option Addr} {ec2:ClassData} {es2:Array (Option Value)} (lk2:K.lookup e2=some ⟨el2,ed2,.cls ec2,es2⟩) (mr2:ec2.mro=.ref e2::.ref e0::bmV)
  (ga2:PySem.W.findIn K (.ref e2) "__getattribute__" = some (some (.builtin "BaseException.__getattribute__"))) (gt2:PySem.W.findIn K (.ref e2) "__getattr__" = some none) (cc2:PySem.W.findIn K (.ref e2) "__class__" = some (some (.builtin "object.__class__")))
  {el3:Value} {ed3:Option Addr} {ec3:ClassData} {es3:Array (Option Value)} (lk3:K.lookup e3=some ⟨el3,ed3,.cls ec3,es3⟩) (mr3:ec3.mro=.ref e3::.ref e0::bmV)
  (ga3:PySem.W.findIn K (.ref e3) "__getattribute__" = some (some (.builtin "BaseException.__getattribute__"))) (gt3:PySem.W.findIn K (.ref e3) "__getattr__" = some none) (cc3:PySem.W.findIn K (.ref e3) "__class__" = some (some (.builtin "object.__class__")))
  (nd:[e0,e1,e2,e3,e4,e5,e6].Nodup)
  (p1:GFn K "is_whole" (top 14)) (p2:GFn K "is_tuple_of" (top 15)) (p3:GFn K "has_number" (top 16)) (p4:GFn K "may_lie" (top 17)) (p5:GFn K "size_of" (top 18)) (p6:GFn K "places_of" (top 19)) (p7:GFn K "in_rows" (top 20)) (p8:GFn K "number_at" (top 21)) (p9:GFn K "has_place" (top 22)) (p10:GFn K "refuse_outside" (top 23)) (p11:GFn K "tile_at" (top 24)) (p12:GFn K "with_number" (top 25)) (p13:GFn K "with_tile" (top 26)) (p14:GFn K "suits" (top 28)) (p16:MFn K yWays "first_seam" "Ways.first_seam" (inC 1 (top 29))) (p17:MFn K yWays "ends_row" "Ways.ends_row" (inC 2 (top 29))) (p18:MFn K yWays "colour_round" "Ways.colour_round" (inC 3 (top 29))) (p19:MFn K yWays "seam_behind" "Ways.seam_behind" (inC 4 (top 29))) (p20:MFn K yWays "numbers_for" "Ways.numbers_for" (inC 5 (top 29))) (p21:MFn K yWays "fits_round" "Ways.fits_round" (inC 6 (top 29))) (p22:MFn K yWays "fits" "Ways.fits" (inC 7 (top 29))) (p23:MFn K yWays "choices" "Ways.choices" (inC 8 (top 29))) (p24:MFn K yWays "count_from" "Ways.count_from" (inC 9 (top 29))) (p25:MFn K yWays "count_all" "Ways.count_all" (inC 10 (top 29))) (p26:MFn K yWays "numbers_by" "Ways.numbers_by" (inC 11 (top 29))) (p27:MFn K yWays "whole_by" "Ways.whole_by" (inC 12 (top 29))) (p28:GFn K "count_fills" (top 30)) (p29:GFn K "fill" (top 31)) (p30:GFn K "counts_at" (top 33)) (p31:GFn K "may_stand" (top 34)) (p32:GFn K "bare_places" (top 35)) (p33:GFn K "forced" (top 36)) (p34:GFn K "with_forced" (top 37)) (p35:GFn K "_law_cell" (top 39)) (p36:GFn K "_law_pick" (top 40)) (p37:GFn K "_law_tiles" (top 41)) (p38:GFn K "_law_floor" (top 42)) (p39:GFn K "_law_fills" (top 44)) (p40:GFn K "_law_word" (top 46)) (p41:GFn K "_law_told" (top 47))
  : ∃fd:FuncData,(∀(s:Shared) (v:Value),BindsTo s fd ⟨[v],[]⟩ [("_law_script",v)])/\∀base:Heap,K.In base->base.Ns mainGlobals mg->FnOk l.prog w K mg base (CXE l.prog w) 82 fa fd ["_law_script"] (S2.zmr K):=by
 have e:=hfa.symm.trans (PySem.W.mg_of X G a42);cases e;have CLWays:Cls K yWays:=⟨pgWays,hdWays,poWays,saWays⟩;have U15:FunD K "__init__" "Ways.__init__" (inC 0 (top 29)) f15 _ #[Value.bool false]:=⟨⟨_,_,_,_,dn15,_,_,_,_,_,_,_,rfl,l15,c15,dk15,rfl⟩⟩;have b15:zch K (PySem.W.fnOf "__init__" "Ways.__init__" (zbB (inC 0 (top 29))) (zbr (inC 0 (top 29))) (zac (inC 0 (top 29))) (.ref dt15) kV15 dc15 pm15 an15 cd15 ct15) ["self","tiles","floor","is_round"] []:=fun s us KX hl=>bb4 (p:=fun us=>BindsTo s _ ⟨us,[]⟩ ((["self","tiles","floor","is_round"]:List Str).zip (us++[]))) (fun _ _ _ _=>PySem.W.binds_K KX rfl dk15 rfl rfl rfl) us (by simpa using hl)
 have bd15:zch K (PySem.W.fnOf "__init__" "Ways.__init__" (zbB (inC 0 (top 29))) (zbr (inC 0 (top 29))) (zac (inC 0 (top 29))) (.ref dt15) kV15 dc15 pm15 an15 cd15 ct15) ["self","tiles","floor","is_round"] [Value.bool false]:=fun s us KX hl=>bb3 (p:=fun us=>BindsTo s _ ⟨us,[]⟩ ((["self","tiles","floor","is_round"]:List Str).zip (us++[Value.bool false]))) (fun _ _ _=>PySem.W.binds_K KX rfl dk15 rfl rfl rfl) us (by simpa using hl)
 have U42:=zon (st:=(top 48)) l42 c42 k42;refine ⟨PySem.W.fnOf "law" "law" (zbB (top 48)) (zbr (top 48)) (zac (top 48)) .none kV42 dc42 pm42 an42 cd42 ct42,fun s v=>.of_eq rfl,fun base _ _=>?_⟩
 let cl:Cf:=⟨fun x=>(([("FloorError",e0),("NoPlace",e1),("NoTile",e2),("NoFill",e3),("Unlike",e4),("Nothing",e5),("NoText",e6),("Ways",yWays)]:List (Str×Addr)).lookup x).getD 0,K,l.prog,w⟩
 have g0:GOk cl (Gn T F0) l.prog w K mg base 0:=zy6 (cl:=cl) (zaj ⟨.int 0,_,PySem.W.mg_of X G gl1,⟨_,rfl⟩,fun _=>.int _⟩ (zaj ⟨.int 1,_,PySem.W.mg_of X G gl2,⟨_,rfl⟩,fun _=>.int _⟩ (zaj ⟨.int 2,_,PySem.W.mg_of X G gl3,⟨_,rfl⟩,fun _=>.int _⟩ (zaj ⟨.int 3,_,PySem.W.mg_of X G gl4,⟨_,rfl⟩,fun _=>.int _⟩ zd8)))) (zaj (PySem.W.mg_none_of X G z1) (zaj (PySem.W.mg_none_of X G z2) (zaj (PySem.W.mg_none_of X G z3) (zaj (PySem.W.mg_none_of X G z4) (zaj (PySem.W.mg_none_of X G z5) (zaj (PySem.W.mg_none_of X G z6) (zaj (PySem.W.mg_none_of X G z7) (zaj (PySem.W.mg_none_of X G z8) (zaj (PySem.W.mg_none_of X G z9) (zaj (PySem.W.mg_none_of X G z10) zd8)))))))))) (zaj ⟨PySem.W.mg_of X G n0,x0⟩ (zaj ⟨PySem.W.mg_of X G n1,x1⟩ (zaj ⟨PySem.W.mg_of X G n2,x2⟩ (zaj ⟨PySem.W.mg_of X G n3,x3⟩ (zaj ⟨PySem.W.mg_of X G n4,x4⟩ (zaj ⟨PySem.W.mg_of X G n5,x5⟩ (zaj ⟨PySem.W.mg_of X G n6,x6⟩ zd8))))))) (zaj ⟨⟨_,_,x1⟩,_,_,_,_,lk1,zh5 mr1⟩ (zaj ⟨⟨_,_,x2⟩,_,_,_,_,lk2,zh5 mr2⟩ (zaj ⟨⟨_,_,x3⟩,_,_,_,_,lk3,zh5 mr3⟩ zd8))) (zaj (zlr (K:=K) (c:="NoPlace") (cl:=cl) lk1 mr1 rfl ga1 gt1 cc1 (zaj x0 (zaj x1 (zaj x2 (zaj x3 (zaj x4 (zaj x5 (zaj x6 zd8))))))) (fun C hC=>⟨zey (L:=[("FloorError",e0),("NoPlace",e1),("NoTile",e2),("NoFill",e3),("Unlike",e4),("Nothing",e5),("NoText",e6)]) (M:=[("Ways",yWays)]) (c:="NoPlace") nd hC (by simp),zey (L:=[("FloorError",e0),("NoPlace",e1),("NoTile",e2),("NoFill",e3),("Unlike",e4),("Nothing",e5),("NoText",e6)]) (M:=[("Ways",yWays)]) (c:="FloorError") nd hC (by simp)⟩)) (zaj (zlr (K:=K) (c:="NoTile") (cl:=cl) lk2 mr2 rfl ga2 gt2 cc2 (zaj x0 (zaj x1 (zaj x2 (zaj x3 (zaj x4 (zaj x5 (zaj x6 zd8))))))) (fun C hC=>⟨zey (L:=[("FloorError",e0),("NoPlace",e1),("NoTile",e2),("NoFill",e3),("Unlike",e4),("Nothing",e5),("NoText",e6)]) (M:=[("Ways",yWays)]) (c:="NoTile") nd hC (by simp),zey (L:=[("FloorError",e0),("NoPlace",e1),("NoTile",e2),("NoFill",e3),("Unlike",e4),("Nothing",e5),("NoText",e6)]) (M:=[("Ways",yWays)]) (c:="FloorError") nd hC (by simp)⟩)) (zaj (zlr (K:=K) (c:="NoFill") (cl:=cl) lk3 mr3 rfl ga3 gt3 cc3 (zaj x0 (zaj x1 (zaj x2 (zaj x3 (zaj x4 (zaj x5 (zaj x6 zd8))))))) (fun C hC=>⟨zey (L:=[("FloorError",e0),("NoPlace",e1),("NoTile",e2),("NoFill",e3),("Unlike",e4),("Nothing",e5),("NoText",e6)]) (M:=[("Ways",yWays)]) (c:="NoFill") nd hC (by simp),zey (L:=[("FloorError",e0),("NoPlace",e1),("NoTile",e2),("NoFill",e3),("Unlike",e4),("Nothing",e5),("NoText",e6)]) (M:=[("Ways",yWays)]) (c:="FloorError") nd hC (by simp)⟩)) zd8))) (zaj ⟨CLWays,naWaystiles⟩ (zaj ⟨CLWays,naWaysground⟩ (zaj ⟨CLWays,naWayssize⟩ (zaj ⟨CLWays,naWaysis_round⟩ (zaj ⟨CLWays,naWaysknown⟩ zd8)))));have g1:GOk cl (Gn T F1) l.prog w K mg base 1:=g0.addG X G p1 s1 rfl rfl rfl (fun _ _ _ _ _ _=>bb1 fun _=>rfl) d1;have g2:GOk cl (Gn T F2) l.prog w K mg base 2:=g1.addG X G p2 s2 rfl rfl rfl (fun _ _ _ _ _ _=>bb3 fun _ _ _=>rfl) d2;have g3:GOk cl (Gn T F3) l.prog w K mg base 3:=g2.addG X G p3 s3 rfl rfl rfl (fun _ _ _ _ _ _=>bb2 fun _ _=>rfl) d3;have g4:GOk cl (Gn T F4) l.prog w K mg base 4:=g3.addG X G p4 s4 rfl rfl rfl (fun _ _ _ _ _ _=>bb2 fun _ _=>rfl) d4;have g5:GOk cl (Gn T F5) l.prog w K mg base 5:=g4.addG X G p5 s5 rfl rfl rfl (fun _ _ _ _ _ _=>bb1 fun _=>rfl) d5;have g6:GOk cl (Gn T F6) l.prog w K mg base 6:=g5.addG X G p6 s6 rfl rfl rfl (fun _ _ _ _ _ _=>bb1 fun _=>rfl) d6;have g7:GOk cl (Gn T F7) l.prog w K mg base 7:=g6.addG X G p7 s7 rfl rfl rfl (fun _ _ _ _ _ _=>bb2 fun _ _=>rfl) d7;have g8:GOk cl (Gn T F8) l.prog w K mg base 8:=g7.addG X G p8 s8 rfl rfl rfl (fun _ _ _ _ _ _=>bb2 fun _ _=>rfl) d8;have g9:GOk cl (Gn T F9) l.prog w K mg base 9:=g8.addG X G p9 s9 rfl rfl rfl (fun _ _ _ _ _ _=>bb2 fun _ _=>rfl) d9;have g10:GOk cl (Gn T F10) l.prog w K mg base 10:=g9.addG X G p10 s10 rfl rfl rfl (fun _ _ _ _ _ _=>bb2 fun _ _=>rfl) d10;have g11:GOk cl (Gn T F11) l.prog w K mg base 11:=g10.addG X G p11 s11 rfl rfl rfl (fun _ _ _ _ _ _=>bb2 fun _ _=>rfl) d11;have g12:GOk cl (Gn T F12) l.prog w K mg base 12:=g11.addG X G p12 s12 rfl rfl rfl (fun _ _ _ _ _ _=>bb3 fun _ _ _=>rfl) d12;have g13:GOk cl (Gn T F13) l.prog w K mg base 13:=g12.addG X G p13 s13 rfl rfl rfl (fun _ _ _ _ _ _=>bb4 fun _ _ _ _=>rfl) d13;have g14:GOk cl (Gn T F14) l.prog w K mg base 14:=g13.addG X G p14 s14 rfl rfl rfl (fun _ _ _ _ _ _=>bb2 fun _ _=>rfl) d14;have G15:=zsK (cl:=cl) (wo:=w) (P:=l.prog) U15 s15 (g14.at "Ways") rfl rfl rfl d15;have g15:GOk cl (Gn T F15) l.prog w K mg base 16:=GOk.addK (k':=15) (fi:=⟨4,false,zaU⟩) (dvs:=[.bl false]) (g14.up (by decide)) (by decide) (PySem.W.mg_of X G nyWays) ⟨mkWays,a15,i15,kpWays⟩ b15 bd15 (.cons rfl .nil) (fun _=>(.cons (.bl _) .nil)) G15;have g16:GOk cl (Gn T F16) l.prog w K mg base 17:=g15.addMG (c:="Ways") CLWays p16 s16 rfl rfl rfl (fun _ _ _ _ _ _=>bb1 fun _=>rfl) d16;have g17:GOk cl (Gn T F17) l.prog w K mg base 18:=g16.addMG (c:="Ways") CLWays p17 s17 rfl rfl rfl (fun _ _ _ _ _ _=>bb2 fun _ _=>rfl) d17;have g18:GOk cl (Gn T F18) l.prog w K mg base 19:=g17.addMG (c:="Ways") CLWays p18 s18 rfl rfl rfl (fun _ _ _ _ _ _=>bb4 fun _ _ _ _=>rfl) d18;have g19:GOk cl (Gn T F19) l.prog w K mg base 20:=g18.addMG (c:="Ways") CLWays p19 s19 rfl rfl rfl (fun _ _ _ _ _ _=>bb4 fun _ _ _ _=>rfl) d19;have g20:GOk cl (Gn T F20) l.prog w K mg base 21:=g19.addMG (c:="Ways") CLWays p20 s20 rfl rfl rfl (fun _ _ _ _ _ _=>bb2 fun _ _=>rfl) d20;have g21:GOk cl (Gn T F21) l.prog w K mg base 22:=g20.addMG (c:="Ways") CLWays p21 s21 rfl rfl rfl (fun _ _ _ _ _ _=>bb4 fun _ _ _ _=>rfl) d21;have g22:GOk cl (Gn T F22) l.prog w K mg base 23:=g21.addMG (c:="Ways") CLWays p22 s22 rfl rfl rfl (fun _ _ _ _ _ _=>bb4 fun _ _ _ _=>rfl) d22;have g23:GOk cl (Gn T F23) l.prog w K mg base 24:=g22.addMG (c:="Ways") CLWays p23 s23 rfl rfl rfl (fun _ _ _ _ _ _=>bb3 fun _ _ _=>rfl) d23;have g24:GOk cl (Gn T F24) l.prog w K mg base 64:=g23.addRG (c:="Ways") CLWays p24 s24 rfl rfl rfl (fun _ _ _ _ _ _=>bb3 fun _ _ _=>rfl) d24 40;have g25:GOk cl (Gn T F25) l.prog w K mg base 65:=g24.addMG (c:="Ways") CLWays p25 s25 rfl rfl rfl (fun _ _ _ _ _ _=>bb1 fun _=>rfl) d25;have g26:GOk cl (Gn T F26) l.prog w K mg base 66:=g25.addMG (c:="Ways") CLWays p26 s26 rfl rfl rfl (fun _ _ _ _ _ _=>bb2 fun _ _=>rfl) d26;have g27:GOk cl (Gn T F27) l.prog w K mg base 67:=g26.addMG (c:="Ways") CLWays p27 s27 rfl rfl rfl (fun _ _ _ _ _ _=>bb2 fun _ _=>rfl) d27;have g28:GOk cl (Gn T F28) l.prog w K mg base 68:=g27.addG X G p28 s28 rfl rfl rfl (fun _ _ _ _ _ _=>bb2 fun _ _=>rfl) d28;have g29:GOk cl (Gn T F29) l.prog w K mg base 69:=g28.addG X G p29 s29 rfl rfl rfl (fun _ _ _ _ _ _=>bb3 fun _ _ _=>rfl) d29;have g30:GOk cl (Gn T F30) l.prog w K mg base 70:=g29.addG X G p30 s30 rfl rfl rfl (fun _ _ _ _ _ _=>bb3 fun _ _ _=>rfl) d30;have g31:GOk cl (Gn T F31) l.prog w K mg base 71:=g30.addG X G p31 s31 rfl rfl rfl (fun _ _ _ _ _ _=>bb3 fun _ _ _=>rfl) d31;have g32:GOk cl (Gn T F32) l.prog w K mg base 72:=g31.addG X G p32 s32 rfl rfl rfl (fun _ _ _ _ _ _=>bb1 fun _=>rfl) d32;have g33:GOk cl (Gn T F33) l.prog w K mg base 73:=g32.addG X G p33 s33 rfl rfl rfl (fun _ _ _ _ _ _=>bb2 fun _ _=>rfl) d33;have g34:GOk cl (Gn T F34) l.prog w K mg base 74:=g33.addG X G p34 s34 rfl rfl rfl (fun _ _ _ _ _ _=>bb2 fun _ _=>rfl) d34;have g35:GOk cl (Gn T F35) l.prog w K mg base 75:=g34.addG X G p35 s35 rfl rfl rfl (fun _ _ _ _ _ _=>bb2 fun _ _=>rfl) d35;have g36:GOk cl (Gn T F36) l.prog w K mg base 76:=g35.addG X G p36 s36 rfl rfl rfl (fun _ _ _ _ _ _=>bb3 fun _ _ _=>rfl) d36;have g37:GOk cl (Gn T F37) l.prog w K mg base 77:=g36.addG X G p37 s37 rfl rfl rfl (fun _ _ _ _ _ _=>bb3 fun _ _ _=>rfl) d37;have g38:GOk cl (Gn T F38) l.prog w K mg base 78:=g37.addG X G p38 s38 rfl rfl rfl (fun _ _ _ _ _ _=>bb6 fun _ _ _ _ _ _=>rfl) d38;have g39:GOk cl (Gn T F39) l.prog w K mg base 79:=g38.addG X G p39 s39 rfl rfl rfl (fun _ _ _ _ _ _=>bb2 fun _ _=>rfl) d39;have g40:GOk cl (Gn T F40) l.prog w K mg base 80:=g39.addG X G p40 s40 rfl rfl rfl (fun _ _ _ _ _ _=>bb1 fun _=>rfl) d40;have g41:GOk cl (Gn T F41) l.prog w K mg base 81:=g40.addG X G p41 s41 rfl rfl rfl (fun _ _ _ _ _ _=>bb4 fun _ _ _ _=>rfl) d41;have G42:=znr (cl:=cl) (wo:=w) (P:=l.prog) U42 s42 g41 rfl rfl rfl d42;exact G42.imp (zso (cl:=cl) zm9)
theorem walk{l:PySem.W.OpenLaw}{q:Program}{loose:List Str}{XP:(Str->Option Value)->Heap->Prop}{YP:PySem.World->Heap->Prop}{d:DefRec}{K:Params->PySem.W.Frag}(hn:l.most=some 63)(hdf:d.params.defaults=[])
  (hY:∀(w:PySem.World) (h:Heap),YP w h->(K w.params).In h)
  (F:∀(w:PySem.World) (mg:Z6) (fa:Addr) (h:Heap),(K w.params).In h->h.Ns mainGlobals mg->mg d.name=some (.ref fa) →
   ∃fd:FuncData,(∀(s:Shared) (u:Value),BindsTo s fd ⟨[u],[]⟩ [("_law_script",u)])/\∀base:Heap,(K w.params).In base->base.Ns mainGlobals mg->FnOk l.prog w (K w.params) mg base (CXE l.prog w) 82 fa fd ["_law_script"] (S2.zmr (K w.params))) :
  PySem.W.WalkO q loose XP YP l.row.toRowW d [] (fun f vs=>PySem.call f vs) :=
 L2.zoz (n:=63) (k:=82) (x:="_law_script") (CX:=fun w=>CXE l.prog w) (sp:=fun w=>S2.zmr (K w.params)) hn (by decide) hdf ⟨rfl,by decide,by decide⟩ hY F (fun _ _ a ns hl hO hS=>⟨a,ns,rfl,hl,hO,hS,fun _=>rfl⟩) (by rintro _ _ _ _ _ ⟨_,_,_,_,_,_,_,_,_,_,_,_,_,_,z⟩;exact z)
end M20
namespace PySem.W.Fast
def tw7388046103119360629:=0
def tw4813735059852115607:=0
def tw12016925913603163530:=0
def tw13022328036327809665:=0
def tw259155571531437074:=0
def tw14925963253805873411:=0
def tw10383297704725910195:=0
def tw1557268116171792509:=0
def tw14696503814832543098:=0
def tw753491540886470739:=0
def tw9492106302278948107:=0
def tw261347343677639543:=0
def tw5842494154494024477:=0
def tw7883262637785452686:=0
def tw13048709209285203185:=0
def tw16928172679869071939:=0
def tw6836601212828868351:=0
def tw11644359389148549570:=0
def tw12370348235916652641:=0
def tw12432907121001815815:=0
def tw16739106408318214757:=0
def tw2174821899150189580:=0
def tw3598115598472205240:=0
def tw13772591559596807326:=0
def tw9255245100865657637:=0
def tw16311018559344663375:=0
def tw5231886412084092567:=0
def tw12047621085471416029:=0
def tw18053660543773415798:=0
def tw13855710220419357455:=0
def tw9216476866621073107:=0
def tw15947730318504890433:=0
def tw11103803904093177000:=0
def tw9418397537990701780:=0
def tw5238687486258438877:=0
def tw10218280545789113167:=0
def tw1480299186409221499:=0
def tw13757854307903392578:=0
def tw397678689338075296:=0
def tw14019789180445621431:=0
def tw203484023579105883:=0
def tw17901491254328120489:=0
def tw13127039320722931137:=0
def tw6584296984407108312:=0
def tw8540574417225994807:=0
def tw5704701247501546032:=0
def tw17007270619662449719:=0
def tw6098748561389881106:=0
def tw9328077049741255069:=0
def tw7116557316690982959:=0
def tw4895595488027011811:=0
def tw15587413371381453641:=0
def tw13331913337426155394:=0
def tw6090392830998782351:=0
def tw11492454223901339462:=0
def tw17011058309625622680:=0
def tw15482969137897528951:=0
def tw12924983587137720838:=0
def tw11883188763234675157:=0
def tw4466165379668197453:=0
def tw1095120959940794646:=0
def tw15206537669101279770:=0
def tw12975387965482454711:=0
def tw5211707477332481637:=0
def tw3058674056611728284:=0
def tw3946420555464971344:=0
def tw15578803271987213830:=0
def tw4288810738909681764:=0
def tw5317693498629233363:=0
def tw9983111693094338944:=0
def tw4996598014749230677:=0
def tw11022402439698057566:=0
def tw9293322628731815883:=0
def tw16628474377639778327:=0
def tw6746510476238290754:=0
def tw16171526363198616351:=0
def tw16544026494667351386:=0
def tw12891412245283122480:=0
def tw7390186107100131355:=0
def tw7619062583697766873:=0
def tw14142858440819205085:=0
def tw8128738722948030801:=0
def tw7726441770781702173:=0
def tw16385904801564882109:=0
def tw4621989563998188743:=0
def tw3213305931182603956:=0
def tw16954287732738283962:=0
def tw7859567733592557611:=0
def tw9436167168208567969:=0
def tw9486861004576228555:=0
def tw2655677976983095400:=0
def tw16787873028820010746:=0
def tw2131484357828678646:=0
def tw2095285337435887994:=0
def tw10673785468264633597:=0
def tw8219229692745831938:=0
def tw2818144949312192907:=0
def tw4859512744700934946:=0
def tw2162672044332042634:=0
def tw9556779070905050468:=0
def tw8717788313965446939:=0
def tw5892000692733296853:=0
def tw16352700440146861344:=0
def tw11815777084199212068:=0
def tw6106619249542477512:=0
def tw16999441401123673466:=0
def tw12001453116600798027:=0
def tw16198383557768977588:=0
def tw11293910935014775973:=0
def tw13636271067923679626:=0
def tw4769996753753740254:=0
def tw3080454764325335147:=0
def tw15877322817612992829:=0
def tw12671366776727581991:=0
def tw2705405124121742873:=0
def tw5256015194973261998:=0
def tw4288652192917605593:=0
def tw3722872562155156804:=0
def tw13118800068441458719:=0
def tw17365445369487673350:=0
def tw9104913527833319442:=0
def tw1760484438240292173:=0
def tw15799146231914989472:=0
def tw11300464770503826518:=0
def tw10186790143695607772:=0
def tw17753831639029483807:=0
def tw2619820389767349155:=0
def tw8423718762019223379:=0
def tw11256025648732209590:=0
def tw13000503774001714420:=0
def tw5707387561453812264:=0
def tw3916238430930505085:=0
def tw9403035890073095619:=0
def tw4637706392284381212:=0
def tw11403407462186513768:=0
def tw3088394242659602684:=0
def tw13642918054952296342:=0
def tw10985713562642970254:=0
def tw7637912984116858541:=0
def tw15635213084022630146:=0
def tw14818129465886950071:=0
def tw10114670374054111765:=0
def tw6286251366824527277:=0
def tw8400751817637387116:=0
def tw1888912931128079639:=0
def tw7265639663614469206:=0
def tw14386494898706917019:=0
def tw3806578036834233266:=0
def tw3905160476308671452:=0
def tw1779357820258528748:=0
def tw9192106603075064866:=0
def tw7929471384860153874:=0
def tw15395175003937201414:=0
def tw9245557794551270498:=0
def tw5953519800883712199:=0
def tw14431960076212195203:=0
def tw13820824169677428266:=0
def tw9267264279965373740:=0
def tw18389930349241556728:=0
def tw13930342351938064351:=0
def tw14236140142979795674:=0
def tw7094353041621627119:=0
def tw3596892120512529354:=0
def tw16455248322543492122:=0
def tw15129221443094817932:=0
def tw11107076604533442500:=0
def tw14425263516262390702:=0
def tw1320559525776823884:=0
def tw8112059914580773107:=0
def tw9469883107407839100:=0
def tw12776218076490516505:=0
def tw4705015248407452591:=0
def tw6020474602473380916:=0
def tw8420921200573357762:=0
def tw3841616625160004392:=0
def tw17456751528852216337:=0
def tw8267111856471414405:=0
def tw3689619437862371825:=0
def tw15746118545838401509:=0
def tw1362645210642163723:=0
def tw10111403462747644651:=0
def tw15571500656581377163:=0
def tw14630511219377835192:=0
def tw10245433569790073564:=0
def tw4958572611878939722:=0
def tw7036010680478917417:=0
def tw929117871867787475:=0
def tw8925103270090920074:=0
def tw17792297869096341638:=0
def tw936781960989398429:=0
def tw15851239442140186045:=0
def tw8832029385846107696:=0
def tw7601771999072308544:=0
def tw7517255591849090290:=0
def tw16784756329447408228:=0
def tw16028744253601976098:=0
def tw12173289088136115779:=0
def tw14472166453927705334:=0
def tw541023847417949323:=0
def tw3397378481298521648:=0
def tw11374458052425150358:=0
def tw6126826409663597052:=0
def tw13039735470756455745:=0
def tw13404692372117012437:=0
def tw9784050996600247986:=0
def tw12385630317382942706:=0
def tw7284541470073476905:=0
def tw17346035437218333323:=0
def tw3655817212407120490:=0
def tw13666006351431174254:=0
def tw2977232485306739167:=0
def tw14681287302988190509:=0
def tw12806716361819703147:=0
def tw10122423648790939892:=0
def tw9630692303161388937:=0
def tw14473583958514425351:=0
def tw14056211065422283271:=0
def tw6486145555461416469:=0
def tw5607438594689856688:=0
def tw2963269636540481140:=0
def tw7807503271119769819:=0
def tw10842205180587584380:=0
def tw7345610643085063925:=0
def tw7338983539083368393:=0
def tw15321903860358087360:=0
def tw14163789003649598348:=0
def tw10635201206613623544:=0
def tw4062853158508537426:=0
def tw1321260045169952428:=0
def tw2975418891644016169:=0
def tw2727065453017015707:=0
def tw12945763194714094074:=0
def tw9837609569954674235:=0
def tw16442322248049727028:=0
def tw9787707874207871330:=0
def tw7151467716293562389:=0
def tw1163378280038379671:=0
def tw3086041564348530515:=0
def tw2494904849631382820:=0
def tw15516392989343998231:=0
def tw3125559146830380310:=0
def tw12029334002623611841:=0
def tw3685988595555570378:=0
def tw13065765421658359886:=0
def tw2432116018179610550:=0
def tw8085156290607576000:=0
def tw3697443841612515608:=0
def tw16221168083733511517:=0
def tw15981623268585490368:=0
def tw6632181262831814373:=0
def tw13391154293617030277:=0
def tw9549252815201125960:=0
def tw9458517280687602895:=0
def tw273537822441616215:=0
def tw15573693172106905299:=0
def tw12938877974978509724:=0
def tw1198211955019563857:=0
def tw11789157315676905858:=0
def tw101930810484862497:=0
def tw17977084596670706186:=0
def tw15725753010423577562:=0
def tw272042828217755360:=0
def tw7055881855603608502:=0
def tw1020654362321951961:=0
def tw553728035183282537:=0
def tw9972042477348333999:=0
def tw8307099215009157836:=0
def tw7604071765148531116:=0
def tw4117848626695614677:=0
def tw1766051324233568505:=0
def tw16526154718098975242:=0
def tw2789841515658405959:=0
def tw3920157348345229663:=0
def tw576607615094838622:=0
def tw17485788893510376251:=0
def tw12429212092768677012:=0
def tw8681412098318502929:=0
def tw8571707089920902506:=0
def tw4591420703956515320:=0
def tw8581501316278758357:=0
def tw8302165978112558124:=0
def tw13261558451212892495:=0
def tw5255909044247804800:=0
def tw4715587261812646912:=0
def tw11618204469828987972:=0
def tw10653970193471445730:=0
def tw9085417772628404764:=0
def tw9996038059767965384:=0
def tw4714770605010552790:=0
def tw4141088042332435422:=0
def tw2602161540607414055:=0
def tw2035182033123302898:=0
def tw12713420189754263830:=0
def tw5483877262285799132:=0
def tw2566146022272466051:=0
def tw18280728303386416307:=0
def tw1701915390424359196:=0
def tw16403536607851578751:=0
def tw10605504597016717633:=0
def tw10042200824203250938:=0
def tw2298282564499837849:=0
def tw16615976910247623410:=0
def tw1103211285610175677:=0
def tw10360210948377845212:=0
def tw2313902361146821387:=0
def tw9676971198118337687:=0
def tw15388156763169888781:=0
def tw16317173557153612977:=0
def tw9710174637786869926:=0
def tw18263342784664018512:=0
def tw18000864059097292187:=0
def tw13617945036680898494:=0
def tw7743429734543463019:=0
def tw4985422536130457977:=0
def tw9023036806288695450:=0
def tw7807243877768731091:=0
def tw7023656983079229351:=0
def tw6790551888376341282:=0
def tw6100847454608104092:=0
def tw2676808257579146332:=0
def tw16707695210709289347:=0
def tw13531170364236011715:=0
def tw11406934086588700393:=0
def tw9284305851732807631:=0
def tw6319634081318668583:=0
def tw5788611692182797218:=0
def tw5121965510696175862:=0
def tw14442628810248650355:=0
def tw14105238931453632518:=0
def tw1404939011271320746:=0
def tw12074181655282530599:=0
def tw17471125205415598615:=0
def tw9109020774984922460:=0
def tw8385479015374542810:=0
def tw5704747602899729877:=0
def tw4784514636505554618:=0
def tw13741638593231451178:=0
def tw13235225010497340127:=0
def tw6599423591891019005:=0
def tw6027142147427480623:=0
def tw3979235674429134729:=0
def tw3654636887900809831:=0
def tw17000001850239803745:=0
def tw16792683203222343425:=0
def tw15165540934335235584:=0
def tw14900806682579437307:=0
def tw12573450440544737962:=0
def tw12235884887021569693:=0
def tw9783301553718265105:=0
def tw9482087142963783086:=0
def tw9186331016110659230:=0
def tw9121939834218211551:=0
def tw9066217547757609929:=0
def tw889316949793097507:=0
def tw8856990275824649416:=0
def tw8818305769915584974:=0
def tw8476365722532490338:=0
def tw7954606189625117938:=0
def tw7600619758172510550:=0
def tw7367467856684060875:=0
def tw7350314590406031710:=0
def tw7331604122933408994:=0
def tw7168436748240951459:=0
def tw7161131581948913811:=0
def tw7160007332590313738:=0
def tw7158151149216940100:=0
def tw6897962007425991884:=0
def tw6777294931955166391:=0
def tw6716609239672484618:=0
def tw6615425864273968516:=0
def tw6277415826792375328:=0
def tw6221509442777344219:=0
def tw6087473482742727554:=0
def tw5765690033961749420:=0
def tw5623474259717879047:=0
def tw5578658589384846187:=0
def tw5431363571732941031:=0
def tw5327034287421781827:=0
def tw5231505485366392033:=0
def tw5120884872847877505:=0
def tw4419456305123949630:=0
def tw4243628637572316755:=0
def tw4140649425079829610:=0
def tw4047690049147186205:=0
def tw3780492198627639531:=0
def tw3718728105040281687:=0
def tw3693536268145880446:=0
def tw3641087468893183925:=0
def tw3623316813220903359:=0
def tw3494834070963219758:=0
def tw3439714221688923284:=0
def tw3288742385158763387:=0
def tw2942625164740457207:=0
def tw2939605552499531475:=0
def tw2893461386597529907:=0
def tw2814809944901619071:=0
def tw2699232406566485851:=0
def tw2283583254415852944:=0
def tw2265511607142799444:=0
def tw2133042485944409971:=0
def tw1971475094811144874:=0
def tw1945893746737734933:=0
def tw18336002349833208113:=0
def tw18036357595634858951:=0
def tw17857428039942706553:=0
def tw17769334063029010631:=0
def tw17530334921985256860:=0
def tw17142087939676297099:=0
def tw16886764202111729666:=0
def tw1675214992765459322:=0
def tw16568778175658556182:=0
def tw16489830923570740204:=0
def tw1632640390006728346:=0
def tw16311567887865181577:=0
def tw16234595167668956133:=0
def tw16124141670629211776:=0
def tw16099942852997322728:=0
def tw15798656247544881885:=0
def tw15796101972371213939:=0
def tw1578574602410350987:=0
def tw15725608448696781154:=0
def tw15661315900263845937:=0
def tw15574583045790674718:=0
def tw15531878379241406110:=0
def tw15350167403463500922:=0
def tw15195022555487752321:=0
def tw14840190540923130925:=0
def tw14663358942495237762:=0
def tw14571883785036907400:=0
def tw14537082024802056096:=0
def tw14503666929745881008:=0
def tw1448314595337273840:=0
def tw14436674769058212810:=0
def tw14394667590025308805:=0
def tw14391491049945577013:=0
def tw14200598525053393585:=0
def tw13890908058842263265:=0
def tw13880668864057153871:=0
def tw13855602133950448465:=0
def tw1379041344545883820:=0
def tw13769283943451746633:=0
def tw13592906484999723690:=0
def tw13556079587617985751:=0
def tw13350549026752319360:=0
def tw13247222710549744889:=0
def tw13199035017987466579:=0
def tw1308879351071306222:=0
def tw12957197603761123507:=0
def tw12931970793961479964:=0
def tw12803925056508546562:=0
def tw12689320174258410805:=0
def tw12595464912076809780:=0
def tw12422718297548686151:=0
def tw12258497899704348777:=0
def tw12173132301457697539:=0
def tw12110377971135907459:=0
def tw11929708093192910523:=0
def tw11876608155079976127:=0
def tw11520629643920501691:=0
def tw11491999435219877367:=0
def tw10726727732451389651:=0
def tw10592207947741274977:=0
def tw10509169366848976628:=0
def tw10486062389144947876:=0
def tw10463626978944895100:=0
def tw10359003367806130520:=0
def tw10352294131153106964:=0
def tw10345618787127976466:=0
def tw10335059582980519993:=0
def tw10188071816673594273:=0
def tw10030336542759545602:=0
end PySem.W.Fast
open PySem PySem.W PyProof.Rows
set_option maxRecDepth 100000 in
set_option maxHeartbeats 0 in
theorem PySem.Challenge.cw_floorfits_k20_whole_known_holds : PySem.Challenge.rw_floorfits_k20_whole_known.Holds := by
 w_on;o_law;k_head;(case hw=>w_witness2)
 k_fill
 refine M20.walk (l:=PySem.Challenge.rw_floorfits_k20_whole_known) rfl rfl (fun w h Y=>PySem.W.kIn_of Y) ?F
 case F =>
  intro w mg fa h KX G hmg;refine' M20.all_mk KX G hmg ?nyWays ?pgWays ?hdWays ?poWays ?saWays ?mkWays ?kpWays ?naWaystiles ?naWaysground ?naWayssize ?naWaysis_round ?naWaysknown ?a15 ?i15 ?l15 ?c15 ?k15 ?dk15 ?a42 ?l42 ?c42 ?k42 ?z1 ?z2 ?z3 ?z4 ?z5 ?z6 ?z7 ?z8 ?z9 ?z10 ?gl1 ?gl2 ?gl3 ?gl4 ?n0 ?x0 ?n1 ?x1 ?n2 ?x2 ?n3 ?x3 ?n4 ?x4 ?n5 ?x5 ?n6 ?x6 ?lk1 ?mr1 ?ga1 ?gt1 ?cc1 ?lk2 ?mr2 ?ga2 ?gt2 ?cc2 ?lk3 ?mr3 ?ga3 ?gt3 ?cc3 ?nd ?_ ?_ ?_ ?_ ?_ ?_ ?_ ?_ ?_ ?_ ?_ ?_ ?_ ?_ ?_ ?_ ?_ ?_ ?_ ?_ ?_ ?_ ?_ ?_ ?_ ?_ ?_ ?_ ?_ ?_ ?_ ?_ ?_ ?_ ?_ ?_ ?_ ?_ ?_ ?_
  (case nyWays=>k_is);(case pgWays=>k_is);(case hdWays=>k_is);(case poWays=>k_is)
  (case saWays=>k_is);(case mkWays=>k_is);(case kpWays=>k_is);(case naWaystiles=>k_is)
  (case naWaysground=>k_is);(case naWayssize=>k_is);(case naWaysis_round=>k_is);(case naWaysknown=>k_is)
  (case a15=>k_is);(case i15=>k_is);(case l15=>k_is);(case c15=>k_is)
  (case k15=>k_is);(case dk15=>k_is);(case a42=>k_is);(case l42=>k_is)
  (case c42=>k_is);(case k42=>k_is);(case z1=>k_is);(case z2=>k_is)
  (case z3=>k_is);(case z4=>k_is);(case z5=>k_is);(case z6=>k_is)
  (case z7=>k_is);(case z8=>k_is);(case z9=>k_is);(case z10=>k_is)
  (case gl1=>k_is);(case gl2=>k_is);(case gl3=>k_is);(case gl4=>k_is)
  (case n0=>k_is);(case x0=>k_exc);(case n1=>k_is);(case x1=>k_exc)
  (case n2=>k_is);(case x2=>k_exc);(case n3=>k_is);(case x3=>k_exc)
  (case n4=>k_is);(case x4=>k_exc);(case n5=>k_is);(case x5=>k_exc)
  (case n6=>k_is);(case x6=>k_exc);(case lk1=>k_is);(case mr1=>with_unfolding_all rfl)
  (case ga1=>k_is);(case gt1=>k_is);(case cc1=>k_is);(case lk2=>k_is)
  (case mr2=>with_unfolding_all rfl);(case ga2=>k_is);(case gt2=>k_is);(case cc2=>k_is)
  (case lk3=>k_is);(case mr3=>with_unfolding_all rfl);(case ga3=>k_is);(case gt3=>k_is)
  (case cc3=>k_is);(case nd=>decide)
  all_goals ((first | refine' M20.gm ?a ?l ?c ?k ?i | refine' M20.mm ?a ?l ?c ?k ?i);(case a=>k_is);(case l=>k_is);(case c=>k_is);(case k=>k_is);(case i=>k_is))
#print axioms PySem.Challenge.cw_floorfits_k20_whole_known_holds
