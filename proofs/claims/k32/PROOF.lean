import PyProof.Rows.All
import Wide.All
import OpenK.AllK
import Wide.FinOn
import Lean
import PyProof.EqAt
import PyProof.EqKinds
import PyProof.TupleCall
import PySem.SetTable
import PyProof.TupleKey
import Wide.Seal
import PyProof.DictRoadsH
import PyProof.Rows.TupTab
import PyProof.Draws
import PyProof.EnumMake
import OpenK.KRaise
import OpenK.KOwn
import PyProof.Rows.TopTwo
import PyProof.RulesAs
import PyProof.RulesDel
import PyProof.ExcArgsOwn
import PyProof.ExcAttrAll.ValueError
import PyProof.Rows.CountFlat
import PyProof.SumWalk
import PyProof.Rows.SeqCalls
import PyProof.ZipIter
import KE.KRevIter
import PyProof.CollectIter
import PyProof.TupleOfGen
import PyProof.ListRange
import PyProof.WalkInts
import PySem.Challenge.RW_floorfits_k32_whole_stuck_costs
set_option Elab.async false
set_option linter.all false
set_option maxRecDepth 100000
set_option maxHeartbeats 4000000
abbrev Z1:=Nat->Nat->Option Int
abbrev Z2:=List (List Int)
abbrev Z3:=List (PySem.Addr×PySem.Obj)
abbrev Z4:=List (Option Int)
abbrev Z5:=PySem.Value->PySem.Shared->Prop
abbrev Z6:=PySem.Str->Option PySem.Value
theorem S2.bdI{c k:Nat}(h:c<=k)(hk:k<=1000000):-1000000<=(c:Int)/\(c:Int)<=1000000:=⟨Int.le_trans (by decide) (Int.natCast_nonneg c),Int.ofNat_le.mpr (Nat.le_trans h hk)⟩
theorem S2.bdN{c k:Nat}(h:c<=k)(hk:k<=1000000):0<=(c:Int)/\(c:Int)<=1000000:=⟨Int.natCast_nonneg c,Int.ofNat_le.mpr (Nat.le_trans h hk)⟩
local macro_rules | `(tactic| omega) => `(tactic| first | assumption | exact Nat.le_trans (by assumption) (by decide) | exact Nat.lt_of_lt_of_le (by assumption) (by assumption) | exact Nat.lt_of_lt_of_le (by assumption) (by decide) | exact Nat.le_of_lt (by assumption) | exact S2.bdI (by assumption) (by decide) | exact Nat.le_trans (by assumption) (by assumption) | omega +splitDisjunctions)
namespace L2
open PySem PySem.Spec PyProof.Rows
abbrev Key:=Sum Int Str
def zq3:Key->Value->Bool
 | .inl k,v=>Value.isInt k v
 | .inr x,v=>Value.isStrOf x v
def zwJ(w:World):Key->Int
 | .inl k=>hashInt k
 | .inr x=>hashStr w x
theorem zaS:∀{k:Key} {v:Value},zq3 k v=true->(∃i t,k=Sum.inl i/\v=Value.int i t)\/(∃x t,k=Sum.inr x/\v=Value.str x t)
 | .inl i,v,h=>by
  obtain ⟨t,e⟩:=Value.isInt_shape (k:=i) (v:=v) h;exact .inl ⟨i,t,rfl,e⟩
 | .inr x,v,h=>by
  obtain ⟨t,e⟩:=Value.isStrOf_shape (x:=x) (v:=v) h;exact .inr ⟨x,t,rfl,e⟩
theorem zq2(a b:Int):decide ((Sum.inl a:Key)=Sum.inl b)=(a == b):=by
 by_cases e:a=b
 ·subst e;simp
 ·have h:¬ (Sum.inl a:Key)=Sum.inl b:=fun q=>e (Sum.inl.inj q)
  rw [decide_eq_false h];exact (beq_eq_false_iff_ne.mpr e).symm
theorem zqZ(a b:Str):decide ((Sum.inr a:Key)=Sum.inr b)=decide (a=b):=by
 by_cases e:a=b
 ·subst e;simp
 ·have h:¬ (Sum.inr a:Key)=Sum.inr b:=fun q=>e (Sum.inr.inj q)
  rw [decide_eq_false h,decide_eq_false e]
theorem zq1(a:Int)(b:Str):decide ((Sum.inl a:Key)=Sum.inr b)=false:=decide_eq_false (fun q=>nomatch q)
theorem zq0(a:Str)(b:Int):decide ((Sum.inr a:Key)=Sum.inl b)=false:=decide_eq_false (fun q=>nomatch q)
def zki(prog:Program)(w:World):PySem.KeyKind prog w Key where
 is:=zq3
 hash:=zwJ w
 inj:=fun v a b ha hb=>by
  rcases zaS ha with ⟨i,t,rfl,rfl⟩ | ⟨x,t,rfl,rfl⟩
  ·rcases zaS hb with ⟨j,u,rfl,e⟩ | ⟨y,u,rfl,e⟩
   ·injection e with e1 _;rw [e1]
   ·exact nomatch e
  ·rcases zaS hb with ⟨j,u,rfl,e⟩ | ⟨y,u,rfl,e⟩
   ·exact nomatch e
   ·injection e with e1 _;rw [e1]
 byValue:=fun k v h=>by
  rcases zaS h with ⟨i,t,rfl,rfl⟩ | ⟨x,t,rfl,rfl⟩<;>rfl
 pyHash:=fun hv h=>by
  rcases zaS hv with ⟨i,t,rfl,rfl⟩ | ⟨x,t,rfl,rfl⟩
  ·exact wpAny_pyHash_int h
  ·exact wpAny_pyHash_str h
 eqBool:=fun hu hv h=>by
  rcases zaS hu with ⟨i,t,rfl,rfl⟩ | ⟨x,t,rfl,rfl⟩
  ·rcases zaS hv with ⟨j,u,rfl,rfl⟩ | ⟨y,u,rfl,rfl⟩
   ·rw [zq2] at h;exact wpAny_eqBool_int h
   ·rw [zq1] at h;exact SeqAt.EqAt.int_str i t y u _ _ _ _ h
  ·rcases zaS hv with ⟨j,u,rfl,rfl⟩ | ⟨y,u,rfl,rfl⟩
   ·rw [zq0] at h;exact SeqAt.EqAt.str_int x t j u _ _ _ _ h
   ·rw [zqZ] at h;exact wpAny_eqBool_str h
 «strs»:=fun k x t v h=>by
  rcases zaS h with ⟨i,u,rfl,e⟩ | ⟨y,u,rfl,e⟩
  ·exact nomatch e
  ·injection e with e1 _
   subst e1
   cases v<;>rfl
end L2
namespace L2
open PySem PySem.Spec PyProof.Rows
inductive V where
 | non | bl (b:Bool) | int (i:Int) | str (x:Str) | byt (b:Array UInt8) | flt (b:UInt64) | ref (a:Addr) | ty (n:String)
 deriving DecidableEq
def zbp:V->Value->Prop
 | .non,u=>u=Value.none
 | .bl b,u=>u=Value.bool b
 | .int i,u=>∃t,u=Value.int i t
 | .str x,u=>∃t,u=Value.str x t
 | .byt b,u=>∃t,u=Value.bytes b t
 | .flt b,u=>∃t,u=Value.float b t
 | .ref a,u=>u=Value.ref a
 | .ty n,u=>u=Value.type n
abbrev Vals:List V->List Value->Prop:=Paired zbp
theorem Vals.length{xs:List V}{us:List Value}(r:Vals xs us):xs.length=us.length:=Paired.length r
theorem Vals.get:∀{xs:List V} {us:List Value} {i:Nat} {x:V},Vals xs us->xs[i]?=some x->∃u,us[i]?=some u/\zbp x u
 | _,_,_,_,.nil,e=>by simp at e
 | _,_,0,_,.cons r _,e=>by simp at e;subst e;exact ⟨_,rfl,r⟩
 | _,_,i+1,x,.cons _ t,e=>by
  obtain ⟨u,h1,h2⟩:=Vals.get (i:=i) (x:=x) t (by simpa using e);exact ⟨u,by simpa using h1,h2⟩
theorem Vals.append:∀{xs ys:List V} {us ws:List Value},Vals xs us->Vals ys ws->Vals (xs++ys) (us++ws)
 | _,_,_,_,.nil,s=>s
 | _,_,_,_,.cons r t,s=>.cons r (Vals.append t s)
theorem Vals.take:∀{xs:List V} {us:List Value} (n:Nat),Vals xs us->Vals (xs.take n) (us.take n)
 | _,_,0,_=>.nil
 | _,_,_+1,.nil=>.nil
 | _,_,n+1,.cons r t=>.cons r (Vals.take n t)
theorem Vals.drop:∀{xs:List V} {us:List Value} (n:Nat),Vals xs us->Vals (xs.drop n) (us.drop n)
 | _,_,0,r=>r
 | _,_,_+1,.nil=>.nil
 | _,_,n+1,.cons _ t=>Vals.drop n t
def zln:Option V->Option Value->Prop
 | some v,some u=>zbp v u
 | none,none=>True
 | _,_=>False
def KV{κ:Type}:List (κ×V)->List (κ×Value)->Prop:=Paired fun (p:κ×V) (q:κ×Value)=>p.1=q.1/\zbp p.2 q.2
def kV:Key->V
 | .inl i=>.int i
 | .inr x=>.str x
inductive HO where
 | lst (xs:List V)
 | tup (xs:List V)
 | dK (kvs:List (Key×V)) | dT (kvs:List (List Key×V))
 | set (S:Int->Bool) (n:Nat)
 | ins (C dx:Addr) (fs:List (Str×V))
 | own (x:Addr)
 | xd (fs:List (Str×V))
 | met (f x:Addr)
 | rng (lo hi:Int)
 | frz (o:Obj) (u:HO)
 | tbl (ps:Array Value)
 | ext (φ:Heap->Prop)
abbrev Hp:=Addr->Option HO
def upd(H:Hp)(a:Addr)(o:HO):Hp:=fun b=>if b=a then some o else H b
theorem zaO{H:Hp}{a:Addr}{o:HO}:upd H a o a=some o:=by unfold upd;rw [if_pos rfl]
theorem zar{H:Hp}{a b:Addr}{o:HO}(h:b≠a):upd H a o b=H b:=by unfold upd;rw [if_neg h]
theorem zau{H:Hp}{a b:Addr}{o:HO}(h:H a=some o)(h':H b=none):a≠b:=by
 intro e;subst e;rw [h] at h';cases h'
section
variable(P:Program)(w:World)
def zbZ(H:Hp)(h:Heap)(a:Addr):HO->Prop
 | .lst xs=>xs.length<=sizeLine/\∃(its:List Value) (n:Nat),Vals xs its/\h.get? a=some { cls:=.type "list",data:=.seq its.toArray n }
 | .tup xs=>xs.length<=sizeLine/\∃its:List Value,Vals xs its/\IsTup h a its.toArray
 | .dK kvs=>kvs.length<=sizeLine/\(a == sysModules)=false/\∃vs,KV kvs vs/\h.DictOf (zki P w) a vs
 | .dT kvs=>kvs.length<=sizeLine/\(a == sysModules)=false/\∃xs:List (List Key×Addr×Value),
   Paired (fun (p:List Key×V) (q:List Key×Addr×Value)=>p.1=q.1/\H q.2.1=some (.tup (p.1.map kV))/\zbp p.2 q.2.2) kvs xs ∧
   ∃o es ep,h.get? a=some o/\o.ExactDict/\o.data=.dict es ep/\es.toList=xs.map (entryOfKey (tupleKind (zki P w)))/\(xs.map (·.1)).Nodup
 | .set S n=>h.SetOf (intKind P w) a S n
 | .ins C dx fs=>H dx=some (.own a)/\fs.length<=1000/\dx≠a/\h.get? a=some (PySem.W.instObj C dx) ∧
   ∃mA,h.Ns1 dx mA/\(∀f,zln (fs.lookup f) (mA f))/\PySem.Within mA (fs.map (·.1))
 | .own _=>∃o,h.get? a=some o
 | .xd fs=>∃mA,h.Ns1 a mA/\∀f,zln (fs.lookup f) (mA f)
 | .rng lo hi=>∃t u v,h.get? a=some { cls:=.type "range",data:=.fields #[.int lo t,.int hi u,.int 1 v] }
 | .frz o u=>h.get? a=some o/\zbZ H h a u
 | .tbl ps=>h.get? a=some { cls:=.none,data:=.fields ps }
 | .met f x=>h.get? a=some (PySem.W.methodObj (.ref f) (.ref x))
 | .ext φ=>φ h/\(∃o,h.get? a=some o)/\∀h1 h2:Heap,φ h1->(∀o,h1.get? a=some o->h2.get? a=some o)->φ h2
def HOk(H:Hp)(h:Heap):Prop:=∀a o,H a=some o->zbZ P w H h a o
end
section
variable{P:Program}{w:World}{H H':Hp}{h h':Heap}{a:Addr}{o:HO}
theorem zbZ.lt(x:zbZ P w H h a o):a<h.objs.size:=by
 cases o with
 | lst xs=>obtain ⟨_,_,_,_,e⟩:=x;exact Heap.lt_size e
 | tup xs=>obtain ⟨_,_,_,p⟩:=x;exact p.lt
 | dK kvs=>obtain ⟨_,_,_,_,o,_,_,e,_⟩:=x;exact Heap.lt_size e
 | dT kvs=>obtain ⟨_,_,_,_,o,_,_,e,_⟩:=x;exact Heap.lt_size e
 | set S n=>obtain ⟨o,_,_,_,e,_⟩:=x;exact Heap.lt_size e
 | ins C dx fs=>obtain ⟨_,_,_,e,_⟩:=x;exact Heap.lt_size e
 | own y=>obtain ⟨_,e⟩:=x;exact Heap.lt_size e
 | xd fs=>obtain ⟨_,⟨_,_,_,e,_⟩,_⟩:=x;exact Heap.lt_size e
 | rng lo hi=>obtain ⟨_,_,_,e⟩:=x;exact Heap.lt_size e
 | frz ob u=>obtain ⟨e,_⟩:=x;exact Heap.lt_size e
 | tbl ps=>exact Heap.lt_size (show h.get? a=some _ from x)
 | met f y=>exact Heap.lt_size (show h.get? a=some _ from x)
 | ext φ=>obtain ⟨_,⟨_,e⟩,_⟩:=x;exact Heap.lt_size e
theorem Paired.mapP{α β:Type}{F G:α->β->Prop}:∀{l₁:List α} {l₂:List β},Paired F l₁ l₂->(∀a b,F a b->G a b)->Paired G l₁ l₂
 | _,_,.nil,_=>.nil
 | _,_,.cons r t,f=>.cons (f _ _ r) (Paired.mapP t f)
theorem zbZ.stay(x:zbZ P w H h a o)(k:∀b u,(b=a\/H b=some (.own a))->h.get? b=some u->h'.get? b=some u)
  (ho:∀b,H b=some (.own a)->H' b=some (.own a)) (ht:∀b xs,H b=some (.tup xs)->H' b=some (.tup xs)):zbZ P w H' h' a o:=by
 induction o with
 | lst xs=>obtain ⟨z,its,n,r,e⟩:=x;exact ⟨z,its,n,r,k _ _ (.inl rfl) e⟩
 | tup xs=>obtain ⟨z,its,r,ob,e,c⟩:=x;exact ⟨z,its,r,ob,k _ _ (.inl rfl) e,c⟩
 | dK kvs=>obtain ⟨z,y,vs,r,ob,es,ep,e,c⟩:=x;exact ⟨z,y,vs,r,ob,es,ep,k _ _ (.inl rfl) e,c⟩
 | dT kvs =>
  obtain ⟨z,y,xs,r,ob,es,ep,e,c⟩:=x;exact ⟨z,y,xs,Paired.mapP r fun p q z=>⟨z.1,ht _ _ z.2.1,z.2.2⟩,ob,es,ep,k _ _ (.inl rfl) e,c⟩
 | set S n=>obtain ⟨ob,es,ep,t,e,c⟩:=x;exact ⟨ob,es,ep,t,k _ _ (.inl rfl) e,c⟩
 | ins C dx fs =>
  obtain ⟨d,z,ne,e,mA,⟨od,es,ep,e2,c⟩,r⟩:=x;exact ⟨ho _ d,z,ne,k _ _ (.inl rfl) e,mA,⟨od,es,ep,k _ _ (.inr d) e2,c⟩,r⟩
 | own y=>obtain ⟨ob,e⟩:=x;exact ⟨ob,k _ _ (.inl rfl) e⟩
 | xd fs=>obtain ⟨mA,⟨od,es,ep,e,c⟩,r⟩:=x;exact ⟨mA,⟨od,es,ep,k _ _ (.inl rfl) e,c⟩,r⟩
 | rng lo hi=>obtain ⟨t,u,v,e⟩:=x;exact ⟨t,u,v,k _ _ (.inl rfl) e⟩
 | frz ob u ih=>obtain ⟨e,q⟩:=x;exact ⟨k _ _ (.inl rfl) e,ih q⟩
 | tbl ps =>
  have e:h.get? a=some { cls:=.none,data:=.fields ps }:=x;show h'.get? a=some { cls:=.none,data:=.fields ps };exact k a _ (.inl rfl) e
 | met f y =>
  have e:h.get? a=some (PySem.W.methodObj (.ref f) (.ref y)):=x;show h'.get? a=some (PySem.W.methodObj (.ref f) (.ref y));exact k a _ (.inl rfl) e
 | ext φ=>obtain ⟨p,⟨o,e⟩,st⟩:=x;exact ⟨st _ _ p fun o q=>k _ _ (.inl rfl) q,⟨o,k _ _ (.inl rfl) e⟩,st⟩
theorem HOk.lt(x:HOk P w H h)(e:H a=some o):a<h.objs.size:=(x a o e).lt
theorem HOk.fresh(x:HOk P w H h)(e:h.objs.size<=a):H a=none:=by
 cases q:H a with
 | none=>rfl
 | some u=>exact absurd (Nat.lt_of_lt_of_le (x.lt q) e) (Nat.lt_irrefl _)
theorem HOk.kept(x:HOk P w H h)(k:∀b u,h.get? b=some u->h'.get? b=some u):HOk P w H h':=fun a o e =>
 (x a o e).stay (fun b u _ q=>k b u q) (fun _ q=>q) fun _ _ q=>q
theorem HOk.laid(x:HOk P w H h)(k:∀b u,h.get? b=some u->h'.get? b=some u)(hp:h.objs.size<=a)(new:zbZ P w (upd H a o) h' a o):HOk P w (upd H a o) h':=fun b u e=>by
 have hn:=x.fresh hp
 by_cases hb:b=a
 ·subst hb;rw [zaO] at e;cases e;exact new
 ·rw [zar hb] at e
  exact (x b u e).stay (fun c v _ q=>k c v q) (fun c q=>by rw [zar (zau q hn)];exact q) fun c xs q=>by rw [zar (zau q hn)];exact q
end
def Rd(H:Hp)(a:Addr)(u:HO):Prop:=H a=some u\/∃o,H a=some (.frz o u)
theorem Rd.ok{P:Program}{w:World}{H:Hp}{h:Heap}{a:Addr}{u:HO}(r:Rd H a u)(x:HOk P w H h):zbZ P w H h a u:=by
 rcases r with r | ⟨o,r⟩
 ·exact x a u r
 ·obtain ⟨_,q⟩:=x a _ r;exact q
def Mut:Option HO->Prop
 | some (.lst _)=>True
 | some (.dK _)=>True
 | some (.dT _)=>True
 | some (.set _ _)=>True
 | some (.ins _ _ _)=>True
 | some (.ext _)=>True
 | _=>False
section
variable{P:Program}{w:World}{H:Hp}{h h':Heap}{x e:Addr}{o':HO}
theorem HOk.write(ok:HOk P w H h)(mu:Mut (H x))(he:e=x\/H e=some (.own x))(k:∀b u,b≠e->h.get? b=some u->h'.get? b=some u)(heo:∃u,h'.get? e=some u)
  (new:zbZ P w (upd H x o') h' x o'):HOk P w (upd H x o') h':=fun b u q=>by
 have nown:∀c y,H c=some (.own y)->c≠x:=fun c y r z=>by subst z;rw [r] at mu;exact mu
 have ntup:∀c xs,H c=some (.tup xs)->c≠x:=fun c xs r z=>by subst z;rw [r] at mu;exact mu
 by_cases hb:b=x
 ·subst hb;rw [zaO] at q;cases q;exact new
 ·rw [zar hb] at q
  by_cases hbe:b=e
  ·have q':H b=some (.own x):=by
    rcases he with z | z
    ·exact absurd (hbe.trans z) hb
    ·rw [hbe];exact z
   rw [q] at q';cases q';obtain ⟨v,hv⟩:=heo;exact ⟨v,by rw [hbe];exact hv⟩
  ·refine (ok b u q).stay (fun c v hc r=>k c v ?_ r) (fun c r=>by rw [zar (nown c b r)];exact r) fun c xs r=>by rw [zar (ntup c xs r)];exact r
   rcases hc with rfl | hc
   ·exact hbe
   ·rintro rfl
    rcases he with z | z
    ·exact nown c b hc z
    ·rw [hc] at z;cases z;exact hb rfl
end
structure Un(fs ex:List Addr)(H H':Hp)(h h':Heap):Prop where
 keep:∀b o,h.get? b=some o->H b=none->b ∉ fs->b ∉ ex->h'.get? b=some o
 slot:∀b o,h.get? b=some o->H b=none->b∈fs->b ∉ ex->∃sl,h'.get? b=some { o with slots:=sl }
 free:∀b o,h.get? b=some o->H b=none->b ∉ ex->H' b=none
 there:∀b o,h.get? b=some o->b ∉ ex->∃o',h'.get? b=some o'
 tups:∀b xs,H b=some (.tup xs)->H' b=some (.tup xs)
 frzs:∀b o u,H b=some (.frz o u)->H' b=some (.frz o u)
 tbls:∀b ps,H b=some (.tbl ps)->∃more,H' b=some (.tbl (ps++more))
section
variable{fs fs' ex ex':List Addr}{H H1 H2:Hp}{h h1 h2 h':Heap}{a x e:Addr}{o:HO}
theorem Un.any(u:Un fs ex H H1 h h1){b:Addr}{ob:Obj}(q:h.get? b=some ob)(n:H b=none)(hx:b ∉ ex):∃sl,h1.get? b=some { ob with slots:=sl }:=by
 by_cases hb:b∈fs
 ·exact u.slot b ob q n hb hx
 ·exact ⟨ob.slots,u.keep b ob q n hb hx⟩
theorem Un.kept(k:∀b u,h.get? b=some u->h'.get? b=some u):Un fs ex H H h h' :=
 ⟨fun b ob q _ _ _=>k b ob q,fun b ob q _ _ _=>⟨ob.slots,k b ob q⟩,fun _ _ _ n _=>n,fun b ob q _=>⟨ob,k b ob q⟩,fun _ _ q=>q,fun _ _ _ q=>q,fun _ ps q=>⟨#[],by rw [q];simp⟩⟩
theorem Un.refl:Un fs ex H H h h:=Un.kept fun _ _ q=>q
theorem Un.laid(k:∀b u,h.get? b=some u->h'.get? b=some u)(hp:h.objs.size<=a)(hn:H a=none):Un fs ex H (upd H a o) h h' where
 keep:=fun b u q _ _ _=>k b u q
 slot:=fun b u q _ _ _=>⟨u.slots,k b u q⟩
 free:=fun b u q n _=>by rw [zar (Nat.ne_of_lt (Nat.lt_of_lt_of_le (Heap.lt_size q) hp))];exact n
 there:=fun b u q _=>⟨u,k b u q⟩
 tups:=fun b xs q=>by rw [zar (zau q hn)];exact q
 frzs:=fun b u xs q=>by rw [zar (zau q hn)];exact q
 tbls:=fun b ps q=>⟨#[],by rw [zar (zau q hn),q];simp⟩
theorem Un.write(mu:Mut (H x))(he:e=x\/H e=some (.own x))(k:∀b u,b≠e->h.get? b=some u->h'.get? b=some u)(heo:∃u,h'.get? e=some u):Un fs ex H (upd H x o) h h':=by
 have hx:∀b,H b=none->b≠x:=fun b n z=>by subst z;rw [n] at mu;exact mu
 have hb:∀b,H b=none->b≠e:=fun b n z=>by
  subst z
  rcases he with r | r
  ·exact hx b n r
  ·rw [n] at r;cases r
 have hm:∀b u,H b=some u->¬ Mut (some u)->b≠x:=fun b u q nm z=>by subst z;rw [q] at mu;exact nm mu
 refine ⟨fun b u q n _ _=>k b u (hb b n) q,fun b u q n _ _=>⟨u.slots,k b u (hb b n) q⟩,fun b u q n _=>by rw [zar (hx b n)];exact n,fun b u q _=>?_,
  fun b xs q=>by rw [zar (hm b _ q fun z=>z)];exact q,fun b u xs q=>by rw [zar (hm b _ q fun z=>z)];exact q,fun b ps q=>⟨#[],by rw [zar (hm b _ q fun z=>z),q];simp⟩⟩
 by_cases hbe:b=e
 ·subst hbe;exact heo
 ·exact ⟨u,k b u hbe q⟩
end
def trk(h:Heap)(H:Hp):List Addr:=(List.range h.objs.size).filter fun a=>(H a).isSome
def zml(h:Heap)(H:Hp):Heap:=PySem.W.hideAll h (trk h H)
theorem zkF(h:Heap)(H:Hp):(zml h H).objs.size=h.objs.size:=PySem.W.hideAll_size _ _
theorem zmk{h:Heap}{H:Hp}{b:Addr}{o:Obj}(e:h.get? b=some o)(n:H b=none):(zml h H).get? b=some o :=
 PySem.W.hideAll_get _ e fun hm=>by
  have q:(H b).isSome=true:=(List.mem_filter.mp hm).2;rw [n] at q;simp at q
theorem zoh{h:Heap}{H:Hp}{b:Addr}{o:Obj}(e:(zml h H).get? b=some o):h.get? b=some o/\H b=none:=by
 have e':h.get? b=some o:=PySem.W.of_hideAll (trk h H) e;refine ⟨e',?_⟩
 cases q:H b with
 | none=>rfl
 | some x =>
  have hm:b∈trk h H:=List.mem_filter.mpr ⟨List.mem_range.mpr (Heap.lt_size e'),by simp [q]⟩;have z:(zml h H).get? b=none:=PySem.W.hideAll_none (trk h H) hm;rw [z] at e;cases e
def zo7(g h:Heap)(L:Addr):List (Addr×Obj):=(List.range h.objs.size).filterMap fun a=>if a=L\/(g.get? a).isSome=true then none else (h.get? a).map fun o=>(a,o)
def zcf(g h:Heap)(L d:Addr):List (Addr×Obj):=(zo7 g h L).filter fun p=>decide (p.1≠d)
end L2
namespace L2
open PySem PySem.Spec PyProof.Rows
structure Mod(K:PySem.W.Frag)(mg:Z6)(base:Heap):Prop where
 kin:K.In base
 glob:base.Ns mainGlobals mg
 blt:∃mb,base.Ns builtinsNs mb/\∀x:Str,x ≠ "__name__" -> mb x=bootBuiltins x
 nolimit:base.NoLimit
structure Cx where
 prog:Program
 w:World
 K:PySem.W.Frag
 mg:Str->Option Value
 base:Heap
 A:Around
 N:List Str
 s₀:Shared
 H₀:Hp
 env:Env
 outer:List Env
 stack:List Env
 ex:List Addr
 fn:Str->Bool
 calm:Bool
 pn:List (Addr×Obj)
 xe:Value->Shared->Prop
def frs(l:List Env):List Addr:=l.filterMap (·.frame)
abbrev Cx.fs(X:Cx):List Addr:=frs X.outer
def Vis(sc:Scope)(x:Str):Prop:=sc.names.lookup x=some .local\/sc.names.lookup x=some .cell\/sc.names.lookup x=some .free
def Loc(sc:Scope)(x:Str):Prop:=sc.names.lookup x=some .local\/sc.names.lookup x=some .cell
def zxr(env:Env)(h:Heap)(m:Z6)(x:Str)(u:Value):Prop :=
 (env.kindOf x=some .local/\m x=some u)\/((env.kindOf x=some .cell\/env.kindOf x=some .free)/\∃c,env.cells.lookup x=some c/\h.IsCell c (some u))
structure Cx.Ok(X:Cx):Prop where
 mod:Mod X.K X.mg X.base
 kind:X.env.scope.kind=.function
 glob:X.env.globals=mainGlobals
 blt:X.env.builtins=builtinsNs
 above:X.s₀.heap.objs.size<=X.env.locals
 inj:∀x y c,X.env.cells.lookup x=some c->X.env.cells.lookup y=some c->x=y
 has:∀x,(X.env.kindOf x=some .cell\/X.env.kindOf x=some .free)->∃c,X.env.cells.lookup x=some c
 cab:∀x c,X.fn x=true->X.env.cells.lookup x=some c->X.s₀.heap.objs.size<=c
 hd:X.calm=true->X.A.handled=none
 frames:X.A.frames=some X.stack
 stk:X.stack=X.outer\/(X.stack=X.env::X.outer/\X.env.frame=some X.env.locals)
 exf:∀b∈X.ex,b≠X.env.locals/\∀x c,X.env.cells.lookup x=some c->c≠b
 bs:∀b o,X.base.get? b=some o->X.s₀.heap.get? b=some o/\X.H₀ b=none
 bsz:X.base.objs.size<=X.s₀.heap.objs.size
 noex:∀b o,X.base.get? b=some o->b ∉ X.ex
 exfs:∀b∈X.ex,b ∉ X.fs
 funs:X.s₀.heap.FunFrames X.base X.outer
 frf:∀b∈X.fs,X.H₀ b=none
structure Inv(X:Cx)(pins:Z3)(σ:List (Option V))(H:Hp)(s:Shared):Prop where
 ok:X.Ok
 os:s.os=X.s₀.os
 bare:AllBare s.gens
 base:Un X.fs X.ex X.H₀ H X.s₀.heap s.heap
 loc:∃m,s.heap.Ns X.env.locals m/\∀(i:Nat) (x:Str) (v:V),X.N[i]?=some x->σ[i]?=some (some v)->Vis X.env.scope x->∃u,zbp v u/\zxr X.env s.heap m x u
 cell:∀x c,X.env.cells.lookup x=some c->∃v,s.heap.IsCell c v
 free:H X.env.locals=none
 freeC:∀x c,X.env.cells.lookup x=some c->H c=none
 pin:∀p∈X.pn++pins,s.heap.get? p.1=some p.2/\H p.1=none/\p.1≠X.env.locals/\p.1 ∉ X.fs/\∀v,p.2.data≠.cell v
 hok:HOk X.prog X.w H s.heap
 len:σ.length=X.N.length
section
variable{X:Cx}{pins:Z3}{σ:List (Option V)}{H H':Hp}{s:Shared}{h':Heap}
theorem Cx.Ok.nofr(ok:X.Ok){b:Addr}{o:Obj}(e:X.base.get? b=some o):b ∉ X.fs:=fun hb=>by
 have:=(ok.funs.mem hb).1;rw [e] at this;cases this
theorem Inv.bs(I:Inv X pins σ H s):∀b o,X.base.get? b=some o->s.heap.get? b=some o/\H b=none:=fun b o e =>
 ⟨I.base.keep b o (I.ok.bs b o e).1 (I.ok.bs b o e).2 (I.ok.nofr e) (I.ok.noex b o e),I.base.free b o (I.ok.bs b o e).1 (I.ok.bs b o e).2 (I.ok.noex b o e)⟩
theorem Inv.bk(I:Inv X pins σ H s):∀b o,X.base.get? b=some o->s.heap.get? b=some o:=fun b o e=>(I.bs b o e).1
theorem Inv.mod(I:Inv X pins σ H s):Mod X.K X.mg X.base:=I.ok.mod
theorem Inv.kIn(I:Inv X pins σ H s):X.K.In s.heap:=I.ok.mod.kin.keeps I.bk
theorem Inv.lt(I:Inv X pins σ H s):X.env.locals<s.heap.objs.size:=let ⟨_,hn,_⟩:=I.loc;hn.lt
theorem Inv.sz(I:Inv X pins σ H s):X.s₀.heap.objs.size<=s.heap.objs.size:=Nat.le_trans I.ok.above (Nat.le_of_lt I.lt)
theorem Inv.nofs(I:Inv X pins σ H s){a:Addr}(h:s.heap.objs.size<=a):a ∉ X.fs:=fun hb=>by
 obtain ⟨_,o,ho,_⟩:=I.ok.funs.mem hb;exact absurd (Nat.lt_of_lt_of_le (Heap.lt_size ho) (Nat.le_trans I.sz h)) (Nat.lt_irrefl _)
theorem Inv.cne(I:Inv X pins σ H s):∀x c,X.env.cells.lookup x=some c->c≠X.env.locals:=fun x c e z=>by
 obtain ⟨v,o,ho,hd⟩:=I.cell x c e;obtain ⟨m,⟨o',es,ep,ho',hd',_⟩,_⟩:=I.loc;rw [z,ho'] at ho;cases ho;rw [hd'] at hd;cases hd
theorem Inv.funs(I:Inv X pins σ H s):s.heap.FunFrames X.base X.outer:=by
 have all:∀(l:List Env),(∀b∈frs l,b∈X.fs)->X.s₀.heap.FunFrames X.base l->s.heap.FunFrames X.base l:=by
  intro l
  induction l with
  | nil=>intro _ _;trivial
  | cons env r ih =>
   intro hs hl;obtain ⟨hk,⟨L,o,hf,hn,ho,hd⟩,hr⟩:=hl;have hL:L∈X.fs:=hs L (by unfold frs;rw [List.filterMap_cons,hf];exact List.mem_cons_self);obtain ⟨sl,e⟩:=I.base.slot L o ho (I.ok.frf L hL) hL fun z=>I.ok.exfs L z hL
   exact ⟨hk,⟨L,_,hf,hn,e,hd⟩,ih (fun b hb=>hs b (by unfold frs;rw [List.filterMap_cons,hf];exact List.mem_cons_of_mem _ hb)) hr⟩
 exact all X.outer (fun _ hb=>hb) I.ok.funs
theorem Inv.stack(I:Inv X pins σ H s):s.heap.FunFrames X.base X.stack:=by
 rcases I.ok.stk with e | ⟨e,hf⟩
 ·rw [e];exact I.funs
 ·rw [e];obtain ⟨m,hn,_⟩:=I.loc;refine .cons (by rw [I.ok.kind];decide) hf hn ?_ I.funs;exact Heap.get?_none_of_le (Nat.le_trans I.ok.bsz I.ok.above)
theorem Inv.stkSub(I:Inv X pins σ H s):∀b∈frs X.stack,b∈X.env.locals::X.fs:=fun b hb=>by
 rcases I.ok.stk with e | ⟨e,hf⟩
 ·rw [e] at hb;exact List.mem_cons_of_mem _ hb
 ·rw [e] at hb;unfold frs at hb;rw [List.filterMap_cons,hf] at hb;exact hb
theorem Inv.stkFree(I:Inv X pins σ H s):∀b∈frs X.stack,H b=none:=fun b hb=>by
 rcases List.mem_cons.mp (I.stkSub b hb) with e | hb
 ·rw [e];exact I.free
 ·obtain ⟨_,o,ho,_⟩:=I.ok.funs.mem hb;exact I.base.free b o ho (I.ok.frf b hb) fun z=>I.ok.exfs b z hb
theorem Inv.step{g':Array GenState}{t':Nat}{d':Drawn}{ch:List Addr}(I:Inv X pins σ H s)
  (hch:∀b∈ch,(b∈X.ex\/X.s₀.heap.objs.size<=b)/\b≠X.env.locals/\(∀x c,X.env.cells.lookup x=some c->c≠b)/\∀p∈X.pn++pins,p.1≠b)
  (keep:∀b o,b≠X.env.locals->b ∉ X.fs->b ∉ ch->s.heap.get? b=some o->H b=none->h'.get? b=some o)
  (slot:∀b o,b≠X.env.locals->b∈X.fs->b ∉ ch->s.heap.get? b=some o->H b=none->∃sl,h'.get? b=some { o with slots:=sl }) (free:∀b o,b ∉ ch->s.heap.get? b=some o->H b=none->H' b=none)
  (there:∀b o,b ∉ ch->s.heap.get? b=some o->∃o',h'.get? b=some o')
  (tups:∀b xs,H b=some (.tup xs)->H' b=some (.tup xs)) (frzs:∀b o u,H b=some (.frz o u)->H' b=some (.frz o u)) (tbls:∀b ps,H b=some (.tbl ps)->∃more,H' b=some (.tbl (ps++more)))
  (ns:∀m,s.heap.Ns X.env.locals m->h'.Ns X.env.locals m) (hok:HOk X.prog X.w H' h') (hg:AllBare g') :
  Inv X pins σ H' { s with heap:=h',gens:=g',drawn:=d',toks:=t' }:=by
 have neL:∀b o,X.s₀.heap.get? b=some o->b≠X.env.locals:=fun b o e=>Nat.ne_of_lt (Nat.lt_of_lt_of_le (Heap.lt_size e) I.ok.above)
 have neC:∀b o,X.s₀.heap.get? b=some o->b ∉ X.ex->b ∉ ch:=fun b o e hx hb=>by
  rcases (hch b hb).1 with z | z
  ·exact hx z
  ·exact absurd (Nat.lt_of_lt_of_le (Heap.lt_size e) z) (Nat.lt_irrefl _)
 have cellK:∀x c,X.env.cells.lookup x=some c->∀v,s.heap.IsCell c v->h'.IsCell c v:=fun x c e v ⟨o,ho,hd⟩=>by
  have nch:c ∉ ch:=fun z=>(hch c z).2.2.1 x c e rfl
  by_cases hc:c∈X.fs
  ·obtain ⟨sl,q⟩:=slot c o (I.cne x c e) hc nch ho (I.freeC x c e);exact ⟨_,q,hd⟩
  ·exact ⟨o,keep c o (I.cne x c e) hc nch ho (I.freeC x c e),hd⟩
 refine ⟨I.ok,I.os,hg,⟨fun b o e n hb hx=>?_,fun b o e n hb hx=>?_,fun b o e n hx=>?_,fun b o e hx=>?_,fun b xs e=>tups b xs (I.base.tups b xs e),fun b o xs e=>frzs b o xs (I.base.frzs b o xs e),fun b ps e=>?_⟩,?_,fun x c e=>?_,?_,fun x c e=>?_,fun p hp=>?_,hok,I.len⟩
 ·exact keep b o (neL b o e) hb (neC b o e hx) (I.base.keep b o e n hb hx) (I.base.free b o e n hx)
 ·obtain ⟨sl,e1⟩:=I.base.slot b o e n hb hx;obtain ⟨sl',e2⟩:=slot b _ (neL b o e) hb (neC b o e hx) e1 (I.base.free b o e n hx);exact ⟨sl',e2⟩
 ·obtain ⟨o',e1⟩:=I.base.there b o e hx;exact free b o' (neC b o e hx) e1 (I.base.free b o e n hx)
 ·obtain ⟨o',e1⟩:=I.base.there b o e hx;exact there b o' (neC b o e hx) e1
 ·obtain ⟨m1,e1⟩:=I.base.tbls b ps e;obtain ⟨m2,e2⟩:=tbls b _ e1;exact ⟨m1++m2,by rw [e2,Array.append_assoc]⟩
 ·obtain ⟨m,hn,hl⟩:=I.loc;refine ⟨m,ns m hn,fun i x v e1 e2 e3=>?_⟩;obtain ⟨u,r,l⟩:=hl i x v e1 e2 e3;refine ⟨u,r,?_⟩
  rcases l with l | ⟨k,c,e,z⟩
  ·exact .inl l
  ·exact .inr ⟨k,c,e,cellK x c e _ z⟩
 ·obtain ⟨v,z⟩:=I.cell x c e;exact ⟨v,cellK x c e v z⟩
 ·obtain ⟨m,⟨o,_,_,ho,_⟩,_⟩:=I.loc;exact free _ o (fun z=>(hch _ z).2.1 rfl) ho I.free
 ·obtain ⟨v,o,ho,hd⟩:=I.cell x c e;exact free c o (fun z=>(hch c z).2.2.1 x c e rfl) ho (I.freeC x c e)
 ·obtain ⟨e,n,ne,nf,d⟩:=I.pin p hp;have nch:p.1 ∉ ch:=fun z=>(hch p.1 z).2.2.2 p hp rfl
  exact ⟨keep p.1 p.2 ne nf nch e n,free p.1 p.2 nch e n,ne,nf,d⟩
theorem Inv.un{t':Nat}(I:Inv X pins σ H s)(u:Un X.fs [] H H' s.heap h')(hok:HOk X.prog X.w H' h'):Inv X pins σ H' { s with heap:=h',toks:=t' }:=by
 obtain ⟨m,⟨o,es,ep,ho,r⟩,_⟩:=id I.loc;obtain ⟨sl,hL⟩:=u.any ho I.free (by simp)
 exact I.step (g':=s.gens) (d':=s.drawn) (ch:=[]) (fun _ z=>nomatch z) (fun b o _ hb _ e n=>u.keep b o e n hb (by simp)) (fun b o _ hb _ e n=>u.slot b o e n hb (by simp)) (fun b o _ e n=>u.free b o e n (by simp)) (fun b o _ e=>u.there b o e (by simp)) u.tups u.frzs u.tbls (fun m' hm=>by
  obtain ⟨o',es',ep',ho',r'⟩:=hm;rw [ho] at ho';cases ho'
  exact ⟨_,es',ep',hL,r'⟩) hok I.bare
theorem Inv.call{g':Array GenState}{t':Nat}{d':Drawn}{ch:List Addr}(I:Inv X pins σ H s)(u:Un (frs X.stack) ch H H' s.heap h')(hok:HOk X.prog X.w H' h')(hg:AllBare g')
  (hch:∀b∈ch,(b∈X.ex\/X.s₀.heap.objs.size<=b)/\b≠X.env.locals/\(∀x c,X.env.cells.lookup x=some c->c≠b)/\∀p∈X.pn++pins,p.1≠b) :
  Inv X pins σ H' { s with heap:=h',gens:=g',drawn:=d',toks:=t' }:=by
 obtain ⟨m,⟨o,es,ep,ho,r⟩,_⟩:=id I.loc;obtain ⟨sl,hL⟩:=u.any ho I.free fun z=>(hch _ z).2.1 rfl
 exact I.step (ch:=ch) hch (fun b o hL hb hc e n=>u.keep b o e n (fun z=>(List.mem_cons.mp (I.stkSub b z)).elim hL hb) hc) (fun b o _ _ hc e n=>u.any e n hc) (fun b o hc e n=>u.free b o e n hc) (fun b o hc e=>u.there b o e hc) u.tups u.frzs u.tbls (fun m' hm=>by
  obtain ⟨o',es',ep',ho',r'⟩:=hm;rw [ho] at ho';cases ho'
  exact ⟨_,es',ep',hL,r'⟩) hok hg
theorem Inv.turned{t':Nat}{it:Addr}(I:Inv X pins σ H s)(k:∀b o,b≠it->s.heap.get? b=some o->h'.get? b=some o)(hn:H it=none)(hL:it≠X.env.locals)
  (h1:it∈X.ex\/X.s₀.heap.objs.size<=it) (h2:∀x c,X.env.cells.lookup x=some c->c≠it) (h3:∀p∈X.pn++pins,p.1≠it):Inv X pins σ H { s with heap:=h',toks:=t' }:=by
 have nit:∀b u,H b=some u->b≠it:=fun b u e z=>by rw [z,hn] at e;cases e
 refine I.step (g':=s.gens) (d':=s.drawn) (ch:=[it]) (fun b hb=>?_) (fun b o _ _ hc e _=>k b o (fun z=>hc (by simp [z])) e) (fun b o _ _ hc e _=>⟨o.slots,k b o (fun z=>hc (by simp [z])) e⟩) (fun _ _ _ _ n=>n)
  (fun b o hc e=>⟨o,k b o (fun z=>hc (by simp [z])) e⟩) (fun _ _ e=>e) (fun _ _ _ e=>e) (fun b ps e=>⟨#[],by rw [e];simp⟩) (fun m hm=>?_) (fun b u e=>?_) I.bare
 ·have e:b=it:=by simpa using hb
  subst e;exact ⟨h1,hL,h2,h3⟩
 ·obtain ⟨o,es,ep,ho,r⟩:=hm;exact ⟨o,es,ep,k _ o (Ne.symm hL) ho,r⟩
 ·refine (I.hok b u e).stay (fun c v hc q=>k c v ?_ q) (fun _ q=>q) fun _ _ q=>q
  rcases hc with z | z
  ·rw [z];exact nit b u e
  ·exact nit c _ z
theorem Inv.tok(I:Inv X pins σ H s)(t:Nat):Inv X pins σ H { s with toks:=t }:=I.un (h':=s.heap) (t':=t) Un.refl I.hok
theorem Inv.kept{t':Nat}(I:Inv X pins σ H s)(k:∀b u,s.heap.get? b=some u->h'.get? b=some u):Inv X pins σ H { s with heap:=h',toks:=t' }:=I.un (Un.kept k) (I.hok.kept k)
theorem Inv.laid{a:Addr}{o:HO}{t':Nat}(I:Inv X pins σ H s)(k:∀b u,s.heap.get? b=some u->h'.get? b=some u)(hp:s.heap.objs.size<=a)(new:zbZ X.prog X.w (upd H a o) h' a o) :
  Inv X pins σ (upd H a o) { s with heap:=h',toks:=t' }:=I.un (Un.laid k hp (I.hok.fresh hp)) (I.hok.laid k hp new)
theorem Inv.write{x e:Addr}{o:HO}{t':Nat}(I:Inv X pins σ H s)(mu:Mut (H x))(he:e=x\/H e=some (.own x))(k:∀b u,b≠e->s.heap.get? b=some u->h'.get? b=some u)(heo:∃u,h'.get? e=some u)
  (new:zbZ X.prog X.w (upd H x o) h' x o):Inv X pins σ (upd H x o) { s with heap:=h',toks:=t' }:=I.un (Un.write mu he k heo) (I.hok.write mu he k heo new)
theorem Inv.pins_of{pins':Z3}(I:Inv X pins σ H s)(h:∀p∈pins',s.heap.get? p.1=some p.2/\H p.1=none/\p.1≠X.env.locals/\p.1 ∉ X.fs/\∀v,p.2.data≠.cell v):Inv X pins' σ H s :=
 ⟨I.ok,I.os,I.bare,I.base,I.loc,I.cell,I.free,I.freeC,fun p hp=>(List.mem_append.mp hp).elim (fun z=>I.pin p (List.mem_append_left _ z)) (h p),I.hok,I.len⟩
theorem zic{N:List Str}(hN:N.Nodup){i j:Nat}{x:Str}(a:N[i]?=some x)(b:N[j]?=some x):i=j:=by
 obtain ⟨h1,e1⟩:=List.getElem?_eq_some_iff.mp a;obtain ⟨h2,e2⟩:=List.getElem?_eq_some_iff.mp b;exact (List.getElem_inj hN).mp (e1.trans e2.symm)
theorem zgx{M:Model}{A:Around}{E:Z5}{i:Nat}{x:Str}{v:V}{u:Value}{Q:Unit->Shared->Prop}(I:Inv X pins σ H s)(hN:X.N.Nodup)(hi:X.N[i]?=some x)(hx:Loc X.env.scope x)(r:zbp v u)
  (h:∀s',Inv X pins (σ.set i (some v)) H s'->(∃a,Heap.SameBut a s.heap s'.heap/\(a=X.env.locals\/X.env.cells.lookup x=some a))->Q () s') (hf:X.fn x=true\/X.env.scope.names.lookup x=some .local:=by first | exact .inl rfl | exact .inr rfl | assumption):wpAny M A (storeName X.env x u) Q E s:=by
 obtain ⟨m,hn,hl⟩:=id I.loc
 have hcls:(X.env.scope.kind == .class||(X.env.scope.kind == .module&&X.env.locals != X.env.globals))=false:=by rw [I.ok.kind];rfl
 have hiσ:i<σ.length:=by rw [I.len];exact (List.getElem?_eq_some_iff.mp hi).1
 have cne:=I.cne
 have tracked:∀{a:Addr} {h':Heap},(∃o,s.heap.get? a=some o/\H a=none)->Heap.SameBut a s.heap h'->HOk X.prog X.w H h':=fun {a h'} ha hs b ob e=>by
  obtain ⟨_,_,hfree⟩:=ha;refine (I.hok b ob e).stay (fun c w' hc q=>(hs.2 c ?_).trans q) (fun _ q=>q) fun _ _ q=>q
  rintro rfl
  rcases hc with rfl | hc
  ·rw [hfree] at e;cases e
  ·rw [hfree] at hc;cases hc
 rcases hx with hk | hk
 ·refine wpAny_storeName_local hk hn (fun h' hn' hs=>?_) hcls;obtain ⟨oL,_,_,hoL,_⟩:=id hn;refine h _ ⟨I.ok,I.os,I.bare,⟨fun b o e n hb hx=>?_,fun b o e n hb hx=>?_,I.base.free,fun b o e hx=>?_,I.base.tups,I.base.frzs,I.base.tbls⟩,⟨_,hn',fun j y v' e1 e2 e3=>?_⟩,fun y c e=>?_,I.free,I.freeC,fun p hp=>?_,tracked ⟨oL,hoL,I.free⟩ hs,by simpa using I.len⟩ ⟨_,hs,.inl rfl⟩
  ·exact (hs.2 b (Nat.ne_of_lt (Nat.lt_of_lt_of_le (Heap.lt_size e) I.ok.above))).trans (I.base.keep b o e n hb hx)
  ·obtain ⟨sl,e1⟩:=I.base.slot b o e n hb hx;exact ⟨sl,(hs.2 b (Nat.ne_of_lt (Nat.lt_of_lt_of_le (Heap.lt_size e) I.ok.above))).trans e1⟩
  ·obtain ⟨o',e1⟩:=I.base.there b o e hx;exact ⟨o',(hs.2 b (Nat.ne_of_lt (Nat.lt_of_lt_of_le (Heap.lt_size e) I.ok.above))).trans e1⟩
  ·by_cases hj:j=i
   ·subst hj;rw [hi] at e1;cases e1;rw [List.getElem?_set_self hiσ] at e2;cases e2;exact ⟨u,r,.inl ⟨hk,by simp⟩⟩
   ·rw [List.getElem?_set_ne (Ne.symm hj)] at e2;obtain ⟨u',r',q⟩:=hl j y v' e1 e2 e3;refine ⟨u',r',?_⟩
    rcases q with ⟨k,e⟩ | ⟨k,c,e,z⟩
    ·refine .inl ⟨k,?_⟩;have:y≠x:=fun e=>hj (zic hN e1 (e ▸ hi))
     simp [this,e]
    ·exact .inr ⟨k,c,e,z.sameBut hs (cne y c e)⟩
  ·obtain ⟨w',z⟩:=I.cell y c e;exact ⟨w',z.sameBut hs (cne y c e)⟩
  ·obtain ⟨e,n,ne,nf,d⟩:=I.pin p hp;exact ⟨(hs.2 p.1 ne).trans e,n,ne,nf,d⟩
 ·have hfn:X.fn x=true:=by
   rcases hf with z | z
   ·exact z
   ·rw [z] at hk;cases hk
  obtain ⟨c,hc⟩:=I.ok.has x (.inl hk);obtain ⟨w',z⟩:=I.cell x c hc;refine wpAny_storeName_cell I.ok.kind hk hc z (fun h' hc' hs=>?_);obtain ⟨oc,hoc,hocd⟩:=id z;refine h { s with heap:=h' } ⟨I.ok,I.os,I.bare,⟨fun b o e n hb hx=>?_,fun b o e n hb hx=>?_,I.base.free,fun b o e hx=>?_,I.base.tups,I.base.frzs,I.base.tbls⟩,⟨m,hn.sameBut hs (Ne.symm (cne x c hc)),fun j y v' e1 e2 e3=>?_⟩,fun y c' e=>?_,I.free,I.freeC,fun p hp=>?_,tracked ⟨oc,hoc,I.freeC x c hc⟩ hs,by simpa using I.len⟩ ⟨c,hs,.inr hc⟩
  ·exact (hs.2 b (Nat.ne_of_lt (Nat.lt_of_lt_of_le (Heap.lt_size e) (I.ok.cab x c hfn hc)))).trans (I.base.keep b o e n hb hx)
  ·obtain ⟨sl,e1⟩:=I.base.slot b o e n hb hx;exact ⟨sl,(hs.2 b (Nat.ne_of_lt (Nat.lt_of_lt_of_le (Heap.lt_size e) (I.ok.cab x c hfn hc)))).trans e1⟩
  ·obtain ⟨o',e1⟩:=I.base.there b o e hx;exact ⟨o',(hs.2 b (Nat.ne_of_lt (Nat.lt_of_lt_of_le (Heap.lt_size e) (I.ok.cab x c hfn hc)))).trans e1⟩
  ·by_cases hj:j=i
   ·subst hj;rw [hi] at e1;cases e1;rw [List.getElem?_set_self hiσ] at e2;cases e2;exact ⟨u,r,.inr ⟨.inl hk,c,hc,hc'⟩⟩
   ·rw [List.getElem?_set_ne (Ne.symm hj)] at e2;obtain ⟨u',r',q⟩:=hl j y v' e1 e2 e3;refine ⟨u',r',?_⟩
    rcases q with q | ⟨k,c',e,z'⟩
    ·exact .inl q
    ·refine .inr ⟨k,c',e,z'.sameBut hs ?_⟩;rintro rfl;exact hj (zic hN e1 (I.ok.inj _ _ _ e hc ▸ hi))
  ·by_cases hcc:c'=c
   ·subst hcc;exact ⟨_,hc'⟩
   ·obtain ⟨w2,z2⟩:=I.cell y c' e;exact ⟨w2,z2.sameBut hs hcc⟩
  ·obtain ⟨e,n,ne,nf,d⟩:=I.pin p hp;refine ⟨(hs.2 p.1 ?_).trans e,n,ne,nf,d⟩;intro q;rw [q,hoc] at e;have q':oc=p.2:=Option.some.inj e;exact d w' (by rw [<-q'];exact hocd)
theorem zfQ{M:Model}{A:Around}{E:Z5}{i:Nat}{x:Str}{v:V}{u:Value}{Q:Unit->Shared->Prop}(I:Inv X pins σ H s)(hN:X.N.Nodup)(hi:X.N[i]?=some x)(hx:Loc X.env.scope x)(r:zbp v u)
  (h:∀s',Inv X pins (σ.set i (some v)) H s'->Q () s') (hf:X.fn x=true\/X.env.scope.names.lookup x=some .local:=by first | exact .inl rfl | exact .inr rfl | assumption):wpAny M A (storeName X.env x u) Q E s :=
 zgx I hN hi hx r (fun s' I' _=>h s' I') hf
theorem Inv.call'{s':Shared}{ch:List Addr}(I:Inv X pins σ H s)(ho:s'.os=s.os)(u:Un (frs X.stack) ch H H' s.heap s'.heap)(hok:HOk X.prog X.w H' s'.heap)(hg:AllBare s'.gens)
  (hch:∀b∈ch,(b∈X.ex\/X.s₀.heap.objs.size<=b)/\b≠X.env.locals/\(∀x c,X.env.cells.lookup x=some c->c≠b)/\∀p∈X.pn++pins,p.1≠b):Inv X pins σ H' s':=by
 obtain ⟨h',g',d',t',o'⟩:=s';have e:o'=s.os:=ho;subst e;exact I.call (g':=g') (t':=t') (d':=d') u hok hg hch
end
abbrev XK:=Value->Option Addr->Hp->Prop
abbrev St:=List (Option V)
abbrev VK:=V->Hp->Prop
abbrev TE:=St->Hp->VK->Prop
abbrev TT:=St->Hp->(Bool->Hp->Prop)->Prop
abbrev TA:=St->Hp->(List V->Hp->Prop)->Prop
structure Ends where
 nx:St->Hp->Prop
 rt:VK
 bk:St->Hp->Prop:=fun _ _=>False
 ct:St->Hp->Prop:=fun _ _=>False
abbrev TS:=Ends->St->Hp->Prop
def EP(X:Cx)(pins:Z3)(σ:St)(Q:VK)(u:Value)(s':Shared):Prop:=∃v H',Inv X pins σ H' s'/\zbp v u/\Q v H'
def TP(X:Cx)(pins:Z3)(σ:St)(Q:Bool->Hp->Prop)(b:Bool)(s':Shared):Prop:=∃H',Inv X pins σ H' s'/\Q b H'
def AP(X:Cx)(pins:Z3)(σ:St)(Q:List V->Hp->Prop)(us:List Value)(s':Shared):Prop:=∃vs H',Inv X pins σ H' s'/\Vals vs us/\Q vs H'
def SP(X:Cx)(pins:Z3)(D:Ends)(f:Flow)(s':Shared):Prop :=
 match f with
 | .next=>∃σ' H',Inv X pins σ' H' s'/\D.nx σ' H'
 | .brk=>∃σ' H',Inv X pins σ' H' s'/\D.bk σ' H'
 | .cont=>∃σ' H',Inv X pins σ' H' s'/\D.ct σ' H'
 | .ret u=>∃v σ' H',Inv X pins σ' H' s'/\zbp v u/\D.rt v H'
def PE(X:Cx)(e:Expr)(t:TE):Prop :=
 ∀(pins:Z3) (s:Shared) (σ:St) (H:Hp) (Q:VK),Inv X pins σ H s->t σ H Q->wpAny (model X.prog X.w) X.A (eval e X.env) (EP X pins σ Q) X.xe s
def PT(X:Cx)(e:Expr)(t:TT):Prop :=
 ∀(pins:Z3) (s:Shared) (σ:St) (H:Hp) (Q:Bool->Hp->Prop),Inv X pins σ H s->t σ H Q->wpAny (model X.prog X.w) X.A (isTrue e X.env (eval e X.env)) (TP X pins σ Q) X.xe s
def PW(X:Cx)(e:Expr)(t:TT):Prop :=
 ∀(whole:Sem Value) (pins:Z3) (s:Shared) (σ:St) (H:Hp) (Q:Bool->Hp->Prop),Inv X pins σ H s->t σ H Q->wpAny (model X.prog X.w) X.A (isTrue e X.env whole) (TP X pins σ Q) X.xe s
theorem PW.pt{X:Cx}{e:Expr}{t:TT}(h:PW X e t):PT X e t:=h _
def PA(X:Cx)(es:List Expr)(t:TA):Prop :=
 ∀(pos:Pos) (pins:Z3) (s:Shared) (σ:St) (H:Hp) (Q:List V->Hp->Prop),Inv X pins σ H s->t σ H Q->wpAny (model X.prog X.w) X.A (spliced (backTo pos (starEach es X.env))) (AP X pins σ Q) X.xe s
def PS(X:Cx)(st:Stmt)(t:TS):Prop :=
 ∀(pins:Z3) (s:Shared) (σ:St) (H:Hp) (D:Ends),Inv X pins σ H s->t D σ H->wpAny (model X.prog X.w) X.A (exec st X.env) (SP X pins D) X.xe s
def PSs(X:Cx)(st:List Stmt)(t:TS):Prop :=
 ∀(pins:Z3) (s:Shared) (σ:St) (H:Hp) (D:Ends),Inv X pins σ H s->t D σ H->wpAny (model X.prog X.w) X.A (execs st X.env) (SP X pins D) X.xe s
theorem thn{α:Type}{t:Sem α}{Q Q':α->Shared->Prop}{M:Model}{A:Around}{E:Z5}{s:Shared}(h:wpAny M A t Q E s)(hQ:∀a s,Q a s->Q' a s):wpAny M A t Q' E s:=wpAny_mono h hQ fun _ _ x=>x
end L2
namespace L2
open PySem PySem.Spec PyProof.Rows
section
variable{X:Cx}
def zwr(i:Nat):TE:=fun σ H Q=>∃v,σ[i]?=some (some v)/\Q v H
def tC(v:V):TE:=fun _ H Q=>Q v H
theorem zeT{i:Nat}{x:Str}{pos:Pos}(hN:X.N[i]?=some x)(hv:Vis X.env.scope x)(hd:(x == ("__debug__":Str))=false:=by decide)(hcd:(x == ("__classdict__":Str))=false:=by decide):PE X (.Name x pos) (zwr i):=by
 intro pins s σ H Q I h;obtain ⟨v,e,h⟩:=h;obtain ⟨m,hn,hl⟩:=I.loc;obtain ⟨u,r,l⟩:=hl i x v hN e hv;have fin:EP X pins σ Q u s:=⟨v,H,I,r,h⟩
 rcases l with ⟨hk,hm⟩ | ⟨hk,c,hc,hcell⟩
 ·exact wpAny_Name (wpAny_loadName_local I.ok.kind hk hn hm fin) hd
 ·rcases hk with hk | hk
  ·exact wpAny_Name (wpAny_loadName_cell I.ok.kind hk hc hcell fin) hd
  ·exact wpAny_Name (wpAny_loadName_free I.ok.kind hk hc hcell fin hcd) hd
theorem zqv{i j pos}:PE X (.Constant (.int i) j pos) (tC (.int i)):=fun _ _ _ H _ I h=>wpAny_Constant_int ⟨.int i,H,I.tok _,⟨_,rfl⟩,h⟩
theorem zsZ{b j pos}:PE X (.Constant (.bool b) j pos) (tC (.bl b)):=fun _ _ _ H _ I h=>Constant_bool ⟨.bl b,H,I,rfl,h⟩
theorem zqs{j pos}:PE X (.Constant .none j pos) (tC .non):=fun _ _ _ H _ I h=>Constant_none ⟨.non,H,I,rfl,h⟩
theorem zqn{x j pos}:PE X (.Constant (.str x) j pos) (tC (.str x)):=fun _ _ _ H _ I h=>Calls.Constant_str ⟨.str x,H,I.tok _,⟨_,rfl⟩,h⟩
def Gl(X:Cx)(x:Str):Prop:=X.env.kindOf x=some .globalImplicit
theorem ze1{E:Z5}{pins:Z3}{s:Shared}{σ:St}{H:Hp}{x:Str}{u:Value}{pos:Pos}{Q:Z5}(I:Inv X pins σ H s)(hg:Gl X x)(hm:X.mg x=some u)(h:Q u s)
  (hd:(x == ("__debug__":Str))=false:=by decide):wpAny (model X.prog X.w) X.A (eval (.Name x pos) X.env) Q E s :=
 Calls.Name_function_global I.ok.kind hg (Calls.loadGlobal_global (by rw [I.ok.glob];exact I.mod.glob.keeps I.bk) hm h) hd
theorem ze2{E:Z5}{pins:Z3}{s:Shared}{σ:St}{H:Hp}{x:Str}{u:Value}{pos:Pos}{Q:Z5}(I:Inv X pins σ H s)(hg:Gl X x)(hm:X.mg x=none)(hv:bootBuiltins x=some u)(h:Q u s)
  (hn:x ≠ "__name__":=by decide) (hd:(x == ("__debug__":Str))=false:=by decide):wpAny (model X.prog X.w) X.A (eval (.Name x pos) X.env) Q E s:=by
 obtain ⟨mb,h1,h2⟩:=I.mod.blt;exact Calls.Name_function_global I.ok.kind hg (Calls.loadGlobal_builtin (by rw [I.ok.glob];exact I.mod.glob.keeps I.bk) hm (by rw [I.ok.blt];exact h1.keeps I.bk) ((h2 x hn).trans hv) h) hd
theorem zn8{x:Str}{v:V}{u:Value}{pos:Pos}(hg:Gl X x)(hm:X.mg x=some u)(r:zbp v u)(hd:(x == ("__debug__":Str))=false:=by decide):PE X (.Name x pos) (tC v) :=
 fun _ _ _ H _ I h=>ze1 I hg hm ⟨v,H,I,r,h⟩ hd
theorem zoa{x:Str}{v:V}{u:Value}{pos:Pos}(hg:Gl X x)(hm:X.mg x=none)(hv:bootBuiltins x=some u)(r:zbp v u)(hn:x ≠ "__name__":=by decide)(hd:(x == ("__debug__":Str))=false:=by decide):PE X (.Name x pos) (tC v) :=
 fun _ _ _ H _ I h=>ze2 I hg hm hv ⟨v,H,I,r,h⟩ hn hd
variable{a b:Expr}{ta tb:TE}{pos:Pos}
def tB(t:TE):TT:=fun σ H Q=>t σ H fun x H1=>∃c,x=.bl c/\Q c H1
theorem zqe{e:Expr}{t:TE}(h:PE X e t)(he:∀whole,isTrue e X.env whole=(do let v ← whole;standAt e.pos;holding [v] (truthy v)):=by intro _;rfl):PT X e (tB t):=by
 intro pins s σ H Q I hw;refine isTrue_plain (thn (h pins s σ H _ I hw) fun v s1 ⟨x,H1,I1,r1,q1⟩=>?_) (he _);obtain ⟨d,rfl,q⟩:=q1;cases r1;exact wpAny_truthy_bool ⟨H1,I1,q⟩
variable{tA tB':TT}{zcf:List Expr}
def zuE(t u:TT):TT:=fun σ H Q=>t σ H fun c H1=>if c=true then u σ H1 Q else Q false H1
def tOr(t u:TT):TT:=fun σ H Q=>t σ H fun c H1=>if c=true then Q true H1 else u σ H1 Q
def zuC(t:TT):TT:=fun σ H Q=>t σ H fun c H1=>Q (!c) H1
theorem znX(ha:PT X a tA):PW X (.BoolOp .And [a] pos) tA:=by
 intro wh pins s σ H Q I h;refine isTrue_and (thn (ha pins s σ H Q I h) fun c s1 e=>?_)
 cases c with
 | true=>exact isTrue_and_nil e
 | false=>exact e
theorem zqb(ha:PT X a tA):PW X (.BoolOp .Or [a] pos) tA:=by
 intro wh pins s σ H Q I h;refine isTrue_or (thn (ha pins s σ H Q I h) fun c s1 e=>?_)
 cases c with
 | false=>exact isTrue_or_nil e
 | true=>exact e
theorem zqc(ha:PT X a tA)(hb:PW X (.BoolOp .And (b::zcf) pos) tB'):PW X (.BoolOp .And (a::b::zcf) pos) (zuE tA tB'):=by
 intro wh pins s σ H Q I h;refine isTrue_and (thn (ha pins s σ H _ I h) fun c s1 ⟨H1,I1,q1⟩=>?_)
 cases c with
 | true=>exact hb wh pins s1 σ H1 Q I1 q1
 | false=>exact ⟨H1,I1,q1⟩
theorem zsS(ha:PT X a tA)(hb:PW X (.BoolOp .Or (b::zcf) pos) tB'):PW X (.BoolOp .Or (a::b::zcf) pos) (tOr tA tB'):=by
 intro wh pins s σ H Q I h;refine isTrue_or (thn (ha pins s σ H _ I h) fun c s1 ⟨H1,I1,q1⟩=>?_)
 cases c with
 | true=>exact ⟨H1,I1,q1⟩
 | false=>exact hb wh pins s1 σ H1 Q I1 q1
theorem zqf(ha:PT X a tA):PT X (.UnaryOp .Not a pos) (zuC tA):=by
 intro pins s σ H Q I h;exact isTrue_not (ha pins s σ H (fun c H1=>Q (!c) H1) I h)
def zsC(ta tb:TE):TE:=fun σ H Q=>ta σ H fun x H1=>∃c,x=.bl c/\if c=true then tb σ H1 Q else Q (.bl false) H1
def zww(ta tb:TE):TE:=fun σ H Q=>ta σ H fun x H1=>∃c,x=.bl c/\if c=true then Q (.bl true) H1 else tb σ H1 Q
def zst(ta:TE):TE:=fun σ H Q=>ta σ H fun x H1=>∃c,x=.bl c/\Q (.bl (!c)) H1
theorem zqq{op}{t:TE}(h:PE X a t):PE X (.BoolOp op [a] pos) t:=fun pins s σ H Q I hw=>BoolOp_one (h pins s σ H Q I hw)
theorem zqw(ha:PE X a ta)(hb:PE X (.BoolOp .And (b::zcf) pos) tb):PE X (.BoolOp .And (a::b::zcf) pos) (zsC ta tb):=by
 intro pins s σ H Q I h;refine BoolOp_and (thn (ha pins s σ H _ I h) fun v s1 ⟨x,H1,I1,r1,q1⟩=>?_);obtain ⟨c,rfl,q1⟩:=q1;cases r1;refine wpAny_truthy_bool ?_
 cases c with
 | true=>exact hb pins s1 σ H1 Q I1 q1
 | false=>exact ⟨.bl false,H1,I1,rfl,q1⟩
theorem zsX(ha:PE X a ta)(hb:PE X (.BoolOp .Or (b::zcf) pos) tb):PE X (.BoolOp .Or (a::b::zcf) pos) (zww ta tb):=by
 intro pins s σ H Q I h;refine BoolOp_or (thn (ha pins s σ H _ I h) fun v s1 ⟨x,H1,I1,r1,q1⟩=>?_);obtain ⟨c,rfl,q1⟩:=q1;cases r1;refine wpAny_truthy_bool ?_
 cases c with
 | false=>exact hb pins s1 σ H1 Q I1 q1
 | true=>exact ⟨.bl true,H1,I1,rfl,q1⟩
theorem zqr(ha:PE X a ta):PE X (.UnaryOp .Not a pos) (zst ta):=by
 intro pins s σ H Q I h;refine UnaryOp_ (thn (ha pins s σ H _ I h) fun v s1 ⟨x,H1,I1,r1,q1⟩=>?_);obtain ⟨c,rfl,q1⟩:=q1;cases r1;exact not_of (wpAny_truthy_bool ⟨.bl (!c),H1,I1,rfl,q1⟩)
def tIf(t:TT)(ta tb:TE):TE:=fun σ H Q=>t σ H fun c H1=>if c=true then ta σ H1 Q else tb σ H1 Q
theorem zlS{c:Expr}(hc:PT X c tA)(ha:PE X a ta)(hb:PE X b tb):PE X (.IfExp c a b pos) (tIf tA ta tb):=by
 intro pins s σ H Q I h;refine wpAny_IfExp (thn (hc pins s σ H _ I h) fun d s1 ⟨H1,I1,q1⟩=>?_)
 cases d with
 | true=>exact ha pins s1 σ H1 Q I1 q1
 | false=>exact hb pins s1 σ H1 Q I1 q1
end
end L2
namespace L2
open PySem PySem.Spec PyProof.Rows
def SqL(K:PySem.W.Frag)(H:Hp)(a:Addr)(xs:List V):Prop :=
 Rd H a (.lst xs) ∨
  ∃(o:Obj) (its:Array Value) (n:Nat),K.lookup a=some o/\o.cls=.type "list" /\ o.dict=none/\o.data=.seq its n/\its.size<=sizeLine/\Vals xs its.toList
def SqT(K:PySem.W.Frag)(H:Hp)(a:Addr)(xs:List V):Prop :=
 Rd H a (.tup xs) ∨
  ∃(o:Obj) (its:Array Value) (n:Nat),K.lookup a=some o/\o.cls=.type "tuple" /\ o.data=.seq its n/\its.size<=sizeLine/\Vals xs its.toList
def zxq:Value->Option V
 | .none=>some .non
 | .bool b=>some (.bl b)
 | .int i _=>some (.int i)
 | .str x _=>some (.str x)
 | .bytes b _=>some (.byt b)
 | .float b _=>some (.flt b)
 | .ref a=>some (.ref a)
 | .type n=>some (.ty n)
 | _=>none
theorem zbp.abs{x:V}{u:Value}(r:zbp x u):zxq u=some x:=by
 cases x with
 | non=>cases r;rfl
 | bl _=>cases r;rfl
 | int _=>obtain ⟨t,rfl⟩:=r;rfl
 | str _=>obtain ⟨t,rfl⟩:=r;rfl
 | byt _=>obtain ⟨t,rfl⟩:=r;rfl
 | flt _=>obtain ⟨t,rfl⟩:=r;rfl
 | ref _=>cases r;rfl
 | ty _=>cases r;rfl
theorem zbp.inj{x y:V}{u:Value}(r:zbp x u)(q:zbp y u):x=y:=Option.some.inj (r.abs.symm.trans q.abs)
theorem Vals.inj:∀{xs ys:List V} {us:List Value},Vals xs us->Vals ys us->xs=ys
 | _,_,_,.nil,.nil=>rfl
 | _,_,_,.cons r t,.cons r' t'=>by rw [r.inj r',Vals.inj t t']
section
variable{X:Cx}{pins:Z3}{σ:St}{H:Hp}{s:Shared}{a:Addr}{xs ys:List V}
theorem SqL.of{K:PySem.W.Frag}(h:H a=some (.lst xs)):SqL K H a xs:=.inl (.inl h)
theorem SqT.of{K:PySem.W.Frag}(h:H a=some (.tup xs)):SqT K H a xs:=.inl (.inl h)
theorem Inv.list(I:Inv X pins σ H s)(h:SqL X.K H a xs):∃its:List Value,Vals xs its/\PlainL s.heap a its.toArray/\xs.length<=sizeLine:=by
 rcases h with h | ⟨o,its,n,hk,hc,hd,hs,hz,r⟩
 ·obtain ⟨z,its,n,r,e⟩:=h.ok I.hok;exact ⟨its,r,⟨_,n,e,rfl,rfl,rfl⟩,z⟩
 ·refine ⟨its.toList,r,⟨o,n,I.kIn a o hk,hc,hd,by simpa using hs⟩,?_⟩;have e:=r.length;simp only [Array.length_toList] at e;omega
theorem Inv.tuple(I:Inv X pins σ H s)(h:SqT X.K H a xs):∃its:List Value,Vals xs its/\IsTup s.heap a its.toArray/\xs.length<=sizeLine:=by
 rcases h with h | ⟨o,its,n,hk,hc,hs,hz,r⟩
 ·obtain ⟨z,its,r,p⟩:=h.ok I.hok;exact ⟨its,r,p,z⟩
 ·refine ⟨its.toList,r,⟨o,I.kIn a o hk,hc,n,by simpa using hs⟩,?_⟩;have e:=r.length;simp only [Array.length_toList] at e;omega
theorem Inv.list_inj(I:Inv X pins σ H s)(h:SqL X.K H a xs)(h':SqL X.K H a ys):xs=ys:=by
 obtain ⟨its,r,⟨o,n,e,_,_,d⟩,_⟩:=I.list h;obtain ⟨its',r',⟨o',n',e',_,_,d'⟩,_⟩:=I.list h';rw [e] at e';cases e';rw [d] at d'
 injection d' with d1 _
 have:its=its':=by simpa using congrArg Array.toList d1
 subst this;exact r.inj r'
theorem Inv.tuple_inj(I:Inv X pins σ H s)(h:SqT X.K H a xs)(h':SqT X.K H a ys):xs=ys:=by
 obtain ⟨its,r,⟨o,e,_,n,d⟩,_⟩:=I.tuple h;obtain ⟨its',r',⟨o',e',_,n',d'⟩,_⟩:=I.tuple h';rw [e] at e';cases e';rw [d] at d'
 injection d' with d1 _
 have:its=its':=by simpa using congrArg Array.toList d1
 subst this;exact r.inj r'
end
section
variable{X:Cx}{pins:Z3}{σ:St}{H:Hp}{s:Shared}{E:Z5}
end
section
variable{X:Cx}{st:Stmt}{zcf:List Stmt}{t u:TS}{e:Expr}{te:TE}{pos:Pos}
def zpu:TS:=fun D σ H=>D.nx σ H
def zwt(t u:TS):TS:=fun D σ H=>t { D with nx:=u D } σ H
theorem znY:PSs X [] zpu:=fun _ _ σ H _ I h=>wpAny_execs_nil ⟨σ,H,I,h⟩
theorem zlJ(h1:PS X st t)(h2:PSs X zcf u):PSs X (st::zcf) (zwt t u):=by
 intro pins s σ H D I h;refine wpAny_execs_cons (thn (h1 pins s σ H { D with nx:=u D } I h) fun f s1 q=>?_)
 cases f with
 | next =>
  obtain ⟨σ',H',I',q⟩:=q;exact h2 pins s1 σ' H' D I' q
 | ret v=>exact q
 | brk=>exact q
 | cont=>exact q
theorem zsU(h1:PS X st t):PSs X [st] t:=by
 intro pins s σ H D I h;refine wpAny_execs_cons (thn (h1 pins s σ H D I h) fun f s1 q=>?_)
 cases f with
 | next=>exact wpAny_execs_nil q
 | ret v=>exact q
 | brk=>exact q
 | cont=>exact q
def zpw:TS:=fun D σ H=>D.bk σ H
theorem zn0:PS X (.Pass pos) zpu:=fun _ _ σ H _ I h=>wpAny_Pass ⟨σ,H,I,h⟩
theorem zlM:PS X (.Break pos) zpw:=fun _ _ σ H _ I h=>wpAny_Break ⟨σ,H,I,h⟩
theorem Inv.quiet{pins:Z3}{σ:St}{H:Hp}{s:Shared}(I:Inv X pins σ H s):interactive X.env=false:=by simp [interactive,I.ok.kind]
def zsy(te:TE):TS:=fun D σ H=>te σ H fun _ H1=>D.nx σ H1
theorem zjZ(he:PE X e te)(hs:swapsWith e none pos.line X.env=pure false:=by rfl):PS X (.Expr e pos) (zsy te):=by
 intro pins s σ H D I h;exact wpAny_Expr_any (thn (he pins s σ H _ I h) fun v s1 ⟨x,H1,I1,r1,q1⟩=>⟨σ,H1,I1,q1⟩) I.quiet hs
def zwv(te:TE):TS:=fun D σ H=>te σ H D.rt
theorem zjX(he:PE X e te):PS X (.Return (some e) pos) (zwv te):=by
 intro pins s σ H D I h;exact wpAny_Return_some (thn (he pins s σ H _ I h) fun v s1 ⟨x,H1,I1,r1,q1⟩=>⟨x,σ,H1,I1,r1,q1⟩)
def zss:TS:=fun D _ H=>D.rt .non H
theorem znZ:PS X (.Return none pos) zss:=fun _ _ σ H _ I h=>wpAny_Return_none ⟨.non,σ,H,I,rfl,h⟩
def zwy(c:TT)(t u:TS):TS:=fun D σ H=>c σ H fun b H1=>if b=true then t D σ H1 else u D σ H1
theorem zsV{c:Expr}{a b:List Stmt}{tc:TT}(hc:PT X c tc)(ha:PSs X a t)(hb:PSs X b u):PS X (.If c a b pos) (zwy tc t u):=by
 intro pins s σ H D I h;refine wpAny_If (thn (hc pins s σ H _ I h) fun d s1 ⟨H1,I1,q1⟩=>?_)
 cases d with
 | true=>exact ha pins s1 σ H1 D I1 q1
 | false=>exact hb pins s1 σ H1 D I1 q1
end
abbrev TG:=V->St->Hp->(St->Hp->Prop)->Prop
abbrev TGs:=List V->St->Hp->(St->Hp->Prop)->Prop
def PG(X:Cx)(target:Expr)(t:TG):Prop :=
 ∀(pins:Z3) (s:Shared) (σ:St) (H:Hp) (v:V) (u:Value) (Q:St->Hp->Prop),Inv X pins σ H s->zbp v u->t v σ H Q →
  wpAny (model X.prog X.w) X.A (assign target X.env u) (fun _ s'=>∃σ' H',Inv X pins σ' H' s'/\Q σ' H') X.xe s
def PGs(X:Cx)(ts:List Expr)(t:TGs):Prop :=
 ∀(pins:Z3) (s:Shared) (σ:St) (H:Hp) (vs:List V) (us:List Value) (Q:St->Hp->Prop),Inv X pins σ H s->Vals vs us->t vs σ H Q →
  wpAny (model X.prog X.w) X.A (assignInOrder ((assignEach ts X.env).map (·.2)) us) (fun _ s'=>∃σ' H',Inv X pins σ' H' s'/\Q σ' H') X.xe s
abbrev TSet:=V->V->V->Hp->(Hp->Prop)->Prop
def zvQ(X:Cx)(t:TSet):Prop :=
 ∀(pins:Z3) (s:Shared) (σ:St) (H:Hp) (o i v:V) (ov iv u:Value) (Q:Hp->Prop),Inv X pins σ H s->zbp o ov->zbp i iv->zbp v u->t o i v H Q →
  wpAny (model X.prog X.w) X.A (setItem ov iv u) (fun _ s'=>∃H',Inv X pins σ H' s'/\Q H') X.xe s
abbrev TIp:=V->V->Hp->VK->Prop
def PIp(X:Cx)(op:Operator)(t:TIp):Prop :=
 ∀(pins:Z3) (s:Shared) (σ:St) (H:Hp) (x y:V) (v u:Value) (Q:VK),Inv X pins σ H s->zbp x v->zbp y u->t x y H Q →
  wpAny (model X.prog X.w) X.A (inplaceOp op v u) (EP X pins σ Q) X.xe s
section
variable{X:Cx}{pos:Pos}
def zkJ(i:Nat):TG:=fun v σ H Q=>Q (σ.set i (some v)) H
theorem zj5{i:Nat}{x:Str}(hN:X.N.Nodup)(hi:X.N[i]?=some x)(hx:Loc X.env.scope x)(hf:X.fn x=true\/X.env.scope.names.lookup x=some .local:=by first | exact .inl rfl | exact .inr rfl | assumption):PG X (.Name x pos) (zkJ i):=by
 intro pins s σ H v u Q I r h;exact wpAny_assign_Name (zfQ I hN hi hx r (fun s' I'=>⟨_,H,I',h⟩) hf)
def zxk:TGs:=fun vs σ H Q=>vs=[]/\Q σ H
def ztx(t:TG)(u:TGs):TGs:=fun vs σ H Q=>∃v r,vs=v::r/\t v σ H fun σ' H'=>u r σ' H' Q
theorem zn7:PGs X [] zxk:=by
 intro pins s σ H vs us Q I r h;obtain ⟨e,h⟩:=h;subst e;cases r;exact assignInOrder_nil ⟨σ,H,I,h⟩
theorem zlP{e:Expr}{es:List Expr}{t:TG}{u:TGs}(h1:PG X e t)(h2:PGs X es u)
  (hs:(assignEach (e::es) X.env).map (·.2)=assign e X.env::(assignEach es X.env).map (·.2):=by rfl):PGs X (e::es) (ztx t u):=by
 intro pins s σ H vs us Q I r h;obtain ⟨v,vr,e1,h⟩:=h;subst e1
 cases r with
 | cons r rr =>
  rw [hs];refine assignInOrder_cons (thn (h1 pins s σ H _ _ _ I r h) fun _ s1 ⟨σ1,H1,I1,q1⟩=>?_);exact h2 pins s1 σ1 H1 _ _ Q I1 rr q1
def zxi(K:PySem.W.Frag)(n:Nat)(t:TGs):TG:=fun v σ H Q=>∃a xs,v=.ref a/\SqT K H a xs/\xs.length=n/\t xs σ H Q
theorem zqk{es:List Expr}{k:Nat}{t:TGs}{n:Nat}(hc:X.calm=true)(h:PGs X es t)
  (hn:(assignEach es X.env).length=n:=by rfl) (hst:(assignEach es X.env).findIdx? (·.1)=none:=by rfl):PG X (.Tuple es k pos) (zxi X.K n t):=by
 intro pins s σ H v u Q I r hw;obtain ⟨a,xs,e1,hq,hl,hw⟩:=hw;subst e1;cases r;obtain ⟨its,rv,ht,hz⟩:=I.tuple hq;refine assign_Tuple_tuple (I.ok.hd hc) ht (by simp [hn,<-hl,rv.length]) hst fun h' hx=>?_
 have I1:Inv X pins σ H { s with heap:=h' }:=I.kept (t':=s.toks) fun b o e=>hx b o (Nat.ne_of_lt (Heap.lt_size e)) e
 exact h pins _ σ H xs _ Q I1 (by simpa using rv) hw
def zxj(to ti:TE)(t:TSet):TG:=fun v σ H Q=>to σ H fun o H1=>ti σ H1 fun i H2=>t o i v H2 fun H3=>Q σ H3
theorem zql{o i:Expr}{to ti:TE}{t:TSet}(ho:PE X o to)(hi:PE X i ti)(hs:zvQ X t)
  (ha:∀v,assign (.Subscript o i pos) X.env v=(do
   let ov ← holding [v] (eval o X.env)
   let iv ← holding [v,ov] (eval i X.env)
   standAt pos
   holding [v,ov,iv] (setItem ov iv v)
   release [v,ov,iv] []):=by intro _;rfl):PG X (.Subscript o i pos) (zxj to ti t):=by
 intro pins s σ H v u Q I r h;rw [ha];refine wpAny_bind (wpAny_holding (thn (ho pins s σ H _ I h) fun ov s1 ⟨x,H1,I1,r1,q1⟩=>?_));refine wpAny_bind (wpAny_holding (thn (hi pins s1 σ H1 _ I1 q1) fun iv s2 ⟨y,H2,I2,r2,q2⟩=>?_));refine wpAny_bind (wpAny_standAt (wpAny_bind (wpAny_holding (thn (hs pins s2 σ H2 x y v ov iv u _ I2 r1 r2 r q2) fun _ s3 ⟨H3,I3,q3⟩=>?_))));exact wpAny_release ⟨σ,H3,I3,q3⟩
def zpc(te:TE)(g:TG):TS:=fun D σ H=>te σ H fun x H1=>g x σ H1 D.nx
theorem zmW{tg e:Expr}{te:TE}{g:TG}(he:PE X e te)(hg:PG X tg g)(hs:swapsWithSole [tg] e pos.line X.env=pure false:=by rfl)(hw:swappedStores [tg] e X.env=pure none:=by rfl)
  (h1:(assignEach [tg] X.env).map (·.2)=[assign tg X.env]:=by rfl):PS X (.Assign [tg] e pos) (zpc te g):=by
 intro pins s σ H D I h;refine wpAny_Assign_stores (thn (he pins s σ H _ I h) fun v s1 ⟨x,H1,I1,r1,q1⟩=>?_) hs hw;rw [h1];exact thn (hg pins s1 σ H1 x v _ I1 r1 q1) fun _ s2 q=>q
theorem zmU{i:Nat}{x:Str}{e:Expr}{te:TE}{pos':Pos}(hN:X.N.Nodup)(hi:X.N[i]?=some x)(hx:Loc X.env.scope x)(he:PE X e te)(hs:swapsWith e (some (.Name x pos')) pos.line X.env=pure false:=by rfl)(hf:X.fn x=true\/X.env.scope.names.lookup x=some .local:=by first | exact .inl rfl | exact .inr rfl | assumption) :
  PS X (.Assign [.Name x pos'] e pos) (zpc te (zkJ i)):=by
 intro pins s σ H D I h;refine wpAny_Assign_Name (thn (he pins s σ H _ I h) fun v s1 ⟨y,H1,I1,r1,q1⟩=>?_) hs;exact zfQ I1 hN hi hx r1 (fun s2 I2=>⟨_,H1,I2,q1⟩) hf
def zxA(i j:Nat)(ta:TA):TS:=fun D σ H=>ta σ H fun vs H1=>∃v w,vs=[v,w]/\D.nx ((σ.set i (some v)).set j (some w)) H1
def zwA(i:Nat)(te:TE)(ti:TIp):TS:=fun D σ H=>∃x,σ[i]?=some (some x)/\te σ H fun y H1=>ti x y H1 fun z H2=>D.nx (σ.set i (some z)) H2
theorem zqh{i:Nat}{x:Str}{e:Expr}{te:TE}{op:Operator}{ti:TIp}{pos':Pos}(hN:X.N.Nodup)(hi:X.N[i]?=some x)(hx:Loc X.env.scope x)(he:PE X e te)(ho:PIp X op ti)(hf:X.fn x=true\/X.env.scope.names.lookup x=some .local:=by first | exact .inl rfl | exact .inr rfl | assumption) :
  PS X (.AugAssign (.Name x pos') op e pos) (zwA i te ti):=by
 intro pins s σ H D I h;obtain ⟨v,e1,h⟩:=h;obtain ⟨m,hn,hl⟩:=I.loc
 have vis:Vis X.env.scope x:=by rcases hx with k | k;exact .inl k;exact .inr (.inl k)
 obtain ⟨u,r,l⟩:=hl i x v hi e1 vis;refine wpAny_AugAssign_Name ?_
 have go:wpAny (model X.prog X.w) X.A (eval e X.env) (fun w s₂=>wpAny (model X.prog X.w) X.A (inplaceOp op u w) (fun r s₃=>wpAny (model X.prog X.w) X.A (storeName X.env x r) (fun _=>SP X pins D .next) X.xe s₃) X.xe s₂) X.xe s:=by
  refine thn (he pins s σ H _ I h) fun w s1 ⟨y,H1,I1,r1,q1⟩=>?_
  refine thn (ho pins s1 σ H1 v y u w _ I1 r r1 q1) fun z s2 ⟨zv,H2,I2,r2,q2⟩=>?_
  exact zfQ I2 hN hi hx r2 (fun s3 I3=>⟨_,H2,I3,q2⟩) hf
 rcases l with ⟨hk,hm⟩ | ⟨hk,c,hc,hcell⟩
 ·exact wpAny_loadName_local I.ok.kind hk hn hm go
 ·rcases hk with hk | hk
  ·exact wpAny_loadName_cell I.ok.kind hk hc hcell go
  ·rcases hx with k | k
   ·have:X.env.scope.names.lookup x=some .free:=hk;rw [k] at this;cases this
   ·have:X.env.scope.names.lookup x=some .free:=hk;rw [k] at this;cases this
end
section
variable{X:Cx}{pos:Pos}
def zpr(c:TT)(tb:TS):TS:=fun D σ H=>∃W:Nat->St->Hp->Prop,(∃m,W m σ H)/\∀m σ H,W m σ H →
 c σ H fun b H1=>if b=true then ∃N:St->Hp->Prop,(∀σ' H',N σ' H'->∃m',m'<m/\W m' σ' H')/\tb { D with nx:=N,ct:=N,bk:=D.nx } σ H1 else D.nx σ H1
theorem zlK{c:Expr}{body:List Stmt}{tc:TT}{tb:TS}(hp:PassesOwn (model X.prog X.w) X.A X.env X.xe)(hc:PT X c tc)(hb:PSs X body tb):PS X (.While c body [] pos) (zpr tc tb):=by
 intro pins s σ H D I h;obtain ⟨W,⟨m0,w0⟩,turn⟩:=h;refine wpAny_While (codeAny_whileLoop (fun n s'=>∃σ' H',Inv X pins σ' H' s'/\W n σ' H') ?_ m0 ⟨σ,H,I,w0⟩);rintro n s1 ⟨σ1,H1,I1,w1⟩;refine wpAny_passesOwn hp (thn (hc pins s1 σ1 H1 _ I1 (turn n σ1 H1 w1)) fun b s2 ⟨H2,I2,q2⟩=>?_)
 cases b with
 | true =>
  obtain ⟨N,hN,q2⟩:=q2;rw [if_pos rfl];refine wpAny_passesOwn hp (thn (hb pins s2 σ1 H2 _ I2 q2) fun f s3 q3=>?_)
  cases f with
  | next =>
   obtain ⟨σ3,H3,I3,n3⟩:=q3;obtain ⟨m',hm,w3⟩:=hN σ3 H3 n3;exact ⟨m',hm,σ3,H3,I3,w3⟩
  | cont =>
   obtain ⟨σ3,H3,I3,n3⟩:=q3;obtain ⟨m',hm,w3⟩:=hN σ3 H3 n3;exact ⟨m',hm,σ3,H3,I3,w3⟩
  | brk=>exact q3
  | ret v=>exact q3
 | false =>
  rw [if_neg Bool.false_ne_true];exact wpAny_execs_nil ⟨σ1,H2,I2,q2⟩
end
structure It where
 go:Nat->Hp->Prop
 yld:Nat->Hp->V->Hp->Prop
 stop:Nat->Hp->Prop
def zlp(X:Cx)(pins:Z3)(H:Hp)(b:Addr):Prop :=
 H b=none/\b≠X.env.locals/\b ∉ X.fs/\(b∈X.ex\/X.s₀.heap.objs.size<=b)/\(∀x c,X.env.cells.lookup x=some c->c≠b)/\∀p∈X.pn++pins,p.1≠b
theorem Inv.fpOk{X:Cx}{pins:Z3}{σ:St}{H H':Hp}{s:Shared}{b:Addr}(I:Inv X pins σ H s)(hb:s.heap.objs.size<=b)(hn:H' b=none):zlp X pins H' b:=by
 refine ⟨hn,Nat.ne_of_gt (Nat.lt_of_lt_of_le I.lt hb),I.nofs hb,.inr (Nat.le_trans I.sz hb),fun x c e z=>?_,fun p hp z=>?_⟩
 ·obtain ⟨v,q⟩:=I.cell x c e;exact absurd (Nat.lt_of_lt_of_le q.lt (by rw [z];exact hb)) (Nat.lt_irrefl _)
 ·exact absurd (Nat.lt_of_lt_of_le (Heap.lt_size (I.pin p hp).1) (by rw [z];exact hb)) (Nat.lt_irrefl _)
structure Turn(P:Program)(w:World)(K:PySem.W.Frag)(tg:Expr)(J:It)(fp:List Addr)(it:Addr)(tn:Nat->Heap->Prop):Prop where
 mem:it∈fp
 obj:∀i h,tn i h->∀b∈fp,∃o,h.get? b=some o/\∀v,o.data≠.cell v
 keep:∀i h h',tn i h->(∀b∈fp,∀o,h.get? b=some o->h'.get? b=some o)->tn i h'
 item:∀(X:Cx),X.prog=P->X.w=w->X.K=K->X.calm=true->∀(i:Nat) (pins:Z3) (s:Shared) (σ:St) (H:Hp) (E:Z5),Inv X pins σ H s->(∀b∈fp,zlp X pins H b)->tn i s.heap->J.go i H →
  wpAny (model P w) X.A (pyNext (.ref it)) (fun r s1=>∃u,r=some u ∧
   wpAny (model P w) X.A (letOwnedTupleGo tg (.ref it) u) (fun _ s2=>∃x H',Inv X pins σ H' s2/\zbp x u/\J.yld i H x H'/\tn (i+1) s2.heap/\∀b∈fp,H' b=none) E s1) E s
 done:∀(X:Cx),X.prog=P->X.w=w->X.K=K->X.calm=true->∀(i:Nat) (pins:Z3) (s:Shared) (σ:St) (H:Hp) (E:Z5),Inv X pins σ H s->(∀b∈fp,zlp X pins H b)->tn i s.heap->J.stop i H →
  wpAny (model P w) X.A (pyNext (.ref it)) (fun r s1=>r=none/\Inv X pins σ H s1) E s
 self:∀(A:Around) (i:Nat) (s:Shared) (Q:Z5) (E:Z5),tn i s.heap->Q (.ref it) s->wpAny (model P w) A (pyIter (.ref it)) Q E s
abbrev TI:=St->Hp->(It->Hp->Prop)->Prop
def PIE(X:Cx)(pins:Z3)(σ:St)(tg:Expr)(R:It->Hp->Prop)(itv:Value)(s2:Shared):Prop :=
 ∃(it:Addr) (fp:List Addr) (tn:Nat->Heap->Prop) (J:It) (H':Hp),itv=.ref it/\Inv X pins σ H' s2/\Turn X.prog X.w X.K tg J fp it tn/\tn 0 s2.heap/\(∀b∈fp,zlp X pins H' b)/\R J H'
def PI(X:Cx)(tg iter:Expr)(wi:TI):Prop :=
 ∀(pins:Z3) (s:Shared) (σ:St) (H:Hp) (R:It->Hp->Prop),Inv X pins σ H s->wi σ H R →
  wpAny (model X.prog X.w) X.A (eval iter X.env) (fun v s1=>wpAny (model X.prog X.w) X.A (pyIter v) (PIE X pins σ tg R) X.xe s1) X.xe s
theorem zoD {M : Model} {A : Around} {E : Z5} {s : Shared} {tg : Expr} {it : Addr} {u : Value} {o : Obj} {n : String} {vs : Array Value} {Q : Unit -> Shared -> Prop} (ho : s.heap.get? it = some o) (hc : o.cls = .type n) (hd : o.data = .fields vs)
    (hn : ["enumerate", "zip", "dict_itemiterator", "dict_reverseitemiterator", "odict_iterator", "itertools.zip_longest", "itertools.pairwise"].contains n = false) (hQ : Q () s) : wpAny M A (letOwnedTupleGo tg (.ref it) u) Q E s := by
  unfold letOwnedTupleGo
  cases tg <;> first
    | exact wpAny_pure hQ
    | (cases u <;> first
        | exact wpAny_pure hQ
        | (refine wpAny_bind (wpAny_load ho ?_)
           rw [hc, hd];show wpAny M A (if (["enumerate", "zip", "dict_itemiterator", "dict_reverseitemiterator", "odict_iterator", "itertools.zip_longest", "itertools.pairwise"].contains n && vs[0]? == some (rawInt _)) = true then _ else _) Q E s;rw [if_neg (by intro h; rw [hn, Bool.false_and] at h; cases h)]
           exact wpAny_pure hQ))
def Itl(K:PySem.W.Frag)(a:Addr):It :=
 ⟨fun i H=>∃xs x,SqL K H a xs/\xs[i]?=some x,fun i H x H'=>H'=H/\∀xs,SqL K H a xs->xs[i]?=some x,fun i H=>∃xs,SqL K H a xs/\xs.length<=i⟩
def Itt(K:PySem.W.Frag)(a:Addr):It :=
 ⟨fun i H=>∃xs x,SqT K H a xs/\xs[i]?=some x,fun i H x H'=>H'=H/\∀xs,SqT K H a xs->xs[i]?=some x,fun i H=>∃xs,SqT K H a xs/\xs.length<=i⟩
def Itr(lo:Int)(n:Nat):It:=⟨fun i _=>i<n,fun i H x H'=>H'=H/\x=.int (lo+i),fun i _=>n<=i⟩
theorem zji{P:Program}{w:World}{K:PySem.W.Frag}{tg:Expr}(a it:Addr):Turn P w K tg (Itl K a) [it] it (fun i h=>h.IsListIter it a i) where
 mem:=by simp
 obj:=fun i h st b hb=>by
  have e:b=it:=by simpa using hb
  subst e;obtain ⟨o,e,c,d⟩:=st;exact ⟨o,e,fun v z=>by rw [d] at z;cases z⟩
 keep:=fun i h h' st k=>st.at fun o e=>k it (by simp) o e
 item:=by
  intro X hP hw hK hc i pins s σ H E I hf st hg;subst hP hw hK;obtain ⟨xs,x,hq,hx⟩:=hg;obtain ⟨its,rv,p,hz⟩:=I.list hq;obtain ⟨u,hu,ru⟩:=rv.get hx;obtain ⟨f0,f1,f2,f3,f4,f5⟩:=hf it (by simp);refine wpAny_pyNext_list_item st p.isList (x:=u) (by simpa using hu) fun h' st' sb=>?_
  have I1:Inv X pins σ H { s with heap:=h' }:=I.turned (t':=s.toks) (fun b o hb e=>(sb.2 b hb).trans e) f0 f1 f3 f4 f5;obtain ⟨o,e,c,d⟩:=id st';exact ⟨u,rfl,zoD (s:={ s with heap:=h' }) e c d (by decide) ⟨x,H,I1,ru,⟨rfl,fun ys hy=>by rw [I.list_inj hy hq];exact hx⟩,st',fun b hb=>(hf b hb).1⟩⟩
 done:=by
  intro X hP hw hK hc i pins s σ H E I hf st hg;subst hP hw hK;obtain ⟨xs,hq,hx⟩:=hg;obtain ⟨its,rv,p,hz⟩:=I.list hq;obtain ⟨f0,f1,f2,f3,f4,f5⟩:=hf it (by simp);have hl:=rv.length;exact wpAny_pyNext_list_end (I.ok.hd hc) st p.isList (by simp;omega) fun h' eb=>⟨rfl,I.turned (t':=s.toks) (fun b o hb e=>eb b o hb e) f0 f1 f3 f4 f5⟩
 self:=fun _ _ _ _ _ st h=>wpAny_pyIter_listiter st h
theorem ziK{P:Program}{w:World}{K:PySem.W.Frag}{tg:Expr}(a it:Addr):Turn P w K tg (Itt K a) [it] it (fun i h=>h.IsTupleIter it a i) where
 mem:=by simp
 obj:=fun i h st b hb=>by
  have e:b=it:=by simpa using hb
  subst e;obtain ⟨o,e,c,d⟩:=st;exact ⟨o,e,fun v z=>by rw [d] at z;cases z⟩
 keep:=fun i h h' st k=>st.at fun o e=>k it (by simp) o e
 item:=by
  intro X hP hw hK hc i pins s σ H E I hf st hg;subst hP hw hK;obtain ⟨xs,x,hq,hx⟩:=hg;obtain ⟨its,rv,p,hz⟩:=I.tuple hq;obtain ⟨u,hu,ru⟩:=rv.get hx;obtain ⟨f0,f1,f2,f3,f4,f5⟩:=hf it (by simp);refine wpAny_pyNext_tuple_item st (show s.heap.IsTuple a its.toArray from p) (x:=u) (by simpa using hu) fun h' st' sb=>?_
  have I1:Inv X pins σ H { s with heap:=h' }:=I.turned (t':=s.toks) (fun b o hb e=>(sb.2 b hb).trans e) f0 f1 f3 f4 f5;obtain ⟨o,e,c,d⟩:=id st';exact ⟨u,rfl,zoD (s:={ s with heap:=h' }) e c d (by decide) ⟨x,H,I1,ru,⟨rfl,fun ys hy=>by rw [I.tuple_inj hy hq];exact hx⟩,st',fun b hb=>(hf b hb).1⟩⟩
 done:=by
  intro X hP hw hK hc i pins s σ H E I hf st hg;subst hP hw hK;obtain ⟨xs,hq,hx⟩:=hg;obtain ⟨its,rv,p,hz⟩:=I.tuple hq;obtain ⟨f0,f1,f2,f3,f4,f5⟩:=hf it (by simp);have hl:=rv.length;exact wpAny_pyNext_tuple_end (I.ok.hd hc) st (show s.heap.IsTuple a its.toArray from p) (by simp;omega) fun h' eb=>⟨rfl,I.turned (t':=s.toks) (fun b o hb e=>eb b o hb e) f0 f1 f3 f4 f5⟩
 self:=fun _ _ _ _ _ st h=>wpAny_pyIter_tupleiter st h
theorem ziL{P:Program}{w:World}{K:PySem.W.Frag}{tg:Expr}(it:Addr)(lo:Int)(n:Nat):Turn P w K tg (Itr lo n) [it] it (fun i h=>IsRangeIter h it (lo+(i:Nat)*1) ((n:Int)-(i:Nat)) 1) where
 mem:=by simp
 obj:=fun i h st b hb=>by
  have e:b=it:=by simpa using hb
  subst e
  exact ⟨_,st,fun v z=>by
   have z':Data.fields _=Data.cell v:=z
   cases z'⟩
 keep:=fun i h h' st k=>k it (by simp) _ st
 item:=by
  intro X hP hw hK hc i pins s σ H E I hf st hg;subst hP hw hK;obtain ⟨f0,f1,f2,f3,f4,f5⟩:=hf it (by simp);have W:=Walks.range (prog:=X.prog) (w:=X.w) (I.ok.hd hc) it lo 1 n;refine W.item i s _ _ hg st fun v h' tk hv st' kk=>?_
  obtain ⟨t,rfl⟩:=hv;have I1:Inv X pins σ H { s with heap:=h',toks:=tk }:=I.turned (fun b o hb e=>kk b o (by simpa using hb) e) f0 f1 f3 f4 f5;refine ⟨_,rfl,zoD (s:={ s with heap:=h',toks:=tk }) (n:="range_iterator") st' rfl rfl (by decide) ⟨.int (lo+i),H,I1,⟨t,?_⟩,⟨rfl,rfl⟩,st',fun b hb=>(hf b hb).1⟩⟩;rw [Int.mul_one]
 done:=by
  intro X hP hw hK hc i pins s σ H E I hf st hg;subst hP hw hK;obtain ⟨f0,f1,f2,f3,f4,f5⟩:=hf it (by simp);exact wpAny_pyNext_range_end (I.ok.hd hc) st (by have:n<=i:=hg;omega) fun h' eb=>⟨rfl,I.turned (t':=s.toks) (fun b o hb e=>eb b o hb e) f0 f1 f3 f4 f5⟩
 self:=fun _ _ _ _ _ st h=>wpAny_pyIter_rangeiter st h
end L2
namespace L2
open PySem PySem.Spec PyProof.Rows
section
variable{X:Cx}{tg:Expr}
def ztv(K:PySem.W.Frag)(tl:TE):TI:=fun σ H R=>tl σ H fun x H1=>∃a,x=.ref a/\(∃xs,SqL K H1 a xs)/\R (Itl K a) H1
def zxg(K:PySem.W.Frag)(tl:TE):TI:=fun σ H R=>tl σ H fun x H1=>∃a,x=.ref a/\(∃xs,SqT K H1 a xs)/\R (Itt K a) H1
theorem zn6{l:Expr}{tl:TE}(hl:PE X l tl):PI X tg l (ztv X.K tl):=by
 intro pins s σ H R I h;refine thn (hl pins s σ H _ I h) fun v s1 ⟨x,H1,I1,r1,q1⟩=>?_
 obtain ⟨a,e,⟨xs,hq⟩,q⟩:=q1;subst e;cases r1;obtain ⟨its,rv,p,hz⟩:=I1.list hq;refine wpAny_pyIter_list p.isList ?_;refine ⟨s1.heap.objs.size,[s1.heap.objs.size],_,_,H1,rfl,I1.kept (t':=s1.toks) fun b o e=>Heap.get?_push_of_some _ e,zji a _,⟨_,Heap.get?_push_size _ rfl,rfl,rfl⟩,fun b hb=>?_,q⟩
 have e:b=s1.heap.objs.size:=by simpa using hb
 subst e;exact I1.fpOk (Nat.le_refl _) (I1.hok.fresh (Nat.le_refl _))
theorem zqj{l:Expr}{tl:TE}(hl:PE X l tl):PI X tg l (zxg X.K tl):=by
 intro pins s σ H R I h;refine thn (hl pins s σ H _ I h) fun v s1 ⟨x,H1,I1,r1,q1⟩=>?_
 obtain ⟨a,e,⟨xs,hq⟩,q⟩:=q1;subst e;cases r1;obtain ⟨its,rv,p,hz⟩:=I1.tuple hq;refine wpAny_pyIter_tuple (show s1.heap.IsTuple a its.toArray from p) ?_;refine ⟨s1.heap.objs.size,[s1.heap.objs.size],_,_,H1,rfl,I1.kept (t':=s1.toks) fun b o e=>Heap.get?_push_of_some _ e,ziK a _,⟨_,Heap.get?_push_size _ rfl,rfl,rfl⟩,fun b hb=>?_,q⟩
 have e:b=s1.heap.objs.size:=by simpa using hb
 subst e;exact I1.fpOk (Nat.le_refl _) (I1.hok.fresh (Nat.le_refl _))
theorem zh2{pins:Z3}{σ:St}{H:Hp}{s:Shared}{R:It->Hp->Prop}{E:Z5}{lo hi:Int}{t u v:Tok}{tk:Nat}(I:Inv X pins σ H s)(h1:-(2 ^ 62)<=lo)(h2:lo<2 ^ 62)(h3:-(2 ^ 62)<=hi)(h4:hi<2 ^ 62)
  (q:R (Itr lo (hi-lo).toNat) H):wpAny (model X.prog X.w) X.A (pyIter (.ref s.heap.objs.size)) (PIE X pins σ tg R) E { s with heap:=s.heap.push { cls:=.type "range",data:=.fields #[.int lo t,.int hi u,.int 1 v] },toks:=tk }:=by
 refine wpAny_pyIter_range (IsRange.new ..) (small_one h1 h2 h3 h4) ?_;have I1:Inv X pins σ H { s with heap:=s.heap.push { cls:=.type "range",data:=.fields #[.int lo t,.int hi u,.int 1 v] },toks:=tk }:=I.kept fun b o e=>Heap.get?_push_of_some _ e
 refine ⟨(s.heap.push { cls:=.type "range",data:=.fields #[.int lo t,.int hi u,.int 1 v] }).objs.size,[(s.heap.push { cls:=.type "range",data:=.fields #[.int lo t,.int hi u,.int 1 v] }).objs.size],_,_,H,rfl,
  I1.kept (t':=tk) fun b o e=>Heap.get?_push_of_some _ e,ziL _ lo (hi-lo).toNat,?_,fun b hb=>?_,q⟩
 ·have e1:lo+((0:Nat):Int)*1=lo:=by simp
  have e2:(((hi-lo).toNat:Nat):Int)-((0:Nat):Int)=Builtin.Range.rangeSize lo hi 1:=by rw [rangeSize_one];split<;>omega
  show IsRangeIter _ _ (lo+((0:Nat):Int)*1) ((((hi-lo).toNat:Nat):Int)-((0:Nat):Int)) 1;rw [e1,e2];exact Heap.get?_push_size _ rfl
 ·have e:b=(s.heap.push { cls:=.type "range",data:=.fields #[.int lo t,.int hi u,.int 1 v] }).objs.size:=by simpa using hb
  subst e;exact I1.fpOk (Nat.le_refl _) (I1.hok.fresh (Nat.le_refl _))
def ztu(ta:TA):TI:=fun σ H R=>ta σ H fun vs H1=>∃j:Int,vs=[.int j]/\-(2 ^ 62)<=j/\j<2 ^ 62/\R (Itr 0 j.toNat) H1
def ztt(ta:TA):TI:=fun σ H R=>ta σ H fun vs H1=>∃i j:Int,vs=[.int i,.int j]/\(-(2 ^ 62)<=i/\i<2 ^ 62/\-(2 ^ 62)<=j/\j<2 ^ 62)/\R (Itr i (j-i).toNat) H1
theorem zj4{a:Expr}{ta:TA}{p pos:Pos}(hg:Gl X "range")(hm:X.mg "range" = none)(ha:PA X [a] ta)(hs:starEach [a] X.env=[(false,eval a X.env)]:=by rfl):PI X tg (.Call (.Name "range" p) [a] [] pos) (ztu ta):=by
 intro pins s σ H R I h;refine Call_ (ze2 I hg hm boot_range (PyProof.Rows.callWith_type1 (thn (ha pos pins s σ H _ I h) fun us s1 ⟨vs,H1,I1,r1,q1⟩=>?_) hs rfl));obtain ⟨j,e,q1,q2,q⟩:=q1;subst e
 cases r1 with
 | cons r rr =>
  cases rr;obtain ⟨t,rfl⟩:=r;exact call_range_1 (zh2 I1 (by omega) (by omega) q1 q2 (by simpa using q))
theorem zj3{a b:Expr}{ta:TA}{p pos:Pos}(hg:Gl X "range")(hm:X.mg "range" = none)(ha:PA X [a,b] ta)(hs:starEach [a,b] X.env=[(false,eval a X.env),(false,eval b X.env)]:=by rfl)(hs2:starEach [b] X.env=[(false,eval b X.env)]:=by rfl) :
  PI X tg (.Call (.Name "range" p) [a,b] [] pos) (ztt ta):=by
 intro pins s σ H R I h;refine Call_ (ze2 I hg hm boot_range (PyProof.Rows.callWith_type1 (thn (ha pos pins s σ H _ I h) fun us s1 ⟨vs,H1,I1,r1,q1⟩=>?_) (by rw [hs,hs2]) (by rw [hs2];rfl)));obtain ⟨i,j,e,⟨q1,q2,q3,q4⟩,q⟩:=q1;subst e
 cases r1 with
 | cons r rr =>
  cases rr with
  | cons r' rr =>
   cases rr;obtain ⟨t,rfl⟩:=r;obtain ⟨t',rfl⟩:=r';exact call_range_2 (zh2 I1 q1 q2 q3 q4 q)
def zwz(wi:TI)(g:TG)(tb:TS):TS:=fun D σ H=>wi σ H fun J H1=>∃W:Nat->Nat->St->Hp->Prop,(∃m,W 0 m σ H1)/\∀i m σ H,W i m σ H →
 (J.stop i H/\D.nx σ H)\/(J.go i H/\∃N:St->Hp->Prop,(∀σ' H',N σ' H'->∃m',m'<m/\W (i+1) m' σ' H')/\∀x H',J.yld i H x H'->g x σ H' fun σ2 H2=>tb { D with nx:=N,ct:=N,bk:=D.nx } σ2 H2)
def zgK(fp:List Addr)(h:Heap):List (Addr×Obj):=fp.filterMap fun b=>(h.get? b).map fun o=>(b,o)
theorem zdf{fp:List Addr}{h:Heap}{b:Addr}{o:Obj}(hb:b∈fp)(e:h.get? b=some o):(b,o)∈zgK fp h:=List.mem_filterMap.mpr ⟨b,hb,by rw [e];rfl⟩
theorem zkf{fp:List Addr}{h:Heap}{p:Addr×Obj}(hp:p∈zgK fp h):p.1∈fp/\h.get? p.1=some p.2:=by
 obtain ⟨b,hb,e⟩:=List.mem_filterMap.mp hp
 cases q:h.get? b with
 | none=>rw [q] at e;cases e
 | some o =>
  rw [q] at e;have e':(b,o)=p:=Option.some.inj e;subst e';exact ⟨hb,q⟩
theorem Inv.pinned{pins:Z3}{σ:St}{H:Hp}{s:Shared}{fp:List Addr}(I:Inv X pins σ H s)(hf:∀b∈fp,zlp X pins H b)(ho:∀b∈fp,∃o,s.heap.get? b=some o/\∀v,o.data≠.cell v):Inv X (pins++zgK fp s.heap) σ H s :=
 I.pins_of fun p hp=>(List.mem_append.mp hp).elim (fun z=>I.pin p (List.mem_append_right _ z)) fun z=>by
  obtain ⟨hb,e⟩:=zkf z;obtain ⟨f0,f1,f2,_⟩:=hf p.1 hb;obtain ⟨o,e',d⟩:=ho p.1 hb;rw [e] at e';cases e';exact ⟨e,f0,f1,f2,d⟩
theorem Inv.unpinned{pins pl:Z3}{σ:St}{H:Hp}{s:Shared}(I:Inv X (pins++pl) σ H s):Inv X pins σ H s:=I.pins_of fun p hp=>I.pin p (List.mem_append_right _ (List.mem_append_left _ hp))
theorem zqg{iter:Expr}{body:List Stmt}{wi:TI}{g:TG}{tb:TS}{pos:Pos}(hp:PassesOwn (model X.prog X.w) X.A X.env X.xe)(hc:X.calm=true)(hi:PI X tg iter wi)(hg:PG X tg g)(hb:PSs X body tb)
  (hs:∀x,foldedSetIterable iter X.env x=pure x:=by intro _;rfl):PS X (.For tg iter body [] pos) (zwz wi g tb):=by
 intro pins s σ H D I h;refine wpAny_For (thn (hi pins s σ H _ I h) fun v s1 h1=>thn h1 fun itv s2 h2=>?_) hs;obtain ⟨it,fp,tn,J,H2,e,I2,T,st2,f2,W,⟨m0,w0⟩,turn⟩:=h2;subst e;have stat:∀{H':Hp},(∀b∈fp,H' b=none)->∀b∈fp,zlp X pins H' b:=fun hn b hb=>⟨hn b hb,(f2 b hb).2⟩
 refine codeAny_forLoop_any (fun n s'=>∃i σ' H',Inv X pins σ' H' s'/\tn i s'.heap/\(∀b∈fp,H' b=none)/\W i n σ' H') ?_ m0 ⟨0,σ,H2,I2,st2,fun b hb=>(f2 b hb).1,w0⟩;rintro n s3 ⟨i,σ3,H3,I3,st3,fr3,w3⟩
 rcases turn i n σ3 H3 w3 with ⟨stop,qn⟩ | ⟨go,N,hN,step⟩
 ·refine wpAny_passesOwn hp (thn (T.done X rfl rfl rfl hc i pins s3 σ3 H3 X.xe I3 (stat fr3) st3 stop) fun r s4 ⟨hr,I4⟩=>?_);subst hr;exact wpAny_execs_nil ⟨σ3,H3,I4,qn⟩
 ·refine wpAny_passesOwn hp (thn (T.item X rfl rfl rfl hc i pins s3 σ3 H3 X.xe I3 (stat fr3) st3 go) fun r s4 ⟨u,hr,h4⟩=>?_);subst hr;refine wpAny_passesOwn hp (thn h4 fun _ s5 ⟨x,H5,I5,r5,y5,st5,fr5⟩=>?_);have I5':=I5.pinned (stat fr5) (T.obj _ _ st5);refine wpAny_passesOwn hp (thn (hg _ s5 σ3 H5 x u _ I5' r5 (step x H5 y5)) fun _ s6 ⟨σ6,H6,I6,q6⟩=>?_);refine wpAny_passesOwn hp (thn (hb _ s6 σ6 H6 _ I6 q6) fun f s7 q7=>?_)
  have again:∀{σ7:St} {H7:Hp},Inv X (pins++zgK fp s5.heap) σ7 H7 s7->N σ7 H7->∃m,m<n/\∃i σ' H',Inv X pins σ' H' s7/\tn i s7.heap/\(∀b∈fp,H' b=none)/\W i m σ' H':=fun {σ7 H7} I7 n7=>by
   obtain ⟨m',hm,w7⟩:=hN σ7 H7 n7;refine ⟨m',hm,i+1,σ7,H7,I7.unpinned,T.keep _ _ _ st5 fun b hb o e=>(I7.pin (b,o) (List.mem_append_right _ (List.mem_append_right _ (zdf hb e)))).1,fun b hb=>?_,w7⟩;obtain ⟨o,e,d⟩:=T.obj _ _ st5 b hb;exact (I7.pin (b,o) (List.mem_append_right _ (List.mem_append_right _ (zdf hb e)))).2.1
  cases f with
  | next=>obtain ⟨σ7,H7,I7,n7⟩:=q7;exact again I7 n7
  | cont=>obtain ⟨σ7,H7,I7,n7⟩:=q7;exact again I7 n7
  | brk=>obtain ⟨σ7,H7,I7,q7⟩:=q7;exact ⟨σ7,H7,I7.unpinned,q7⟩
  | ret v=>obtain ⟨x7,σ7,H7,I7,r7,q7⟩:=q7;exact ⟨x7,σ7,H7,I7.unpinned,r7,q7⟩
end
end L2
namespace L2
open PySem PySem.Spec PyProof.Rows
abbrev R2:=V->V->Hp->VK->Prop
def OpR(X:Cx)(f:Value->Value->Sem Value)(r:R2):Prop :=
 ∀(pins:Z3) (s:Shared) (σ:St) (H:Hp) (x y:V) (v u:Value) (Q:VK),Inv X pins σ H s->zbp x v->zbp y u->r x y H Q →
  wpAny (model X.prog X.w) X.A (f v u) (EP X pins σ Q) X.xe s
def UnR(X:Cx)(f:Value->Sem Value)(r:V->Hp->VK->Prop):Prop :=
 ∀(pins:Z3) (s:Shared) (σ:St) (H:Hp) (x:V) (v:Value) (Q:VK),Inv X pins σ H s->zbp x v->r x H Q →
  wpAny (model X.prog X.w) X.A (f v) (EP X pins σ Q) X.xe s
def zd4(X:Cx)(f:Value)(r:List V->Hp->VK->Prop):Prop :=
 ∀(pins:Z3) (s:Shared) (σ:St) (H:Hp) (xs:List V) (us:List Value) (Q:VK),Inv X pins σ H s->Vals xs us->r xs H Q →
  wpAny (model X.prog X.w) X.A (call f us) (EP X pins σ Q) X.xe s
def tOp(r:R2)(ta tb:TE):TE:=fun σ H Q=>ta σ H fun x H1=>tb σ H1 fun y H2=>r x y H2 Q
def tUn(r:V->Hp->VK->Prop)(ta:TE):TE:=fun σ H Q=>ta σ H fun x H1=>r x H1 Q
def rI(C:Int->Int->Prop)(g:Int->Int->V):R2:=fun x y H Q=>∃i j,x=.int i/\y=.int j/\C i j/\Q (g i j) H
def rI0(g:Int->Int->V):R2:=fun x y H Q=>∃i j,x=.int i/\y=.int j/\Q (g i j) H
def rU(g:Int->V):V->Hp->VK->Prop:=fun x H Q=>∃i,x=.int i/\Q (g i) H
section
variable{X:Cx}{a b c:Expr}{ta tb tc:TE}{pos:Pos}
theorem ztE(ha:PE X a ta)(hb:PE X b tb){pins:Z3}{s:Shared}{σ:St}{H:Hp}{R:V->V->Hp->Prop}(I:Inv X pins σ H s)
  (h:ta σ H fun x H1=>tb σ H1 fun y H2=>R x y H2) {Q:Z5} {f:Value->Value->Sem Value}
  (hf:∀v u s2 x y H2,Inv X pins σ H2 s2->zbp x v->zbp y u->R x y H2->wpAny (model X.prog X.w) X.A (f v u) Q X.xe s2) :
  wpAny (model X.prog X.w) X.A (eval a X.env) (fun v s₁=>wpAny (model X.prog X.w) X.A (eval b X.env) (fun u s₂=>wpAny (model X.prog X.w) X.A (f v u) Q X.xe s₂) X.xe s₁) X.xe s:=by
 refine thn (ha pins s σ H _ I h) fun v s1 ⟨x,H1,I1,r1,q1⟩=>?_
 refine thn (hb pins s1 σ H1 _ I1 q1) fun u s2 ⟨y,H2,I2,r2,q2⟩=>?_
 exact hf v u s2 x y H2 I2 r1 r2 q2
theorem zqp{op:Operator}{r:R2}(ho:OpR X (binaryOp op) r)(ha:PE X a ta)(hb:PE X b tb):PE X (.BinOp a op b pos) (tOp r ta tb):=by
 intro pins s σ H Q I h;exact wpAny_BinOp (ztE ha hb I h fun v u s2 x y H2 I2 rx ry q=>ho pins s2 σ H2 x y v u Q I2 rx ry q)
theorem zsW{op:UnaryOp}{r:V->Hp->VK->Prop}(ho:UnR X (unaryOp op) r)(ha:PE X a ta):PE X (.UnaryOp op a pos) (tUn r ta):=by
 intro pins s σ H Q I h;exact UnaryOp_ (thn (ha pins s σ H _ I h) fun v s1 ⟨x,H1,I1,r1,q1⟩=>ho pins s1 σ H1 x v Q I1 r1 q1)
theorem opI{f:Value->Value->Sem Value}{C:Int->Int->Prop}{g:Int->Int->Int}
  (rule:∀(i j:Int) (t u:Tok) (s:Shared) (Q:Z5) (E:Z5),C i j->Q (.int (g i j) s.toks) { s with toks:=s.toks+1 }->wpAny (model X.prog X.w) X.A (f (.int i t) (.int j u)) Q E s) :
  OpR X f (rI C fun i j=>.int (g i j)):=by
 intro pins s σ H x y v u Q I rx ry h;obtain ⟨i,j,rfl,rfl,hc,q⟩:=h;obtain ⟨t,rfl⟩:=rx;obtain ⟨t',rfl⟩:=ry;exact rule i j t t' s _ _ hc ⟨.int (g i j),H,I.tok _,⟨_,rfl⟩,q⟩
theorem zuK{f:Value->Value->Sem Value}{g:Int->Int->Int}
  (rule:∀(i j:Int) (t u:Tok) (s:Shared) (Q:Z5) (E:Z5),Q (.int (g i j) s.toks) { s with toks:=s.toks+1 }->wpAny (model X.prog X.w) X.A (f (.int i t) (.int j u)) Q E s) :
  OpR X f (rI0 fun i j=>.int (g i j)):=by
 intro pins s σ H x y v u Q I rx ry h;obtain ⟨i,j,rfl,rfl,q⟩:=h;obtain ⟨t,rfl⟩:=rx;obtain ⟨t',rfl⟩:=ry;exact rule i j t t' s _ _ ⟨.int (g i j),H,I.tok _,⟨_,rfl⟩,q⟩
theorem zrV{f:Value->Value->Sem Value}{g:Int->Int->Bool}
  (rule:∀(i j:Int) (t u:Tok) (s:Shared) (Q:Z5) (E:Z5),Q (.bool (g i j)) s->wpAny (model X.prog X.w) X.A (f (.int i t) (.int j u)) Q E s) :
  OpR X f (rI0 fun i j=>.bl (g i j)):=by
 intro pins s σ H x y v u Q I rx ry h;obtain ⟨i,j,rfl,rfl,q⟩:=h;obtain ⟨t,rfl⟩:=rx;obtain ⟨t',rfl⟩:=ry;exact rule i j t t' s _ _ ⟨.bl (g i j),H,I,rfl,q⟩
def zxt(i j:Int):Prop:=0<j/\j<1073741824
def ztQ(i j:Int):Prop:=(-(2 ^ 64)<i/\i<2 ^ 64)\/(-(2 ^ 64)<j/\j<2 ^ 64)
theorem ztQ.ok{i j:Int}(h:ztQ i j):IntMulOk i j:=by
 rcases h with ⟨h1,h2⟩ | ⟨h1,h2⟩
 ·exact .of_left (intBits_le_64 h1 h2)
 ·exact .of_right (intBits_le_64 h1 h2)
theorem zqD:OpR X (binaryOp .Add) (rI0 fun i j=>.int (i+j)):=zuK fun _ _ _ _ _ _ _ q=>add_int q
theorem zqy:OpR X (binaryOp .Sub) (rI0 fun i j=>.int (i-j)):=zuK fun _ _ _ _ _ _ _ q=>sub_int q
theorem zqz:OpR X (binaryOp .Mult) (rI ztQ fun i j=>.int (i*j)):=opI fun _ _ _ _ _ _ _ hc q=>mul_int q hc.ok
theorem zod:OpR X (binaryOp .FloorDiv) (rI zxt fun i j=>.int (i / j)):=opI fun i j _ _ _ _ _ hc q=>by
 have h1:(0:Int)<j:=hc.1;have h2:j<1073741824:=hc.2;exact floordiv_int (by omega) (by rw [Int.fdiv_eq_ediv_of_nonneg i (by omega)];exact q) (.inl (PyProof.noPylong_small (by omega)))
theorem zqA:OpR X (binaryOp .Mod) (rI (fun _ j=>0<j) fun i j=>.int (i % j)):=opI fun i j _ _ _ _ _ hc q=>by
 have h1:(0:Int)<j:=hc;exact mod_int' (by omega) (by rw [Int.fmod_eq_emod_of_nonneg i (by omega)];exact q)
theorem unI{f:Value->Sem Value}{g:Int->Int}
  (rule:∀(i:Int) (t:Tok) (s:Shared) (Q:Z5) (E:Z5),Q (.int (g i) s.toks) { s with toks:=s.toks+1 }->wpAny (model X.prog X.w) X.A (f (.int i t)) Q E s) :
  UnR X f (rU fun i=>.int (g i)):=by
 intro pins s σ H x v Q I rx h;obtain ⟨i,rfl,q⟩:=h;obtain ⟨t,rfl⟩:=rx;exact rule i t s _ _ ⟨.int (g i),H,I.tok _,⟨_,rfl⟩,q⟩
theorem zpn:UnR X (unaryOp .USub) (rU fun i=>.int (-i)):=unI fun _ _ _ _ _ q=>neg_int q
end
section
variable{X:Cx}{a b c:Expr}{ta tb tc:TE}{pos:Pos}
theorem zna{pins:Z3}{σ:St}{H:Hp}{s:Shared}{Q:VK}{k k':Bool}(I:Inv X pins σ H s)(q:Q (.bl k) H)(e:k=k'):EP X pins σ Q (.bool k') s:=by
 subst e;exact ⟨.bl k,H,I,rfl,q⟩
theorem zs0:OpR X (compareOp .Lt) (rI0 fun i j=>.bl (decide (i<j))):=zrV fun _ _ _ _ _ _ _ q=>lt_int q
theorem zs1:OpR X (compareOp .LtE) (rI0 fun i j=>.bl (decide (i<=j))):=zrV fun _ _ _ _ _ _ _ q=>le_int q
theorem zs2:OpR X (compareOp .Gt) (rI0 fun i j=>.bl (decide (j<i))):=zrV fun _ _ _ _ _ _ _ q=>gt_int q
theorem zs3:OpR X (compareOp .GtE) (rI0 fun i j=>.bl (decide (j<=i))):=zrV fun _ _ _ _ _ _ _ q=>ge_int q
theorem zqB:OpR X (compareOp .Is) (fun x y H Q=>y=.non/\Q (.bl (decide (x=.non))) H):=by
 intro pins s σ H x y v u Q I rx ry h;obtain ⟨rfl,q⟩:=h;cases ry;refine is_none_gen (zna I q ?_)
 cases x<;>first
  | (cases rx;rfl)
  | (obtain ⟨t,rfl⟩:=rx;rfl)
theorem zoc:OpR X (compareOp .IsNot) (fun x y H Q=>y=.non/\Q (.bl (!decide (x=.non))) H):=by
 intro pins s σ H x y v u Q I rx ry h;obtain ⟨rfl,q⟩:=h;cases ry;refine isnot_none_gen (zna I q ?_)
 cases x<;>first
  | (cases rx;rfl)
  | (obtain ⟨t,rfl⟩:=rx;rfl)
theorem zj7{op:CmpOp}{r:R2}(ho:OpR X (compareOp op) r)(ha:PE X a ta)(hb:PE X b tb)(hm:behindInMarks op b=false):PE X (.Compare a [op] [b] pos) (tOp r ta tb):=by
 intro pins s σ H Q I h;exact wpAny_Compare1 (ztE ha hb I h fun v u s2 x y H2 I2 rx ry q=>ho pins s2 σ H2 x y v u Q I2 rx ry q) hm
def znu(t:TE):TT:=fun σ H Q=>t σ H fun x H'=>∃k,x=.bl k/\Q k H'
theorem zjW{op:CmpOp}{r:R2}(ho:OpR X (compareOp op) r)(ha:PE X a ta)(hb:PE X b tb)(hm:behindInMarks op b=false):PT X (.Compare a [op] [b] pos) (znu (tOp r ta tb)):=by
 intro pins s σ H Q I h
 refine wpAny_isTrue_Compare1 (thn (ha pins s σ H _ I h) fun v s1 ⟨x,H1,I1,r1,q1⟩=>thn (hb pins s1 σ H1 _ I1 q1) fun u s2 ⟨y,H2,I2,r2,q2⟩ =>
  thn (ho pins s2 σ H2 x y v u _ I2 r1 r2 q2) fun c s3 ⟨z,H3,I3,r3,k,e,q3⟩=>?_) hm
 subst e;cases r3;exact wpAny_truthy_bool ⟨H3,I3,q3⟩
def zjw(r r':R2)(ta tb tc:TE):TE:=fun σ H Q=>ta σ H fun x H1=>tb σ H1 fun y H2=>r x y H2 fun z H3=>∃k,z=.bl k ∧
 (if k=true then tc σ H3 fun w' H4=>r' y w' H4 Q else Q (.bl false) H3)
theorem zlU{op op':CmpOp}{r r':R2}(ho:OpR X (compareOp op) r)(ho':OpR X (compareOp op') r')(ha:PE X a ta)(hb:PE X b tb)(hc:PE X c tc)
  (hm:lastMarks [op,op'] [b,c]=false:=by with_unfolding_all rfl):PE X (.Compare a [op,op'] [b,c] pos) (zjw r r' ta tb tc):=by
 intro pins s σ H Q I h
 refine Compare_chain (thn (ha pins s σ H _ I h) fun v s1 ⟨x,H1,I1,r1,q1⟩=>chain_link (thn (hb pins s1 σ H1 _ I1 q1) fun u s2 ⟨y,H2,I2,r2,q2⟩ =>
  thn (ho pins s2 σ H2 x y v u _ I2 r1 r2 q2) fun d s3 ⟨z,H3,I3,r3,k,e,q3⟩=>?_)) hm
 subst e;cases r3;refine wpAny_truthy_bool ?_
 cases k with
 | false=>exact ite_ff ⟨.bl false,H3,I3,rfl,q3⟩
 | true=>exact ite_tt (chain_last (thn (hc pins s3 σ H3 _ I3 q3) fun w' s4 ⟨z',H4,I4,r4,q4⟩=>ho' pins s4 σ H4 y z' u w' Q I4 r2 r4 q4))
theorem zlI{op op':CmpOp}{r r':R2}(ho:OpR X (compareOp op) r)(ho':OpR X (compareOp op') r')(ha:PE X a ta)(hb:PE X b tb)(hc:PE X c tc)
  (hm:lastMarks [op,op'] [b,c]=false:=by with_unfolding_all rfl):PT X (.Compare a [op,op'] [b,c] pos) (znu (zjw r r' ta tb tc)):=by
 intro pins s σ H Q I h
 refine isTrue_chain (thn (ha pins s σ H _ I h) fun v s1 ⟨x,H1,I1,r1,q1⟩=>test_link (thn (hb pins s1 σ H1 _ I1 q1) fun u s2 ⟨y,H2,I2,r2,q2⟩ =>
  thn (ho pins s2 σ H2 x y v u _ I2 r1 r2 q2) fun d s3 ⟨z,H3,I3,r3,k,e,q3⟩=>?_)) hm
 subst e;cases r3;refine wpAny_truthy_bool ?_
 cases k with
 | false =>
  obtain ⟨k',e',q'⟩:=q3;cases e';exact ite_ff ⟨H3,I3,q'⟩
 | true =>
  refine ite_tt (test_last (thn (hc pins s3 σ H3 _ I3 q3) fun w' s4 ⟨z',H4,I4,r4,q4⟩=>thn (ho' pins s4 σ H4 y z' u w' _ I4 r2 r4 q4) fun d' s5 ⟨z2,H5,I5,r5,k2,e2,q5⟩=>?_));subst e2;cases r5;exact wpAny_truthy_bool ⟨H5,I5,q5⟩
theorem zif:(sizeLine:Nat)<2 ^ 63:=by rw [sizeLine_eq];decide
theorem ziT:OpR X (binaryOp .Add) (fun x y H Q=>∃i j,x=.str i/\y=.str j/\i.length+j.length<=sizeLine/\Q (.str (i++j)) H):=by
 intro pins s σ H x y v u Q I rx ry h;obtain ⟨i,j,rfl,rfl,hz,q⟩:=h;obtain ⟨t,rfl⟩:=rx;obtain ⟨t',rfl⟩:=ry;exact add_str (fun t' tk=>⟨.str (i++j),H,I.tok _,⟨_,rfl⟩,q⟩) hz
theorem zgq{x:V}{us:List Value}(r:Vals [x] us):∃u,us=[u]/\zbp x u:=by
 cases r with
 | cons r1 r2=>cases r2;exact ⟨_,rfl,r1⟩
theorem zsd{x y:V}{us:List Value}(r:Vals [x,y] us):∃u w',us=[u,w']/\zbp x u/\zbp y w':=by
 cases r with
 | cons r1 r2 =>
  cases r2 with
  | cons r3 r4=>cases r4;exact ⟨_,_,rfl,r1,r3⟩
theorem zk5(hc:X.calm=true):zd4 X (.builtin "min") (fun xs H Q=>∃i j,xs=[.int i,.int j]/\Q (.int (if j<i then j else i)) H):=by
 intro pins s σ H xs us Q I r h;obtain ⟨i,j,rfl,q⟩:=h;obtain ⟨u,w',rfl,⟨t,rfl⟩,⟨t',rfl⟩⟩:=zsd r;refine min_two_ints (I.ok.hd hc) fun h' tk k=>⟨_,H,I.kept k,?_,q⟩
 by_cases hj:j<i
 ·rw [if_pos hj,if_pos hj];exact ⟨_,rfl⟩
 ·rw [if_neg hj,if_neg hj];exact ⟨_,rfl⟩
end
end L2
namespace L2
open PySem PySem.Spec PyProof.Rows
structure ObjM(h:Heap)(x dx C:Addr)(mA:Z6):Prop where
 obj:h.get? x=some (PySem.W.instObj C dx)
 ns:h.Ns1 dx mA
 ne:dx≠x
theorem zkm{h:Heap}{dx:Addr}{mA:Z6}(n:h.Ns1 dx mA):∃od,h.get? dx=some od/\∀name,PySem.W.lookIn name od=some (mA name):=by
 obtain ⟨o,es,ep,ho,hd,hk,_,hm⟩:=n;refine ⟨o,ho,fun name=>?_⟩;have e:=hm name;unfold nsFind findBy at e;rw [<-Array.find?_toList] at e;unfold PySem.W.lookIn;rw [hd];dsimp only;split
 ·rename_i y q;rw [q] at e;exact congrArg some e
 ·rename_i q;rw [q] at e
  have a:es.toList.any (·.refKey)=false:=by
   rw [List.any_eq_false];intro y hy;obtain ⟨z,t,hkey⟩:=hk y (Array.mem_toList_iff.mp hy);simp [DictEntry.refKey,hkey]
  have a':¬ es.toList.any (·.refKey)=true:=by rw [a];exact Bool.false_ne_true
  rw [if_neg a'];exact congrArg some e
theorem ObjM.look{h:Heap}{x dx C:Addr}{mA:Z6}(I:ObjM h x dx C mA):∃od,PySem.W.InstAt h x (PySem.W.instObj C dx) C (some od)/\∀name,PySem.W.lookIn name od=some (mA name) :=
 let ⟨od,ho,hl⟩:=zkm I.ns
 ⟨od,⟨I.obj,rfl,rfl,ho⟩,hl⟩
section
variable{prog:Program}{w:World}{A:Around}{E:Z5}{s:Shared}{K:PySem.W.Frag}{x dx C f:Addr}{mA:Z6}{name:Str}{v:Value}
theorem zoE{expr:Bool}{Q:Z5}(X:K.In s.heap)(I:ObjM s.heap x dx C mA)(hg:PySem.W.plainGet K C name=true)(hh:PySem.W.hasDictIn K C=true)
  (ha:PySem.W.findIn K (.ref C) name=some none) (hv:mA name=some v) (hv':PySem.W.handedIn v=true) (h:Q v { s with toks:=s.toks+1 }) :
  wpAny (model prog w) A (getAttr (.ref x) name expr) Q E s:=by
 obtain ⟨od,J,hl⟩:=I.look;exact PySem.W.get_value X J (PySem.W.plainGet_of hg).1 (PySem.W.findObj_own hh ha rfl (by rw [hl,hv])) hv' h
theorem zmm{pl:Sem Bool}{Q:Value×List Value->Shared->Prop}(X:K.In s.heap)(I:ObjM s.heap x dx C mA)(hg:PySem.W.plainGet K C name=true)
  (hf:PySem.W.findIn K (.ref C) name=some (some (.ref f))) (ht:PySem.W.isFn K (.ref f)=true) (hv:mA name=none) (h:Q (.ref f,[.ref x]) s) :
  wpAny (model prog w) A (getMethod (.ref x) name pl) Q E s:=by
 obtain ⟨od,J,hl⟩:=I.look;exact PySem.W.method_fn X J (PySem.W.plainGet_of hg).1 (PySem.W.plainGet_of hg).2 hf (beq_iff_eq.mp ht) (by show (PySem.W.lookIn name od).map (·.isSome)=some false;rw [hl,hv];rfl) h
theorem znM{ns:List Str}{Q:Unit->Shared->Prop}(X:K.In s.heap)(I:ObjM s.heap x dx C mA)
  (hs:PySem.W.findIn K (.ref C) "__setattr__" = some (some (.builtin "object.__setattr__"))) (hp:PySem.W.plainOver K C=true) (ht:PySem.W.takerIn K C name=some none) (hh:PySem.W.hasDictIn K C=true)
  (hw:PySem.Within mA ns) (hsz:ns.length<=sizeLine)
  (h:∀h',ObjM h' x dx C (fun y=>if y=name then some v else mA y)->Heap.SameBut dx s.heap h'->Q () { s with heap:=h',toks:=s.toks+2 }) :
  wpAny (model prog w) A (setAttr (.ref x) name v) Q E s:=by
 obtain ⟨od,J,hl⟩:=I.look;refine PySem.W.set_plain X J hs (PySem.W.osa_open (s:={ s with toks:=s.toks+1 }) (r:=none) X J hp ht fun b=>?_);obtain ⟨cd,hc,hd'⟩:=PySem.W.any_some hh;have hx:s.heap.get? x=some ⟨.ref C,some dx,.plain,#[]⟩:=I.obj;refine wpAny_bind (wpAny_pure (wpAny_bind (wpAny_bind (wpAny_loadPart hx (wpAny_bind (PySem.W.Looks.here (s:={ s with toks:=s.toks+1 }) (PySem.W.looks_clsIn X hc) ?_))))));rw [hd'];refine wpAny_pure (a:=some dx) (wpAny_bind (wpAny_pure (wpAny_bind ?_)));refine wpAny_nsSet1 (s:={ s with toks:=s.toks+1 }) I.ns fun h' hn2 hs2=>?_
 obtain ⟨oD,esD,epD,hoD,hdD,hcD⟩:=hn2.count (PySem.Within.cons name v hw);refine wpAny_bind (wpAny_lookBehind hoD (by rw [hdD];exact pastItsLine_dict (Nat.le_trans hcD (by rw [List.length_cons];omega))) ?_);exact wpAny_pure (h _ ⟨(hs2.2 _ (Ne.symm I.ne)).trans I.obj,hn2,I.ne⟩ hs2)
theorem zl5{R:Result->Shared->Prop}{vs:List Value}{kw:List (Str×Value)}(X:K.In s.heap)(hm:PySem.W.makesIn K C=true)
  (hi:PySem.W.findIn K (.ref C) "__init__" = some (some (.ref f))) (hf:PySem.W.typeIn K (.ref f)=some (.type "function"))
  (h:codeAny (model prog w) (A.under (.builtin "type.__call__" ⟨.ref C::vs,kw⟩)) (.call (.ref f) ⟨.ref (s.heap.objs.size+1)::vs,kw⟩) (PySem.W.InitBack (s.heap.objs.size+1) R)
   { s with heap:=(s.heap.push PySem.W.emptyDict).push (PySem.W.instObj C s.heap.objs.size) }) :
  codeAny (model prog w) A (.call (.ref C) ⟨vs,kw⟩) R s:=by
 obtain ⟨hh,g,d,t,os⟩:=s;exact PySem.W.make_core (PySem.W.makes_of X hm) (PySem.W.looks_findIn X hi) (fun self=>PySem.W.bind_fn X self hf) (.inl rfl) h
end
def zdD(f:Str)(v:V):List (Str×V)->List (Str×V)
 | []=>[(f,v)]
 | (g,x)::r=>if g=f then (g,v)::r else (g,x)::zdD f v r
theorem zeZ(f g:Str)(v:V):∀fs:List (Str×V),(zdD f v fs).lookup g=if g=f then some v else fs.lookup g
 | []=>by
  show List.lookup g [(f,v)]=_
  by_cases h:g=f
  ·have hb:(g == f)=true:=beq_iff_eq.mpr h;simp only [List.lookup,hb,if_pos h]
  ·have hb:(g == f)=false:=beq_eq_false_iff_ne.mpr h;simp only [List.lookup,hb,if_neg h]
 | (k,x)::r=>by
  have ih:=zeZ f g v r;rw [show zdD f v ((k,x)::r)=(if k=f then (k,v)::r else (k,x)::zdD f v r) from rfl]
  by_cases hk:k=f
  ·rw [if_pos hk]
   by_cases h:g=k
   ·have hb:(g == k)=true:=beq_iff_eq.mpr h;simp only [List.lookup,hb,if_pos (h.trans hk)]
   ·have hb:(g == k)=false:=beq_eq_false_iff_ne.mpr h;simp only [List.lookup,hb,if_neg (fun e:g=f=>h (e.trans hk.symm))]
  ·rw [if_neg hk]
   by_cases h:g=k
   ·have hb:(g == k)=true:=beq_iff_eq.mpr h;simp only [List.lookup,hb,if_neg (fun e:g=f=>hk (h.symm.trans e))]
   ·have hb:(g == k)=false:=beq_eq_false_iff_ne.mpr h;simp only [List.lookup,hb];exact ih
theorem ze3(f:Str)(v:V):∀fs:List (Str×V),f∈(zdD f v fs).map (·.1)/\∀g,g∈fs.map (·.1)->g∈(zdD f v fs).map (·.1)
 | []=>⟨by simp [zdD],fun g h=>by simp at h⟩
 | (k,x)::r=>by
  obtain ⟨i1,i2⟩:=ze3 f v r;rw [show zdD f v ((k,x)::r)=(if k=f then (k,v)::r else (k,x)::zdD f v r) from rfl]
  by_cases hk:k=f
  ·rw [if_pos hk];subst hk;exact ⟨by simp,fun g h=>by simpa using h⟩
  ·rw [if_neg hk];refine ⟨?_,fun g h=>?_⟩
   ·rw [List.map_cons];exact List.mem_cons_of_mem _ i1
   ·rw [List.map_cons] at h ⊢
    rcases List.mem_cons.mp h with e | e
    ·exact List.mem_cons.mpr (.inl e)
    ·exact List.mem_cons_of_mem _ (i2 g e)
theorem ze0(f:Str)(v:V):∀fs:List (Str×V),(zdD f v fs).length<=fs.length+1
 | []=>by simp [zdD]
 | (k,x)::r=>by
  have ih:=ze0 f v r;rw [show zdD f v ((k,x)::r)=(if k=f then (k,v)::r else (k,x)::zdD f v r) from rfl]
  by_cases hk:k=f
  ·rw [if_pos hk,List.length_cons,List.length_cons];omega
  ·rw [if_neg hk,List.length_cons,List.length_cons];omega
theorem zln.some_of{v:V}{o:Option Value}(r:zln (some v) o):∃u,o=some u/\zbp v u:=by
 cases o with
 | none=>exact (show False from r).elim
 | some u=>exact ⟨u,rfl,r⟩
theorem zln.none_of{o:Option Value}(r:zln none o):o=none:=by
 cases o with
 | none=>rfl
 | some u=>exact (show False from r).elim
theorem zkH{v:V}{u:Value}(r:zbp v u):PySem.W.handedIn u=true:=by
 cases v with
 | non=>cases (show u=Value.none from r);rfl
 | bl b=>cases (show u=Value.bool b from r);rfl
 | int i=>obtain ⟨t,e⟩:=(show ∃t,u=Value.int i t from r);cases e;rfl
 | str x=>obtain ⟨t,e⟩:=(show ∃t,u=Value.str x t from r);cases e;rfl
 | byt b=>obtain ⟨t,e⟩:=(show ∃t,u=Value.bytes b t from r);cases e;rfl
 | flt b=>obtain ⟨t,e⟩:=(show ∃t,u=Value.float b t from r);cases e;rfl
 | ref a=>cases (show u=Value.ref a from r);rfl
 | ty n=>cases (show u=Value.type n from r);rfl
section
variable{P:Program}{w:World}{H H':Hp}{h h':Heap}{a C dx:Addr}{fs fs':List (Str×V)}
theorem zf9(hok:HOk P w H h)(e:H a=some (.ins C dx fs)):∃mA,ObjM h a dx C mA/\(∀f,zln (fs.lookup f) (mA f))/\PySem.Within mA (fs.map (·.1))/\fs.length<=1000/\H dx=some (.own a):=by
 obtain ⟨d,z,ne,ob,mA,n,r,q⟩:=(show zbZ P w H h a (.ins C dx fs) from hok a _ e);exact ⟨mA,⟨ob,n,ne⟩,r,q,z,d⟩
end
structure Cls(K:PySem.W.Frag)(C:Addr):Prop where
 pg:PySem.W.plainGet K C Str.empty=true
 hd:PySem.W.hasDictIn K C=true
 po:PySem.W.plainOver K C=true
 sa:PySem.W.findIn K (.ref C) "__setattr__" = some (some (.builtin "object.__setattr__"))
theorem Cls.get{K:PySem.W.Frag}{C:Addr}(c:Cls K C)(f:Str):PySem.W.plainGet K C f=true:=c.pg
def zdA(K:PySem.W.Frag)(C:Addr)(f:Str):Prop:=PySem.W.findIn K (.ref C) f=some none
theorem zdA.taker{K:PySem.W.Frag}{C:Addr}{f:Str}(n:zdA K C f):PySem.W.takerIn K C f=some none:=by
 unfold PySem.W.takerIn;rw [show PySem.W.findIn K (.ref C) f=some none from n];rfl
structure Meth(K:PySem.W.Frag)(C:Addr)(m:Str)(f:Addr):Prop where
 at_:PySem.W.findIn K (.ref C) m=some (some (.ref f))
 fn:PySem.W.isFn K (.ref f)=true
 kp:PySem.W.keepIn K (.ref f)=true
section
variable{X:Cx}{pins:Z3}{σ:St}{H:Hp}{s:Shared}{a C dx:Addr}{fs:List (Str×V)}{f:Str}{v:V}{A:Around}{E:Z5}
theorem zi2{b:Bool}{Q:Z5}(I:Inv X pins σ H s)(e:H a=some (.ins C dx fs))(c:Cls X.K C)(n:zdA X.K C f)(l:fs.lookup f=some v)
  (h:∀u s',Inv X pins σ H s'->zbp v u->Q u s'):wpAny (model X.prog X.w) A (getAttr (.ref a) f b) Q E s:=by
 obtain ⟨mA,O,r,_,_,_⟩:=zf9 I.hok e;obtain ⟨u,hu,ru⟩:=zln.some_of (v:=v) (o:=mA f) (by rw [<-l];exact r f);exact zoE I.kIn O (c.get f) c.hd n hu (zkH ru) (h u _ (I.tok _) ru)
theorem zfy{m:Str}{g:Addr}{pl:Sem Bool}{Q:Value×List Value->Shared->Prop}(I:Inv X pins σ H s)(e:H a=some (.ins C dx fs))(c:Cls X.K C)(k:Meth X.K C m g)(l:fs.lookup m=none)
  (h:Q (.ref g,[.ref a]) s):wpAny (model X.prog X.w) A (getMethod (.ref a) m pl) Q E s:=by
 obtain ⟨mA,O,r,_,_,_⟩:=zf9 I.hok e;have hn:mA m=none:=zln.none_of (by rw [<-l];exact r m);exact zmm I.kIn O (c.get m) k.at_ k.fn hn h
theorem ziO{y:V}{u:Value}{Q:Unit->Shared->Prop}(I:Inv X pins σ H s)(e:H a=some (.ins C dx fs))(c:Cls X.K C)(n:zdA X.K C f)(hl:fs.length<1000)(ry:zbp y u)
  (h:∀s',Inv X pins σ (upd H a (.ins C dx (zdD f y fs))) s'->Q () s'):wpAny (model X.prog X.w) A (setAttr (.ref a) f u) Q E s:=by
 obtain ⟨mA,O,r,wi,_,ho⟩:=zf9 I.hok e
 have hz:(fs.map (·.1)).length<=sizeLine:=by rw [List.length_map,sizeLine_eq];omega
 refine znM I.kIn O c.sa c.po n.taker c.hd wi hz fun h' O' sb=>h _ ?_
 have hd:∃o,h'.get? dx=some o:=let ⟨o,_,_,e',_⟩:=O'.ns;⟨o,e'⟩
 refine I.write (x:=a) (e:=dx) (by rw [e];exact True.intro) (.inr ho) (fun b q hb z=>(sb.2 b hb).trans z) hd ?_;refine ⟨by rw [zar O.ne];exact ho,?_,O.ne,O'.obj,_,O'.ns,fun g=>?_,fun g hg=>?_⟩
 ·have:=ze0 f y fs;omega
 ·show zln ((zdD f y fs).lookup g) (if g=f then some u else mA g);rw [zeZ]
  by_cases q:g=f
  ·rw [if_pos q,if_pos q];exact ry
  ·rw [if_neg q,if_neg q];exact r g
 ·by_cases q:g=f
  ·rw [q];exact (ze3 f y fs).1
  ·refine (ze3 f y fs).2 g (wi g fun z=>hg ?_);show (if g=f then some u else mA g)=none;rw [if_neg q];exact z
theorem Inv.made(I:Inv X pins σ H s):Inv X pins σ (upd (upd H s.heap.objs.size (.own (s.heap.objs.size+1))) (s.heap.objs.size+1) (.ins C s.heap.objs.size []))
  { s with heap:=(s.heap.push PySem.W.emptyDict).push (PySem.W.instObj C s.heap.objs.size) }:=by
 have e1:(s.heap.push PySem.W.emptyDict).get? s.heap.objs.size=some PySem.W.emptyDict:=Heap.get?_push_size s.heap rfl
 have e2:((s.heap.push PySem.W.emptyDict).push (PySem.W.instObj C s.heap.objs.size)).get? (s.heap.objs.size+1)=some (PySem.W.instObj C s.heap.objs.size):=by
  have:=Heap.get?_push_size (s.heap.push PySem.W.emptyDict) (o:=PySem.W.instObj C s.heap.objs.size) rfl
  rwa [Heap.size_push] at this
 have e3:(s.heap.push PySem.W.emptyDict).Ns s.heap.objs.size (fun _=>none):=⟨PySem.W.emptyDict,#[],_,e1,rfl,(fun e he=>absurd he (by simp)),fun _=>rfl⟩;have I1:=I.laid (a:=s.heap.objs.size) (o:=.own (s.heap.objs.size+1)) (h':=s.heap.push PySem.W.emptyDict) (t':=s.toks) (fun b u q=>Heap.get?_push_of_some _ q) (Nat.le_refl _) ⟨_,e1⟩;refine I1.laid (a:=s.heap.objs.size+1) (o:=.ins C s.heap.objs.size []) (t':=s.toks) (fun b u q=>Heap.get?_push_of_some _ q) (Nat.le_of_eq (Heap.size_push _ _)) ?_;have ne:s.heap.objs.size≠s.heap.objs.size+1:=Nat.ne_of_lt (Nat.lt_succ_self _);refine ⟨by rw [zar ne,zaO],Nat.zero_le _,ne,e2,fun _=>none,(Heap.Ns1.of_empty e3).at fun o q=>Heap.get?_push_of_some _ q,fun _=>True.intro,fun y hy=>absurd rfl hy⟩
theorem zo2{prog:Program}{w:World}{env:Env}{e:Expr}{f:Str}{pos:Pos}{s:Shared}{Q:Z5}(hb:attributeBase e f env (eval e env)=eval e env)
  (h:wpAny (model prog w) A (eval e env) (fun o s₁=>wpAny (model prog w) A (getAttr o f true) Q E s₁) E s):wpAny (model prog w) A (eval (.Attribute e f pos) env) Q E s :=
 Attribute_any_ h (by rw [arm_eval_Attribute,hb])
end
def zuD(K:PySem.W.Frag)(ta:TE)(f:Str):TE:=fun σ H Q=>ta σ H fun x H1=>∃a C dx fs v,x=.ref a/\H1 a=some (.ins C dx fs)/\Cls K C/\zdA K C f/\fs.lookup f=some v/\Q v H1
def zwB(K:PySem.W.Frag)(ta tv:TE)(f:Str):TS:=fun D σ H=>tv σ H fun y H1=>ta σ H1 fun x H2=>∃a C dx fs,x=.ref a/\H2 a=some (.ins C dx fs)/\Cls K C/\zdA K C f/\fs.length<1000 ∧
 D.nx σ (upd H2 a (.ins C dx (zdD f y fs)))
def zvR(X:Cx)(op:Operator)(rd:V->V->Hp->VK->Prop):Prop :=
 ∀(pins:Z3) (s:Shared) (σ:St) (H:Hp) (x y:V) (u v:Value) (Q:VK),Inv X pins σ H s->zbp x u->zbp y v->rd x y H Q->wpAny (model X.prog X.w) X.A (inplaceOp op u v) (EP X pins σ Q) X.xe s
section
variable{X:Cx}{o e value:Expr}{f:Str}{pos pos' tpos:Pos}{ta tv:TE}
theorem zgL(he:PE X e ta)(hb:attributeBase e f X.env (eval e X.env)=eval e X.env):PE X (.Attribute e f pos) (zuD X.K ta f):=by
 intro pins s σ H Q I h;refine zo2 hb (thn (he pins s σ H _ I h) fun u s1 ⟨x,H1,I1,rx,a,C,dx,fs,v,ex,ea,c,n,l,q⟩=>?_);subst ex;obtain rfl:u=Value.ref a:=rx;exact zi2 I1 ea c n l fun u' s2 I2 ru=>⟨v,H1,I2,ru,q⟩
theorem zmV(ha:PE X o ta)(hv:PE X value tv)(hs:swapsWith value (some (.Attribute o f pos')) pos.line X.env=pure false):PS X (.Assign [.Attribute o f pos'] value pos) (zwB X.K ta tv f):=by
 intro pins s σ H D I h;refine plainObj_wpAny_Assign_Attribute (thn (hv pins s σ H _ I h) fun u s1 ⟨y,H1,I1,ry,q⟩=>thn (ha pins s1 σ H1 _ I1 q) fun ov s2 ⟨x,H2,I2,rx,a,C,dx,fs,ex,ea,c,n,l,q2⟩=>?_) hs;subst ex;obtain rfl:ov=Value.ref a:=rx;exact ziO I2 ea c n l ry fun s3 I3=>⟨σ,_,I3,q2⟩
def zuJ:V->V->Hp->VK->Prop:=fun x y H Q=>∃i j,x=.int i/\y=.int j/\Q (.int (i+j)) H
def zuI:V->V->Hp->VK->Prop:=fun x y H Q=>∃i j,x=.int i/\y=.int j/\Q (.int (i-j)) H
theorem zrg:zvR X .Add zuJ:=by
 rintro pins s σ H x y u v Q I rx ry ⟨i,j,rfl,rfl,q⟩;obtain ⟨t,rfl⟩:=(show ∃t,u=Value.int i t from rx);obtain ⟨t',rfl⟩:=(show ∃t',v=Value.int j t' from ry);exact PyProof.Rows.iadd_int ⟨.int (i+j),H,I.tok _,⟨_,rfl⟩,q⟩
theorem zrf:zvR X .Sub zuI:=by
 rintro pins s σ H x y u v Q I rx ry ⟨i,j,rfl,rfl,q⟩;obtain ⟨t,rfl⟩:=(show ∃t,u=Value.int i t from rx);obtain ⟨t',rfl⟩:=(show ∃t',v=Value.int j t' from ry);exact PyProof.Rows.isub_int ⟨.int (i-j),H,I.tok _,⟨_,rfl⟩,q⟩
end
section
variable{X:Cx}{pins:Z3}{σ:St}{H:Hp}{s:Shared}{A:Around}{E:Z5}{Q:Z5}{c:Value}{b:Bool}
inductive TyOf(K:PySem.W.Frag)(H:Hp):V->Value->Prop where
 | non:TyOf K H .non (.type "NoneType")
 | bl (x:Bool):TyOf K H (.bl x) (.type "bool")
 | int (i:Int):TyOf K H (.int i) (.type "int")
 | str (x:Str):TyOf K H (.str x) (.type "str")
 | flt (x:UInt64):TyOf K H (.flt x) (.type "float")
 | lst {a:Addr} {xs:List V} (e:H a=some (.lst xs)):TyOf K H (.ref a) (.type "list")
 | frz {a:Addr} {o:Obj} {xs:List V} (e:H a=some (.frz o (.lst xs))):TyOf K H (.ref a) (.type "list")
 | tup {a:Addr} {xs:List V} (e:H a=some (.tup xs)):TyOf K H (.ref a) (.type "tuple")
 | dK {a:Addr} {kvs:List (Key×V)} (e:H a=some (.dK kvs)):TyOf K H (.ref a) (.type "dict")
 | dT {a:Addr} {kvs:List (List Key×V)} (e:H a=some (.dT kvs)):TyOf K H (.ref a) (.type "dict")
 | ins {a C dx:Addr} {fs:List (Str×V)} (e:H a=some (.ins C dx fs)) (cl:Cls K C) (ha:PySem.W.findIn K (.ref C) "__class__" = some (some (.builtin "object.__class__")))
   (hn:PySem.W.specialIn K (.builtin "object.__class__") "__get__" = some (some (.builtin "getset_descriptor.__get__"))) (htk:PySem.W.takesIn K (.builtin "object.__class__")=some true)
   (hm:PySem.W.mroIn K C (.type "object")=some true):TyOf K H (.ref a) (.ref C)
theorem zky{x:V}{u t:Value}(I:Inv X pins σ H s)(rx:zbp x u)(ty:TyOf X.K H x t)(e:PySem.W.kitOne X.K t c=some b)(h:∀tk,Q (.bool b) { s with toks:=tk }) :
  wpAny (model X.prog X.w) A (call (.builtin "isinstance") [u,c]) Q E s:=by
 cases ty with
 | non=>cases (show u=Value.none from rx);exact PySem.W.kia_one PySem.W.kitx_none I.kIn True.intro e (fun z=>nomatch z) h
 | bl y=>cases (show u=Value.bool y from rx);exact PySem.W.kia_one PySem.W.kitx_bool I.kIn True.intro e (fun z=>nomatch z) h
 | int i=>obtain ⟨t,q⟩:=(show ∃t,u=Value.int i t from rx);cases q;exact PySem.W.kia_one PySem.W.kitx_int I.kIn True.intro e (fun z=>nomatch z) h
 | str y=>obtain ⟨t,q⟩:=(show ∃t,u=Value.str y t from rx);cases q;exact PySem.W.kia_one PySem.W.kitx_str I.kIn True.intro e (fun z=>nomatch z) h
 | flt y=>obtain ⟨t,q⟩:=(show ∃t,u=Value.float y t from rx);cases q;exact PySem.W.kia_one PySem.W.kitx_float I.kIn True.intro e (fun z=>nomatch z) h
 | @lst a xs ea =>
  cases (show u=Value.ref a from rx);obtain ⟨_,_,n,_,h1⟩:=(show zbZ X.prog X.w H s.heap a (.lst xs) from I.hok a _ ea);exact PySem.W.kia_one PySem.W.kitx_list I.kIn ⟨_,h1,rfl⟩ e (fun z=>nomatch z) h
 | @frz a ob xs ea =>
  cases (show u=Value.ref a from rx);obtain ⟨_,_,_,n,_,h1⟩:=(show zbZ X.prog X.w H s.heap a (.frz ob (.lst xs)) from I.hok a _ ea);exact PySem.W.kia_one PySem.W.kitx_list I.kIn ⟨_,h1,rfl⟩ e (fun z=>nomatch z) h
 | @tup a xs ea =>
  cases (show u=Value.ref a from rx);obtain ⟨_,_,_,p⟩:=(show zbZ X.prog X.w H s.heap a (.tup xs) from I.hok a _ ea);obtain ⟨o,h1,h2,_⟩:=p;exact PySem.W.kia_one PySem.W.kitx_tuple I.kIn ⟨o,h1,h2⟩ e (fun z=>nomatch z) h
 | @dK a kvs ea =>
  cases (show u=Value.ref a from rx);obtain ⟨_,_,vs,_,p⟩:=(show zbZ X.prog X.w H s.heap a (.dK kvs) from I.hok a _ ea);obtain ⟨o,es,ep,h1,h2,_⟩:=p;exact PySem.W.kia_one PySem.W.kitx_dict I.kIn ⟨o,h1,h2.1⟩ e (fun z=>nomatch z) h
 | @dT a kvs ea =>
  cases (show u=Value.ref a from rx);obtain ⟨_,_,xs,_,o,es,ep,h1,h2,_⟩:=(show zbZ X.prog X.w H s.heap a (.dT kvs) from I.hok a _ ea);exact PySem.W.kia_one PySem.W.kitx_dict I.kIn ⟨o,h1,h2.1⟩ e (fun z=>nomatch z) h
 | @ins a C dx fs ea cl ha hn htk hm =>
  cases (show u=Value.ref a from rx);obtain ⟨mA,O,_⟩:=zf9 I.hok ea;obtain ⟨od,J,_⟩:=O.look;exact PySem.W.kia_one (PySem.W.kitx_own (cl.get _) cl.hd ha hn htk hm) I.kIn J e (fun z=>nomatch z) h
end
end L2
namespace L2
open PySem PySem.Spec PyProof.Rows
structure Room(k:Nat)(A:Around):Prop where
 hd:A.handled=none
 dp:A.depth+3*k+5<recursionLimit
 un:A.units+16*k+200<cLine
theorem Room.mono{j k:Nat}{A:Around}(r:Room k A)(h:j<=k):Room j A:=⟨r.hd,by have:=r.dp;omega,by have:=r.un;omega⟩
theorem Room.deeper{k:Nat}{A:Around}(r:Room (k+1) A)(env:Env):Room k (A.deeper env) :=
 ⟨r.hd,by have:=r.dp;show A.depth+1+3*k+5<_;omega,by have:=r.un;show A.units+3+16*k+200<_;omega⟩
theorem ziY{A:Around}{C:Addr}{us:List Value}{kw:List (Str×Value)}:(A.under (.builtin "type.__call__" ⟨.ref C::us,kw⟩)).depth=A.depth+1:=by
 first | rfl | simp [Around.under,Code.weight,Code.isCreation,Code.isGuard,Code.isCaller,Code.frames,Code.isFrame,guardIds]
theorem ziX{A:Around}{C:Addr}{us:List Value}{kw:List (Str×Value)}:(A.under (.builtin "type.__call__" ⟨.ref C::us,kw⟩)).units=A.units+1:=by
 first | rfl | simp [Around.under,Code.cUnits,Code.frames,Code.isFrame]
theorem Room.make{k:Nat}{A:Around}(r:Room (k+1) A)(C:Addr)(us:List Value)(kw:List (Str×Value)):Room k (A.under (.builtin "type.__call__" ⟨.ref C::us,kw⟩)) :=
 ⟨r.hd,by have:=r.dp;rw [ziY];omega,by have:=r.un;rw [ziX];omega⟩
theorem Room.depth{k:Nat}{A:Around}(r:Room k A):A.depth<recursionLimit:=by have:=r.dp;omega
theorem Room.units{k:Nat}{A:Around}(r:Room k A):A.units+64<cLine:=by have:=r.un;omega
def zsu:TA:=fun _ H Q=>Q [] H
def zsA(ta:TE)(tr:TA):TA:=fun σ H Q=>ta σ H fun x H1=>tr σ H1 fun xs H2=>Q (x::xs) H2
section
variable{X:Cx}{e:Expr}{es:List Expr}{te:TE}{t:TA}{pos:Pos}
theorem zgM:PA X [] zsu:=fun _ _ _ _ H Q I h=>Calls.spliced_nil ⟨[],H,I,.nil,h⟩
theorem zd8(ha:PE X e te)(hr:PA X es t)(hs:starEach (e::es) X.env=(false,eval e X.env)::starEach es X.env:=by rfl):PA X (e::es) (zsA te t):=by
 intro pos pins s σ H Q I h;rw [hs];show wpAny _ _ (spliced ((false,eval e X.env)::backTo pos (starEach es X.env))) _ _ s;refine Calls.spliced_cons (thn (ha pins s σ H _ I h) fun u s1 ⟨x,H1,I1,r1,q1⟩=>?_);exact thn (hr pos pins s1 σ H1 _ I1 q1) fun us s2 ⟨xs,H2,I2,r2,q2⟩=>⟨x::xs,H2,I2,.cons r1 r2,q2⟩
def zws(t:TA):TE:=fun σ H Q=>t σ H fun xs H1=>xs.length<=sizeLine/\∀p,H1 p=none->Q (.ref p) (upd H1 p (.tup xs))
def zwx(t:TA):TE:=fun σ H Q=>t σ H fun xs H1=>xs.length<=sizeLine/\∀p,H1 p=none->Q (.ref p) (upd H1 p (.lst xs))
theorem zqm{x1}(h:PA X es t):PE X (.Tuple es x1 pos) (zws t):=by
 intro pins s σ H Q I hq;refine wpAny_Tuple_spliced (thn (h pos pins s σ H _ I hq) fun us s1 ⟨xs,H1,I1,r,z,q⟩=>⟨by rw [<-r.length];exact z,?_⟩);have hf:H1 s1.heap.objs.size=none:=I1.hok.fresh (Nat.le_refl _);refine ⟨.ref s1.heap.objs.size,upd H1 s1.heap.objs.size (.tup xs),I1.laid (t':=s1.toks) (fun b u e=>Heap.get?_push_of_some _ e) (Nat.le_refl _) ?_,rfl,q _ hf⟩;exact ⟨z,us,r,⟨_,Heap.get?_push_size _ rfl,rfl,_,rfl⟩⟩
theorem zqt(h:PA X es t):PE X (.List es pos) (zwx t):=by
 intro pins s σ H Q I hq;refine wpAny_List_spliced (thn (h pos pins s σ H _ I hq) fun us s1 ⟨xs,H1,I1,r,z,q⟩=>⟨by rw [<-r.length];exact z,?_⟩);have hf:H1 s1.heap.objs.size=none:=I1.hok.fresh (Nat.le_refl _);refine ⟨.ref s1.heap.objs.size,upd H1 s1.heap.objs.size (.lst xs),I1.laid (t':=s1.toks) (fun b u e=>Heap.get?_push_of_some _ e) (Nat.le_refl _) ?_,rfl,q _ hf⟩;exact ⟨z,us,0,r,Heap.get?_push_size _ rfl⟩
end
abbrev Sp:=List V->Hp->VK->XK->Prop
abbrev CXT:=List Env->Hp->Shared->XK->Value->Shared->Prop
structure Env0(P:Program)(w:World)(K:PySem.W.Frag)(mg:Z6)(base:Heap)(A:Around)(outer:List Env)(s:Shared)(H:Hp):Prop where
 frames:A.frames=some outer
 mod:Mod K mg base
 bs:∀b o,base.get? b=some o->s.heap.get? b=some o/\H b=none
 bsz:base.objs.size<=s.heap.objs.size
 funs:s.heap.FunFrames base outer
 frf:∀b∈frs outer,H b=none
 hok:HOk P w H s.heap
 bare:AllBare s.gens
def CE(outer:List Env)(P:Program)(w:World)(H:Hp)(s:Shared)(Q:VK)(u:Value)(s':Shared):Prop :=
 ∃v H',s'.os=s.os/\AllBare s'.gens/\Un (frs outer) [] H H' s.heap s'.heap/\HOk P w H' s'.heap/\zbp v u/\Q v H'
def CR(CX:CXT)(outer:List Env)(P:Program)(w:World)(H:Hp)(s:Shared)(Q:VK)(E:XK)(r:Result)(s':Shared):Prop :=
 match r with
 | .ok (.ret u)=>CE outer P w H s Q u s'
 | .ok _=>False
 | .error e=>CX outer H s E e s'
structure FnOk(P:Program)(w:World)(K:PySem.W.Frag)(mg:Z6)(base:Heap)(CX:CXT)(k:Nat)(f:Addr)(fd:FuncData)(ps:List Str)(sp:Sp):Prop where
 len:∀vs H Q E,sp vs H Q E->vs.length=ps.length
 run:∀(A:Around) (outer:List Env) (s:Shared) (H:Hp) (args:Args) (us:List Value) (vs:List V) (Q:VK) (E:XK),Room k A->Env0 P w K mg base A outer s H->BindsTo s fd args (ps.zip us)->Vals vs us->sp vs H Q E →
  codeAny (model P w) A (.call (.ref f) args) (CR CX outer P w H s Q E) s
theorem FnOk.mono{P:Program}{w:World}{K:PySem.W.Frag}{mg:Z6}{base:Heap}{CX:CXT}{j k:Nat}{f:Addr}{fd:FuncData}{ps:List Str}{sp:Sp}(F:FnOk P w K mg base CX j f fd ps sp)(h:j<=k) :
  FnOk P w K mg base CX k f fd ps sp:=⟨F.len,fun A outer s H args us vs Q E hr=>F.run A outer s H args us vs Q E (hr.mono h)⟩
theorem FnOk.imp{P:Program}{w:World}{K:PySem.W.Frag}{mg:Z6}{base:Heap}{CX:CXT}{k:Nat}{f:Addr}{fd:FuncData}{ps:List Str}{sp sp':Sp}(F:FnOk P w K mg base CX k f fd ps sp)
  (h:∀vs H Q E,sp' vs H Q E->sp vs H Q E):FnOk P w K mg base CX k f fd ps sp' :=
 ⟨fun vs H Q E q=>F.len vs H Q E (h _ _ _ _ q),fun A outer s H args us vs Q E hr he hb hv hs=>F.run A outer s H args us vs Q E hr he hb hv (h _ _ _ _ hs)⟩
theorem Env0.make{P:Program}{w:World}{K:PySem.W.Frag}{mg:Z6}{base:Heap}{A:Around}{outer:List Env}{s:Shared}{H:Hp}(e:Env0 P w K mg base A outer s H)(C:Addr)(us:List Value)(kw:List (Str×Value)) :
  Env0 P w K mg base (A.under (.builtin "type.__call__" ⟨.ref C::us,kw⟩)) outer s H:=⟨by first | exact e.frames | (simpa [Around.under,Code.envs,Code.isFrame,pushEnvs] using e.frames),e.mod,e.bs,e.bsz,e.funs,e.frf,e.hok,e.bare⟩
section
variable{X:Cx}{pins:Z3}{σ:St}{H:Hp}{s s':Shared}
theorem Inv.env0(I:Inv X pins σ H s):Env0 X.prog X.w X.K X.mg X.base X.A X.stack s H :=
 ⟨I.ok.frames,I.ok.mod,I.bs,Nat.le_trans I.ok.bsz I.sz,I.stack,I.stkFree,I.hok,I.bare⟩
theorem Inv.after{Q:VK}{u:Value}(I:Inv X pins σ H s)(h:CE X.stack X.prog X.w H s Q u s'):EP X pins σ Q u s':=by
 obtain ⟨v,H',os,bare,un,hok,r,q⟩:=h;obtain ⟨hh,g,d,t,os'⟩:=s';obtain rfl:os'=s.os:=os;exact ⟨v,H',I.call (h':=hh) (g':=g) (d':=d) (t':=t) (ch:=[]) un hok bare (fun b z=>absurd z (by simp)),r,q⟩
end
def zbG(K:PySem.W.Frag)(fd:FuncData)(ps:List Str)(ds:List Value):Prop :=
 ∀(s:Shared) (us:List Value),K.In s.heap->(us++ds).length=ps.length->BindsTo s fd ⟨us,[]⟩ (ps.zip (us++ds))
theorem zbG.all{K:PySem.W.Frag}{fd:FuncData}{ps:List Str}(h:∀us:List Value,us.length=ps.length->bindArgs fd ⟨us,[]⟩=pure (ps.zip us)):zbG K fd ps []:=fun s us _ hl=>by
 rw [List.append_nil] at hl ⊢;exact .of_eq (h us hl)
def zrM(CX:CXT)(X:Cx)(E:XK):Prop:=∀(pins:Z3) (σ:St) (H:Hp) (s:Shared) (e:Value) (s':Shared),Inv X pins σ H s->CX X.stack H s E e s'->X.xe e s'
section
variable{X:Cx}{CX:CXT}{k:Nat}{f C:Addr}{fd:FuncData}{ps:List Str}{sp:Sp}{dvs:List V}{ds:List Value}{E:XK}{x m:Str}{p pos apos:Pos}{e o:Expr}{es:List Expr}{ta:TE}{t:TA}
structure Mk(K:PySem.W.Frag)(C f:Addr):Prop where
 makes:PySem.W.makesIn K C=true
 init:PySem.W.findIn K (.ref C) "__init__" = some (some (.ref f))
 fn:PySem.W.isFn K (.ref f)=true
 kp:PySem.W.keepIn K (.ref C)=true
end
section
variable{X:Cx}{CX:CXT}{k:Nat}{f C:Addr}{fd:FuncData}{ps ks:List Str}{sp:Sp}{E:XK}{x m:Str}{p pos apos kpos:Pos}{e o:Expr}{es:List Expr}{kws:List Keyword}{te ta:TE}{t tk:TA}{nm:Option Str}
variable{g:List Value->List Value->List Value}{gV:List V->List V->List V}
end
structure FnScope(N P:List Str)(sc:Scope):Prop where
 kind:sc.kind=.function
 co:sc.isCoroutine=false
 gen:sc.isGenerator=false
 nd:N.Nodup
 pre:N.take P.length=P
 par:∀x∈P,sc.names.lookup x=some .local\/sc.names.lookup x=some .cell
 nofree:∀y∈sc.names,y.2≠.free
theorem zg7{kindOf:Str->Option NameKind}{x:Str}:∀{binds:List (Str×Value)} {m:Z6},(∀v,(x,v) ∉ binds)->bindL kindOf binds m x=m x
 | [],_,_=>rfl
 | (n,v)::r,m,h=>by
  unfold bindL;rw [zg7 fun w hw=>h w (List.mem_cons_of_mem _ hw)];split
  ·have:x≠n:=by rintro rfl;exact h v List.mem_cons_self
   simp [this]
  ·rfl
theorem zg9{kindOf:Str->Option NameKind}{x:Str}:∀{binds:List (Str×Value)} {m:Z6},(∀v,(x,v) ∉ binds)->bindC kindOf binds m x=m x
 | [],_,_=>rfl
 | (n,v)::r,m,h=>by
  unfold bindC;rw [zg9 fun w hw=>h w (List.mem_cons_of_mem _ hw)];split
  ·rfl
  ·have:x≠n:=by rintro rfl;exact h v List.mem_cons_self
   simp [this]
theorem zg8{kindOf:Str->Option NameKind}{x:Str}{v:Value}:∀{P:List Str} {vs:List Value} {i:Nat} {m:Z6},P.Nodup->P[i]?=some x->vs[i]?=some v->kindOf x=some .local →
  bindL kindOf (P.zip vs) m x=some v
 | [],_,_,_,_,h,_,_=>by simp at h
 | _::_,[],_,_,_,_,h,_=>by simp at h
 | p::P,w::vs,0,m,nd,h1,h2,hk=>by
  simp at h1 h2;subst h1;subst h2;show bindL kindOf ((p,w)::P.zip vs) m p=_;unfold bindL;rw [zg7 fun v hv=>(List.nodup_cons.mp nd).1 (List.of_mem_zip hv).1,if_pos hk];simp
 | p::P,w::vs,i+1,m,nd,h1,h2,hk=>by
  show bindL kindOf ((p,w)::P.zip vs) m x=_;unfold bindL;exact zg8 (i:=i) (List.nodup_cons.mp nd).2 (by simpa using h1) (by simpa using h2) hk
theorem zha{kindOf:Str->Option NameKind}{x:Str}{v:Value}:∀{P:List Str} {vs:List Value} {i:Nat} {m:Z6},P.Nodup->P[i]?=some x->vs[i]?=some v->kindOf x≠some .local →
  bindC kindOf (P.zip vs) m x=some v
 | [],_,_,_,_,h,_,_=>by simp at h
 | _::_,[],_,_,_,_,h,_=>by simp at h
 | p::P,w::vs,0,m,nd,h1,h2,hk=>by
  simp at h1 h2;subst h1;subst h2;show bindC kindOf ((p,w)::P.zip vs) m p=_;unfold bindC;rw [zg9 fun v hv=>(List.nodup_cons.mp nd).1 (List.of_mem_zip hv).1,if_neg hk];simp
 | p::P,w::vs,i+1,m,nd,h1,h2,hk=>by
  show bindC kindOf ((p,w)::P.zip vs) m x=_;unfold bindC;exact zha (i:=i) (List.nodup_cons.mp nd).2 (by simpa using h1) (by simpa using h2) hk
def zeH(N:List Str)(vs:List V):St:=vs.map some++List.replicate (N.length-vs.length) none
def zkU(CX:CXT)(P:Program)(w:World)(K:PySem.W.Frag)(mg:Z6)(base:Heap)(N:List Str)(qual:Str)(scope:Scope)(f:Addr)(cd:Value)(A:Around)(outer:List Env)(s:Shared)(H:Hp)(E:XK):Cx where
 prog:=P
 w:=w
 K:=K
 mg:=mg
 base:=base
 A:=A.deeper (envOfC qual scope s.heap.objs.size f cd)
 N:=N
 s₀:=s
 H₀:=H
 env:=envOfC qual scope s.heap.objs.size f cd
 outer:=outer
 stack:=envOfC qual scope s.heap.objs.size f cd::outer
 ex:=[]
 calm:=true
 fn:=fun _=>true
 pn:=[]
 xe:=fun e s'=>wpAny (model P w) (A.deeper (envOfC qual scope s.heap.objs.size f cd)) (leaving (envOfC qual scope s.heap.objs.size f cd) e) (fun _ s''=>CX outer H s E e s'') (fun e' s''=>CX outer H s E e' s'') s'
theorem ziB{sc:Scope}{n:Nat}{x:Str}(h:sc.names.lookup x=some .cell):∃c,(cellsFrom n sc.names []).lookup x=some c:=by
 have q:=PySem.W.cellsFrom_some sc.names n [] (.inl h);exact Option.isSome_iff_exists.mp q
theorem zkB{CX:CXT}{P:Program}{w:World}{K:PySem.W.Frag}{mg:Z6}{base:Heap}{N ps:List Str}{qual:Str}{scope:Scope}{f:Addr}{cd:Value}{A:Around}{outer:List Env}{s s1:Shared}{H:Hp}{E:XK}{us:List Value}{vs:List V}
  (S:FnScope N ps scope) (hd:A.handled=none) (e0:Env0 P w K mg base A outer s H) (hl:vs.length=ps.length) (r:Vals vs us)
  (x:InCallC s s.heap.objs.size (bindL (envOfC qual scope s.heap.objs.size f cd).kindOf (ps.zip us) fun _=>none) (cellsFrom (s.heap.objs.size+1) scope.names []) (bindC (envOfC qual scope s.heap.objs.size f cd).kindOf (ps.zip us) fun _=>none) s1) :
  Inv (zkU CX P w K mg base N qual scope f cd A outer s H E) [] (zeH N vs) H s1:=by
 have hpl:ps.length<=N.length:=by have:=congrArg List.length S.pre;rw [List.length_take] at this;omega
 obtain ⟨h1,tk,rfl,hk⟩:=x.done;have noA:∀b:Addr,b ∉ (zkU CX P w K mg base N qual scope f cd A outer s H E).ex:=fun b z=>absurd (show b∈([]:List Addr) from z) (by simp)
 refine ⟨⟨e0.mod,S.kind,rfl,rfl,Nat.le_refl _,fun y z c h1 h2=>?_,fun y hy=>?_,fun y c _ h=>?_,fun _=>hd,Around.frames_deeper e0.frames,.inr ⟨rfl,rfl⟩,fun b z=>absurd z (noA b),e0.bs,e0.bsz,fun b _ _=>noA b,fun b z=>absurd z (noA b),e0.funs,e0.frf⟩,
  rfl,e0.bare,Un.kept hk,⟨_,x.toInCall.ns,fun i y v h1 h2 h3=>?_⟩,fun y c h=>⟨_,x.cell y c h⟩,e0.hok.fresh (Nat.le_refl _),fun y c h=>?_,fun p hp=>absurd (show p∈([]:Z3) from hp) (by simp),e0.hok.kept hk,?_⟩
 ·exact name_of_addr x.apart (PySem.mem_of_lookup h1) (PySem.mem_of_lookup h2)
 ·have hy:scope.names.lookup y=some .cell\/scope.names.lookup y=some .free:=hy
  rcases hy with hy | hy
  ·exact ziB hy
  ·exact absurd rfl (S.nofree _ (PySem.mem_of_lookup hy))
 ·exact Nat.le_of_lt (x.above y c (PySem.mem_of_lookup h))
 ·have hi:i<vs.length:=by
   unfold zeH at h2
   by_cases hi:i<vs.length
   ·exact hi
   ·rw [List.getElem?_append_right (by simpa using hi)] at h2;rw [List.getElem?_replicate] at h2
    split at h2<;>cases h2
  have ha:vs[i]?=some v:=by
   unfold zeH at h2;rw [List.getElem?_append_left (by simpa using hi),List.getElem?_map] at h2
   cases e:vs[i]? with
   | none=>rw [e] at h2;cases h2
   | some a=>rw [e] at h2;cases h2;rfl
  obtain ⟨u,hu,rv⟩:=r.get ha
  have hp:ps[i]?=some y:=by
   rw [<-S.pre,List.getElem?_take_of_lt (by omega)];exact h1
  have ndP:ps.Nodup:=by rw [<-S.pre];exact S.nd.sublist (List.take_sublist _ _)
  refine ⟨u,rv,?_⟩
  rcases S.par y (List.mem_of_getElem? hp) with k | k
  ·exact .inl ⟨k,zg8 ndP hp hu k⟩
  ·obtain ⟨c,e⟩:=ziB (n:=s.heap.objs.size+1) k;refine .inr ⟨.inl k,c,e,?_⟩;have q:=x.cell y c e;rw [zha ndP hp hu (by show scope.names.lookup y≠_;rw [k];decide)] at q;exact q
 ·exact e0.hok.fresh (Nat.le_of_lt (x.above y c (PySem.mem_of_lookup h)))
 ·unfold zeH;show _=N.length;rw [List.length_append,List.length_map,List.length_replicate];omega
theorem zrj{CX:CXT}{P:Program}{w:World}{K:PySem.W.Frag}{mg:Z6}{base:Heap}{k:Nat}{f:Addr}{name qual:Str}{params:Arguments}{body:List Stmt}{scope:Scope}{dV kV doc pm cdv ct oc:Value}{an od:Option Addr}
  {osl:Array (Option Value)} {N ps:List Str} {sp:Sp} (lk:K.lookup f=some ⟨oc,od,.func (PySem.W.fnOf name qual params body scope dV kV doc pm an cdv ct),osl⟩) (hcd:PySem.W.codeIn K cdv qual=true) (S:FnScope N ps scope)
  (len:∀vs H Q E,sp vs H Q E->vs.length=ps.length)
  (hbody:∀(A:Around) (outer:List Env) (s:Shared) (H:Hp) (vs:List V) (Q:VK) (E:XK),Room k (A.deeper (envOfC qual scope s.heap.objs.size f cdv))->sp vs H Q E →
   ∃t,PSs (zkU CX P w K mg base N qual scope f cdv A outer s H E) body t/\t { nx:=fun _ H'=>Q .non H',rt:=Q } (zeH N vs) H) :
  FnOk P w K mg base CX (k+1) f (PySem.W.fnOf name qual params body scope dV kV doc pm an cdv ct) ps sp:=by
 refine ⟨len,fun A outer s H args us vs Q E hr e0 hb r hsp=>?_⟩;have hl:=len _ _ _ _ hsp;have KX:K.In s.heap:=e0.mod.kin.keeps fun b o e=>(e0.bs b o e).1
 have lim:s.heap.NoLimit:=e0.mod.nolimit.keeps fun b o e=>(e0.bs b o e).1
 have hkind:∀y∈ps.zip us,scope.names.lookup y.1=some .local\/(scope.names.lookup y.1=some .cell/\((cellsFrom (s.heap.objs.size+1) scope.names []).lookup y.1).isSome=true):=fun ⟨n,v⟩ hy=>by
  rcases S.par n (List.of_mem_zip hy).1 with q | q
  ·exact .inl q
  ·exact .inr ⟨q,PySem.W.cellsFrom_some _ _ _ (.inl q)⟩
 refine codeAny_call_function hr.depth (KX _ _ lk) rfl S.co S.gen rfl (PySem.W.codeRec_of KX hcd) (hb _ _ _ _ ?_);refine wpAny_newFunctionEnv_cells S.kind hkind fun env he s1 x=>?_
 subst he;refine ⟨lim.keeps x.toInCall.keep,codeAny_func ?_⟩;obtain ⟨t,ht,hq⟩:=hbody A outer s H vs Q E (hr.deeper _) hsp;have I:Inv (zkU CX P w K mg base N qual scope f cdv A outer s H E) [] (zeH N vs) H s1:=zkB S hr.hd e0 hl r x;refine wpAny_mono (ht [] s1 (zeH N vs) H _ I hq) (fun fl s' hs=>?_) fun e s' hs=>hs
 have fin:∀{σ':St} {H':Hp} {v:V} {u:Value},Inv (zkU CX P w K mg base N qual scope f cdv A outer s H E) [] σ' H' s'->zbp v u->Q v H'->CE outer P w H s Q u s' :=
  fun {σ' H' v u} J rv q=>⟨v,H',J.os,J.bare,J.base,J.hok,rv,q⟩
 cases fl with
 | ret u =>
  obtain ⟨v,σ',H',J,rv,q⟩:=hs;exact fin J rv q
 | next =>
  obtain ⟨σ',H',J,q⟩:=hs;exact fin (v:=V.non) (u:=Value.none) J rfl q
 | brk =>
  obtain ⟨_,_,_,q⟩:=hs;exact False.elim q
 | cont =>
  obtain ⟨_,_,_,q⟩:=hs;exact False.elim q
end L2
namespace L2
open PySem PySem.Spec PyProof.Rows
section
variable{X:Cx}{x:Str}{p pos:Pos}{e:Expr}{es:List Expr}{t:TA}{id T:String}{r:List V->Hp->VK->Prop}
def tCB(r:List V->Hp->VK->Prop)(t:TA):TE:=fun σ H Q=>t σ H fun vs H1=>r vs H1 Q
theorem zh6(hc:zd4 X (.builtin id) r)(hg:Gl X x)(hm:X.mg x=none)(hv:bootBuiltins x=some (.builtin id))(ha:PA X (e::es) t)(hn:x ≠ "__name__":=by decide)(hdb:(x == ("__debug__":Str))=false:=by decide)
  (he:starEach (e::es) X.env=(false,eval e X.env)::starEach es X.env:=by rfl) (hpl:(backTo pos (starEach es X.env)).any (·.1)=false:=by rfl):PE X (.Call (.Name x p) (e::es) [] pos) (tCB r t):=by
 intro pins s σ H Q I h;refine wpAny_Call_Name_kw (ze2 I hg hm hv ?_ hn hdb);exact PyProof.Rows.callWith_builtin1 (thn (ha pos pins s σ H _ I h) fun us s1 ⟨vs,H1,I1,r1,q1⟩=>hc pins s1 σ H1 vs us Q I1 r1 q1) he hpl
theorem zeU(hc:zd4 X (.type T) r)(hg:Gl X x)(hm:X.mg x=none)(hv:bootBuiltins x=some (.type T))(ha:PA X (e::es) t)(hn:x ≠ "__name__":=by decide)(hdb:(x == ("__debug__":Str))=false:=by decide)
  (he:starEach (e::es) X.env=(false,eval e X.env)::starEach es X.env:=by rfl) (hpl:(backTo pos (starEach es X.env)).any (·.1)=false:=by rfl):PE X (.Call (.Name x p) (e::es) [] pos) (tCB r t):=by
 intro pins s σ H Q I h;refine wpAny_Call_Name_kw (ze2 I hg hm hv ?_ hn hdb);exact PyProof.Rows.callWith_type1 (thn (ha pos pins s σ H _ I h) fun us s1 ⟨vs,H1,I1,r1,q1⟩=>hc pins s1 σ H1 vs us Q I1 r1 q1) he hpl
end
end L2
namespace HT
open PySem PyProof.Rows
section
open PySem.SeqAt
open PySem.AutoSeq1 (wpAny_loadPart')
open PySem.MeetsSeq PySem.MeetsSeq2 PySem.MeetsSeq3
end
section
variable{prog:Program}{w:World}{A:Around}{E:Z5}{s:Shared}
theorem zoX{t b:Addr}{vs ws:List Value}{Q:Z5}(ht:IsTup s.heap t vs.toArray)(hb:IsTup s.heap b ws.toArray)(hv:vs≠[])
  (h1:ws=[]->Q (.ref t) s) (h2:ws≠[]->Q (.ref s.heap.objs.size) { s with heap:=s.heap.push { cls:=.type "tuple",data:=.seq (vs++ws).toArray } })
  (hsz:vs.length+ws.length<=sizeLine):wpAny (model prog w) A (binaryOp .Add (.ref t) (.ref b)) Q E s:=by
 obtain ⟨⟨cls,dd,data,sl⟩,ho,hc,n,hd⟩:=id ht;obtain ⟨⟨cls2,dd2,data2,sl2⟩,ho2,hc2,n2,hd2⟩:=id hb;simp only at hc hd hc2 hd2;subst hc hd hc2 hd2
 have e:vs.toArray++ws.toArray=(vs++ws).toArray:=by simp
 by_cases hw:ws=[]
 ·exact concat_meets ⟨_,ho,rfl⟩ ⟨_,ho2,rfl⟩ noFill_tuple_add seq_tuple_add PySem.F.slot_tuple_add PySem.F.entry_tuple_add (PySem.F.args_tuple_add_2 _ _)
   (tuple_addW1 t b vs.toArray ws.toArray n n2 dd dd2 sl sl2 (by simpa using hv) (by simp [hw])) ⟨ho,ho2,h1 hw⟩
 ·refine concat_meets ⟨_,ho,rfl⟩ ⟨_,ho2,rfl⟩ noFill_tuple_add seq_tuple_add PySem.F.slot_tuple_add PySem.F.entry_tuple_add (PySem.F.args_tuple_add_2 _ _)
   (tuple_addW2 t b vs.toArray ws.toArray n n2 dd dd2 sl sl2 (by simpa using hv) (by simpa using hw) (by rw [List.size_toArray,List.size_toArray];exact hsz)) ⟨ho,ho2,?_⟩
  rw [e];exact h2 hw
def sIx(n d:Nat):Option Int->Nat
 | none=>d
 | some v=>if v<0 then (v+(n:Int)).toNat else min v.toNat n
theorem zjI(n d k:Nat):sIx n d (some (k:Int))=min k n:=by
 show (if (k:Int)<0 then ((k:Int)+(n:Int)).toNat else min (k:Int).toNat n)=min k n;rw [if_neg (by omega),Int.toNat_natCast]
theorem zp5(n d:Nat)(hd:d<=n)(o:Option Int):sIx n d o<=n:=by
 cases o with
 | none=>exact hd
 | some v =>
  show (if v<0 then (v+(n:Int)).toNat else min v.toNat n)<=n
  by_cases hv:v<0
  ·rw [if_pos hv];omega
  ·rw [if_neg hv];exact Nat.min_le_right _ _
theorem zk2(v:Int)(n d:Nat):(if v<0 then max (v+(n:Int)) 0 else min v (n:Int))=((sIx n d (some v):Nat):Int):=by
 show (if v<0 then max (v+(n:Int)) 0 else min v (n:Int))=(((if v<0 then (v+(n:Int)).toNat else min v.toNat n):Nat):Int)
 by_cases hv:v<0
 ·simp only [if_pos hv];omega
 ·simp only [if_neg hv];omega
theorem zjb(lo hi:Option Int)(n:Nat):Builtin.Slice.sliceAdjust lo hi 1 (n:Int)=(((sIx n 0 lo:Nat):Int),((sIx n n hi:Nat):Int)):=by
 have h1:¬ ((1:Int)<0):=by omega
 unfold Builtin.Slice.sliceAdjust;simp only [h1,if_false];refine Prod.ext ?_ ?_
 ·cases lo with
  | none=>rfl
  | some v=>exact zk2 v n 0
 ·cases hi with
  | none=>rfl
  | some v=>exact zk2 v n n
theorem ziS(i j:Nat):Builtin.Slice.slicePlaces (i:Int) (j:Int) 1=j-i:=by
 unfold Builtin.Slice.slicePlaces
 have h1:(1:Int) > 0:=by omega
 simp only [h1,if_true,Int.ediv_one]
 split<;>omega
theorem zfo{v:Value}{o:Option Int}{Q:Option Int->Shared->Prop}(p:IsPart v o)(h:Q o s):wpAny (model prog w) A (Builtin.Slice.slicePartIndex v) Q E s:=by
 cases p with
 | none=>exact slicePart_none h
 | int i t=>exact slicePart_int h
theorem zcO{sl:Addr}{vl vu:Value}{lo hi:Option Int}{n:Nat}{Q:Int×Int×Nat->Shared->Prop}(hs:s.heap.IsSliceOf sl vl vu .none)(pl:IsPart vl lo)(pu:IsPart vu hi)
  (h:Q (((sIx n 0 lo:Nat):Int),1,sIx n n hi-sIx n 0 lo) s):wpAny (model prog w) A (Builtin.Slice.sliceApplied (.ref sl) (pure (n:Int))) Q E s:=by
 obtain ⟨os,hos,hcs,hds⟩:=id hs;unfold Builtin.Slice.sliceApplied Builtin.Slice.sliceFields;refine wpAny_bind (wpAny_bind (wpAny_field hos hds (x:=vl) rfl (wpAny_bind (wpAny_field hos hds (x:=vu) rfl (wpAny_bind (wpAny_field hos hds (x:=.none) rfl (wpAny_pure ?_)))))));refine wpAny_bind (slicePart_none ?_);show wpAny _ _ (if ((1:Int) == 0)=true then _ else _) _ _ s;rw [if_neg (by decide)];refine wpAny_bind (zfo pl (wpAny_bind (zfo pu (wpAny_bind (wpAny_pure ?_)))));show wpAny _ _ (match Builtin.Slice.sliceAdjust lo hi 1 (n:Int) with | (lo,hi)=>pure (lo,(1:Int),Builtin.Slice.slicePlaces lo hi 1)) _ _ s;rw [zjb lo hi n];show wpAny _ _ (pure (((sIx n 0 lo:Nat):Int),(1:Int),Builtin.Slice.slicePlaces ((sIx n 0 lo:Nat):Int) ((sIx n n hi:Nat):Int) 1)) _ _ s;rw [ziS];exact wpAny_pure h
theorem zlO(xs:Array Value)(i k:Nat):((List.range k).filterMap fun (m:Nat)=>xs[((i:Int)+(m:Int)*1).toNat]?).toArray=((xs.toList.drop i).take k).toArray:=by
 have e:(fun (m:Nat)=>xs[((i:Int)+(m:Int)*1).toNat]?)=fun m=>xs[i+m]?:=by
  funext m
  have:((i:Int)+(m:Int)*1).toNat=i+m:=by omega
  rw [this]
 rw [e];have:=pick_run xs i k;rw [List.filterMap_map] at this;have e2:((fun x=>xs[x]?)∘fun x=>i+x)=fun m=>xs[i+m]?:=rfl
 rw [e2] at this;rw [this]
theorem zed{t sl:Addr}{items:Array Value}{vl vu:Value}{lo hi:Option Int}{Q:Z5}(ht:IsTup s.heap t items)(hs:s.heap.IsSliceOf sl vl vu .none)(pl:IsPart vl lo)(pu:IsPart vu hi)
  (hw:¬ (sIx items.size 0 lo=0/\sIx items.size items.size hi=items.size))
  (h:Q (.ref s.heap.objs.size) { s with heap:=s.heap.push { cls:=.type "tuple",data:=.seq ((items.toList.drop (sIx items.size 0 lo)).take (sIx items.size items.size hi-sIx items.size 0 lo)).toArray } })
  (hsz:items.size<=sizeLine):wpAny (model prog w) A (getItem (.ref t) (.ref sl)) Q E s:=by
 have htake:sizeOk (.seq ((items.toList.drop (sIx items.size 0 lo)).take (sIx items.size items.size hi-sIx items.size 0 lo)).toArray):=by
  show ((items.toList.drop (sIx items.size 0 lo)).take (sIx items.size items.size hi-sIx items.size 0 lo)).toArray.size<=sizeLine;rw [List.size_toArray,List.length_take,List.length_drop,Array.length_toList];omega
 have hj:sIx items.size items.size hi<=items.size:=zp5 _ _ (Nat.le_refl _) hi;obtain ⟨os,hos,hcs,hds⟩:=id hs;have hTs:s.TypeIs (.ref sl) "slice":=⟨os,hos,hcs⟩;unfold getItem
 try with_reducible refine wpAny_holding ?_
 first | refine wpAny_bind (wpAny_pure ?_) | skip
 refine wpAny_bind (wpAny_sequenceKey ht.typeIs (by decide) ?_)
 refine wpAny_bind (wpAny_callSpecial?_slot (name:=Str.ofString "__getitem__") ht.typeIs PyProof.Rows.slot_tuple_getitem
  (wpAny_call_entry PyProof.Rows.slot_tuple_getitem ht.typeIs entry_tuple_getitem ?_ (args_tuple_getitem _ _)))
 show wpAny _ _ (Builtin.Tuple.tupleItemsOf (.ref t) >>= _) _ _ s;refine wpAny_bind (tupleItemsOf_ ht ?_);refine wpAny_bind (wpAny_typeOf hTs ?_);rw [if_pos (by decide)];refine wpAny_bind (zcO hs pl pu ?_)
 have hno:¬ ((((sIx items.size 0 lo:Nat):Int) == 0&&(1:Int) == 1&&(sIx items.size items.size hi-sIx items.size 0 lo) == items.size)=true):=by
  intro q;rw [Bool.and_eq_true,Bool.and_eq_true] at q;have q1:((sIx items.size 0 lo:Nat):Int)=0:=eq_of_beq q.1.1;have q2:sIx items.size items.size hi-sIx items.size 0 lo=items.size:=eq_of_beq q.2;exact hw ⟨by omega,by omega⟩
 show wpAny _ _ (if (((sIx items.size 0 lo:Nat):Int) == 0&&(1:Int) == 1&&(sIx items.size items.size hi-sIx items.size 0 lo) == items.size)=true then _ else _) _ _ s;rw [if_neg hno,zlO]
 first
  | exact wpAny_bind (m:=Builtin.Tuple.tupleExact _) (wpAny_newObj_type (wpAny_pure ⟨_,rfl,wpAny_pure h⟩) htake)
  | exact wpAny_bind (m:=Builtin.Tuple.tupleExact _) (wpAny_newObj_type (wpAny_bind (wpAny_pure (wpAny_pure ⟨_,rfl,wpAny_pure h⟩))) htake)
  | exact wpAny_bind (wpAny_bind (m:=Builtin.Tuple.tupleExact _) (wpAny_newObj_type (wpAny_pure (wpAny_pure ⟨_,rfl,wpAny_pure h⟩)) htake))
  | exact wpAny_bind (wpAny_bind (m:=Builtin.Tuple.tupleExact _) (wpAny_newObj_type (wpAny_pure ⟨_,rfl,wpAny_pure h⟩) htake))
end
end HT
namespace L2
open PySem PySem.Spec PyProof.Rows
abbrev TO:=St->Hp->(Option Int->Hp->Prop)->Prop
def PO(X:Cx)(e:Option Expr)(t:TO):Prop :=
 ∀(pins:Z3) (s:Shared) (σ:St) (H:Hp) (Q:Option Int->Hp->Prop),Inv X pins σ H s->t σ H Q →
  wpAny (model X.prog X.w) X.A (evalPart e X.env) (fun u s'=>∃o H',Inv X pins σ H' s'/\IsPart u o/\Q o H') X.xe s
def zjv:TO:=fun _ H Q=>Q none H
def zpt(t:TE):TO:=fun σ H Q=>t σ H fun x H1=>∃i,x=.int i/\Q (some i) H1
section
variable{X:Cx}{e:Expr}{te:TE}{lo hi:Option Expr}{tl th:TO}{pos p2:Pos}
theorem zn2:PO X none zjv:=by
 intro pins s σ H Q I h;rw [evalPart_none];exact wpAny_pure ⟨none,H,I,.none,h⟩
theorem zn1(h:PE X e te):PO X (some e) (zpt te):=by
 intro pins s σ H Q I hw;rw [evalPart_some];refine thn (h pins s σ H _ I hw) fun u s1 ⟨x,H1,I1,r1,q1⟩=>?_
 obtain ⟨i,rfl,q⟩:=q1;obtain ⟨t,rfl⟩:=r1;exact ⟨some i,H1,I1,.int i t,q⟩
def SlR(X:Cx)(r:V->Option Int->Option Int->Hp->VK->Prop):Prop :=
 ∀(pins:Z3) (s:Shared) (σ:St) (H:Hp) (x:V) (v vl vu:Value) (lo hi:Option Int) (sl:Addr) (Q:VK),Inv X pins σ H s->zbp x v->s.heap.IsSliceOf sl vl vu .none->IsPart vl lo->IsPart vu hi->r x lo hi H Q →
  ∃T id,typeLookup (.type T) "__getitem__" = pure (some (.builtin id))/\s.TypeIs v T/\wpAny (model X.prog X.w) X.A (getItem v (.ref sl)) (EP X pins σ Q) X.xe s
def tSl(r:V->Option Int->Option Int->Hp->VK->Prop)(te:TE)(tl th:TO):TE:=fun σ H Q=>te σ H fun x H1=>tl σ H1 fun l H2=>th σ H2 fun u H3=>r x l u H3 Q
theorem zlQ{r:V->Option Int->Option Int->Hp->VK->Prop}(hr:SlR X r)(he:PE X e te)(hl:PO X lo tl)(hu:PO X hi th):PE X (.Subscript e (.Slice lo hi none p2) pos) (tSl r te tl th):=by
 intro pins s σ H Q I h;refine Subscript_ (thn (he pins s σ H _ I h) fun v s1 ⟨x,H1,I1,r1,q1⟩=>?_);refine wpAny_Slice (thn (hl pins s1 σ H1 _ I1 q1) fun vl s2 ⟨l,H2,I2,pl,q2⟩=>thn (hu pins s2 σ H2 _ I2 q2) fun vu s3 ⟨u,H3,I3,pu,q3⟩=>?_);rw [evalPart_none];refine wpAny_pure ?_;have I4:Inv X pins σ H3 { s3 with heap:=s3.heap.push { cls:=.type "slice",data:=.fields #[vl,vu,.none] } }:=I3.kept (t':=s3.toks) fun b ob q=>Heap.get?_push_of_some _ q
 obtain ⟨T,id,hT,ht,hg⟩:=hr pins { s3 with heap:=s3.heap.push { cls:=.type "slice",data:=.fields #[vl,vu,.none] } } σ H3 x v vl vu l u s3.heap.objs.size Q I4 r1 (Heap.IsSliceOf.new ..) pl pu q3;show wpAny (model X.prog X.w) X.A (subscriptTail e (.Slice lo hi none p2) v (.ref s3.heap.objs.size)) (EP X pins σ Q) X.xe { s3 with heap:=s3.heap.push { cls:=.type "slice",data:=.fields #[vl,vu,.none] } };exact tail_any (ops:=[.ref s3.heap.objs.size,v]) ht hT hg (by with_unfolding_all rfl)
def znf(xs:List V)(lo hi:Option Int):List V:=(xs.drop (HT.sIx xs.length 0 lo)).take (HT.sIx xs.length xs.length hi-HT.sIx xs.length 0 lo)
theorem zfe(xs:List V)(lo hi:Option Int):(znf xs lo hi).length<=xs.length:=by
 unfold znf;rw [List.length_take,List.length_drop];omega
def zwC(K:PySem.W.Frag):V->Option Int->Option Int->Hp->VK->Prop:=fun x lo hi H Q=>∃a xs,x=.ref a/\SqT K H a xs ∧
 ¬ (HT.sIx xs.length 0 lo=0/\HT.sIx xs.length xs.length hi=xs.length)/\∀p,H p=none->Q (.ref p) (upd H p (.tup (znf xs lo hi)))
theorem zpN:SlR X (zwC X.K):=by
 intro pins s σ H x v vl vu lo hi sl Q I rx hs pl pu h;obtain ⟨a,xs,rfl,hx,hw,q⟩:=h;cases rx;obtain ⟨its,r,ht,hz⟩:=I.tuple hx
 have hlen:its.toArray.size=xs.length:=by rw [List.size_toArray];exact r.length.symm
 refine ⟨"tuple",_,PyProof.Rows.slot_tuple_getitem.lookup,ht.typeIs,?_⟩;refine HT.zed ht hs pl pu (by rw [hlen];exact hw) ?_ (by rw [hlen];exact hz);rw [hlen];refine ⟨.ref s.heap.objs.size,_,I.laid (t':=s.toks) (o:=.tup (znf xs lo hi)) (fun b ob q=>Heap.get?_push_of_some _ q) (Nat.le_refl _) ?_,rfl,q _ (I.hok.fresh (Nat.le_refl _))⟩;exact ⟨Nat.le_trans (zfe xs lo hi) hz,_,(r.drop (HT.sIx xs.length 0 lo)).take (HT.sIx xs.length xs.length hi-HT.sIx xs.length 0 lo),IsTup.new _ _⟩
def zsR(K:PySem.W.Frag):R2:=fun x y H Q=>∃a b xs ys,x=.ref a/\y=.ref b/\SqT K H a xs/\SqT K H b ys/\xs≠[]/\xs.length+ys.length<=sizeLine ∧
 (ys=[]->Q (.ref a) H)/\(ys≠[]->∀p,H p=none->Q (.ref p) (upd H p (.tup (xs++ys))))
theorem Vals.nil_iff{xs:List V}{us:List Value}(r:Vals xs us):us=[]↔xs=[]:=by
 cases r with
 | nil=>simp
 | cons _ _=>simp
theorem zoe:OpR X (binaryOp .Add) (zsR X.K):=by
 intro pins s σ H x y v u Q I rx ry h;obtain ⟨a,b,xs,ys,rfl,rfl,ha,hb,hx,hz,q1,q2⟩:=h;cases rx;cases ry;obtain ⟨its,r1,p1,_⟩:=I.tuple ha;obtain ⟨its2,r2,p2,_⟩:=I.tuple hb;refine HT.zoX p1 p2 (fun z=>hx (r1.nil_iff.mp z)) (fun z=>⟨.ref a,H,I,rfl,q1 (r2.nil_iff.mp z)⟩) (fun z=>?_) (by rw [<-r1.length,<-r2.length];exact hz);refine ⟨.ref s.heap.objs.size,_,I.laid (t':=s.toks) (o:=.tup (xs++ys)) (fun b ob q=>Heap.get?_push_of_some _ q) (Nat.le_refl _) ?_,rfl,q2 (fun w=>z (r2.nil_iff.mpr w)) _ (I.hok.fresh (Nat.le_refl _))⟩;exact ⟨by rw [List.length_append];exact hz,_,r1.append r2,IsTup.new _ _⟩
end
end L2
namespace L2
open PySem PySem.Spec PyProof.Rows
def ixN(n:Nat)(i:Int):Option Nat:=if 0<=i then (if i<n then some i.toNat else none) else if -(n:Int)<=i then some (i+n).toNat else none
def atI{α:Type}(xs:List α)(i:Int):Option α:=(ixN xs.length i).bind fun j=>xs[j]?
theorem zoA{n:Nat}{i:Int}{j:Nat}(h:ixN n i=some j):seqIndex? i n=some j/\j<n/\-(n:Int)<=i/\i<n:=by
 unfold ixN at h
 by_cases h0:0<=i
 ·rw [if_pos h0] at h
  by_cases h1:i<n
  ·rw [if_pos h1] at h;have e:i.toNat=j:=Option.some.inj h;exact ⟨by rw [seqIndex_of h0 h1,e],by omega,by omega,h1⟩
  ·rw [if_neg h1] at h;cases h
 ·rw [if_neg h0] at h
  by_cases h1:-(n:Int)<=i
  ·rw [if_pos h1] at h;have e:(i+n).toNat=j:=Option.some.inj h;exact ⟨by rw [seqIndex_neg (by omega) h1,e],by omega,h1,by omega⟩
  ·rw [if_neg h1] at h;cases h
theorem zlf{α:Type}{xs:List α}{i:Int}{v:α}(h:atI xs i=some v):∃j,seqIndex? i xs.length=some j/\xs[j]?=some v/\j<xs.length/\-(xs.length:Int)<=i/\i<xs.length:=by
 unfold atI at h
 cases e:ixN xs.length i with
 | none=>rw [e] at h;cases h
 | some j =>
  rw [e] at h;obtain ⟨h1,h2,h3,h4⟩:=zoA e;exact ⟨j,h1,h,h2,h3,h4⟩
def zgn(b:Expr):Prop:=∀o i,subscripted b false o i=operate [o,i] (getItem o i)
def IxR(X:Cx)(r:R2):Prop :=
 ∀(value slice:Expr) (pins:Z3) (s:Shared) (σ:St) (H:Hp) (x y:V) (v u:Value) (Q:VK),Inv X pins σ H s->zbp x v->zbp y u->r x y H Q →
  subscripted slice false v u=operate [v,u] (getItem v u)->wpAny (model X.prog X.w) X.A (subscriptTail value slice v u) (EP X pins σ Q) X.xe s
def MtR(X:Cx)(id:String)(r:V->List V->Hp->VK->Prop):Prop :=
 ∀(pins:Z3) (s:Shared) (σ:St) (H:Hp) (x:V) (xs:List V) (v:Value) (us:List Value) (Q:VK),Inv X pins σ H s->zbp x v->Vals xs us->r x xs H Q →
  wpAny (model X.prog X.w) X.A (call (.builtin id) (v::us)) (EP X pins σ Q) X.xe s
section
variable{X:Cx}{a b:Expr}{ta tb:TE}{pos:Pos}
theorem zqu{r:R2}(hr:IxR X r)(ha:PE X a ta)(hb:PE X b tb)(hs:zgn b):PE X (.Subscript a b pos) (tOp r ta tb):=by
 intro pins s σ H Q I h;exact Subscript_ (ztE ha hb I h fun v u s2 x y H2 I2 rx ry q=>hr a b pins s2 σ H2 x y v u Q I2 rx ry q (hs _ _))
def zwG(K:PySem.W.Frag):R2:=fun x y H Q=>∃p xs i v,x=.ref p/\y=.int i/\SqL K H p xs/\atI xs i=some v/\Q v H
def zwF(K:PySem.W.Frag):R2:=fun x y H Q=>∃p xs i v,x=.ref p/\y=.int i/\SqT K H p xs/\atI xs i=some v/\Q v H
theorem zkw:IxR X (zwG X.K):=by
 intro value slice pins s σ H x y v u Q I rx ry h hs;obtain ⟨p,xs,i,z,rfl,rfl,hq,he,q⟩:=h;cases rx;obtain ⟨t,rfl⟩:=ry;obtain ⟨its,r,pl,hz⟩:=I.list hq;obtain ⟨j,h1,h2,h3,h4,h5⟩:=zlf he;obtain ⟨w,ew,rw'⟩:=r.get h2;have hl:=r.length;have hn:=zif;have fin:EP X pins σ Q w s:=⟨z,H,I,rw',q⟩
 by_cases h0:0<=i
 ·have hj:i.toNat=j:=by
   rw [seqIndex_of h0 h5] at h1;exact Option.some.inj h1
  exact item_listR pl.isList h0 (by omega) (by rw [hj];simpa using ew) fin hs
 ·have hj:(i+(its.toArray.size:Int)).toNat=j:=by
   rw [seqIndex_neg (by omega) h4] at h1;rw [List.size_toArray,<-hl];exact Option.some.inj h1
  exact subscriptTail_builtinR (x:=w) pl.isList.typeIs slot_list_getitem.lookup
   (wpAny_getItem_list_neg (Q:=fun r s'=>r=w/\EP X pins σ Q r s') pl.isList (by omega) (by rw [List.size_toArray]<;>omega) (by omega) (by rw [hj];simpa using ew) ⟨rfl,fin⟩) hs
theorem zq9:IxR X (zwF X.K):=by
 intro value slice pins s σ H x y v u Q I rx ry h hs;obtain ⟨p,xs,i,z,rfl,rfl,hq,he,q⟩:=h;cases rx;obtain ⟨t,rfl⟩:=ry;obtain ⟨its,r,pl,hz⟩:=I.tuple hq;obtain ⟨j,h1,h2,h3,h4,h5⟩:=zlf he;obtain ⟨w,ew,rw'⟩:=r.get h2;have hl:=r.length;have hn:=zif;have fin:EP X pins σ Q w s:=⟨z,H,I,rw',q⟩
 exact subscriptTail_builtinR (x:=w) pl.typeIs slot_tuple_getitem.lookup
  (getItem_tuple (j:=j) (Q:=fun r s'=>r=w/\EP X pins σ Q r s') pl (by omega) (by omega) (by rw [List.size_toArray,<-hl];exact h1) (by simpa using ew) ⟨rfl,fin⟩) hs
theorem zgz(lo hi:Option Int)(n:Nat):(sliceBounds lo hi none n).1=((HT.sIx n 0 lo:Nat):Int)/\(sliceBounds lo hi none n).2.1=((HT.sIx n n hi:Nat):Int)/\(sliceBounds lo hi none n).2.2=1:=by
 refine ⟨?_,?_,rfl⟩
 ·cases lo with
  | none=>simp [sliceBounds,HT.sIx]
  | some i =>
   simp only [sliceBounds,HT.sIx,Option.getD_none,show (1:Int) > 0 by decide,if_true]
   by_cases h:i<0
   ·simp only [h,if_true]<;>omega
   ·simp only [h,if_false]<;>omega
 ·cases hi with
  | none=>simp [sliceBounds,HT.sIx]
  | some i =>
   simp only [sliceBounds,HT.sIx,Option.getD_none,show (1:Int) > 0 by decide,if_true]
   by_cases h:i<0
   ·simp only [h,if_true]<;>omega
   ·simp only [h,if_false]<;>omega
theorem zfR(its:List Value)(lo hi:Option Int):slicePick its.toArray lo hi none=((its.drop (HT.sIx its.length 0 lo)).take (HT.sIx its.length its.length hi-HT.sIx its.length 0 lo)).toArray:=by
 obtain ⟨h1,h2,h3⟩:=zgz lo hi its.toArray.size;unfold slicePick;rw [h1,h2,h3]
 simp only [sliceRange_one,pick_run,List.size_toArray]<;>rfl
def zwD(K:PySem.W.Frag):V->Option Int->Option Int->Hp->VK->Prop:=fun x lo hi H Q=>∃a xs,x=.ref a/\SqL K H a xs/\∀p,H p=none->Q (.ref p) (upd H p (.lst (znf xs lo hi)))
theorem znG:SlR X (zwD X.K):=by
 intro pins s σ H x v vl vu lo hi sl Q I rx hs pl pu h;obtain ⟨a,xs,rfl,hx,q⟩:=h;cases rx;obtain ⟨its,r,ht,hz⟩:=I.list hx;have hlen:=r.length;refine ⟨"list",_,slot_list_getitem.lookup,ht.isList.typeIs,?_⟩;refine wpAny_getItem_list_slice ht.isList hs pl pu .none (by simp) ?_ (by rw [List.size_toArray]<;>omega);rw [zfR,<-hlen];refine ⟨.ref s.heap.objs.size,_,I.laid (t':=s.toks) (o:=.lst (znf xs lo hi)) (fun b ob q=>Heap.get?_push_of_some _ q) (Nat.le_refl _) ?_,rfl,q _ (I.hok.fresh (Nat.le_refl _))⟩;exact ⟨Nat.le_trans (zfe xs lo hi) hz,_,0,(r.drop (HT.sIx xs.length 0 lo)).take (HT.sIx xs.length xs.length hi-HT.sIx xs.length 0 lo),Heap.get?_push_size _ rfl⟩
theorem zda:zd4 X (.builtin "len") (fun xs H Q=>∃p ys,xs=[.ref p]/\(SqL X.K H p ys\/SqT X.K H p ys)/\Q (.int ys.length) H):=by
 intro pins s σ H xs us Q I r h;obtain ⟨p,ys,rfl,hq,q⟩:=h;obtain ⟨u,rfl,rx⟩:=zgq r;cases rx;have hn:=zif
 rcases hq with hq | hq
 ·obtain ⟨its,r',pl,hz⟩:=I.list hq;have hlen:=r'.length;exact Calls.call_len_list pl.isList (by simp only [List.size_toArray]<;>omega) ⟨.int ys.length,H,I.tok _,⟨s.toks+1,by rw [List.size_toArray,hlen]⟩,q⟩
 ·obtain ⟨its,r',pl,hz⟩:=I.tuple hq;have hlen:=r'.length;exact len_tuple pl (by simp only [List.size_toArray]<;>omega) ⟨.int ys.length,H,I.tok _,⟨s.toks+1,by rw [List.size_toArray,hlen]⟩,q⟩
theorem zg5:zd4 X (.builtin "len") (fun xs H Q=>∃z,xs=[.str z]/\z.length<=sizeLine/\Q (.int z.length) H):=by
 intro pins s σ H xs us Q I r h;obtain ⟨z,rfl,hz,q⟩:=h;obtain ⟨u,rfl,t,rfl⟩:=zgq r;have hn:=zif;exact len_str (by omega) ⟨.int z.length,H,I.tok _,⟨_,rfl⟩,q⟩
theorem zeu:zd4 X (.type "list") (fun xs H Q=>∃p ys,xs=[.ref p]/\(SqL X.K H p ys\/SqT X.K H p ys)/\∀l,H l=none->Q (.ref l) (upd H l (.lst ys))):=by
 intro pins s σ H xs us Q I r h;obtain ⟨p,ys,rfl,hq,q⟩:=h;obtain ⟨u,rfl,rx⟩:=zgq r;cases rx
 have fin:∀(its:List Value),Vals ys its->ys.length<=sizeLine->∀(h':Heap) (c':Nat),(∀b o',s.heap.get? b=some o'->h'.get? b=some o') →
   h'.get? s.heap.objs.size=some { cls:=.type "list",dict:=none,data:=.seq its.toArray c',slots:=#[] }->EP X pins σ Q (.ref s.heap.objs.size) { s with heap:=h' }:=fun its r' hz h' c' kp e =>
  ⟨.ref s.heap.objs.size,_,I.laid (t':=s.toks) kp (Nat.le_refl _) (show zbZ X.prog X.w _ h' _ (.lst ys) from ⟨hz,its,c',r',e⟩),rfl,q _ (I.hok.fresh (Nat.le_refl _))⟩
 rcases hq with hq | hq
 ·obtain ⟨its,r',pl,hz⟩:=I.list hq;have hlen:=r'.length;obtain ⟨o,ho,hc,n,hd⟩:=pl.isList;exact call_list_seq p (.inl rfl) ho hc hd (fun h' c' kp e=>fin its r' hz h' c' kp e) (by simp only [List.size_toArray]<;>omega)
 ·obtain ⟨its,r',pl,hz⟩:=I.tuple hq;have hlen:=r'.length;obtain ⟨o,ho,hc,n,hd⟩:=pl;exact call_list_seq p (.inr rfl) ho hc hd (fun h' c' kp e=>fin its r' hz h' c' kp e) (by simp only [List.size_toArray]<;>omega)
theorem zd0:zd4 X (.type "tuple") (fun xs H Q=>∃p ys,xs=[.ref p]/\((SqL X.K H p ys/\∀l,H l=none->Q (.ref l) (upd H l (.tup ys)))\/(SqT X.K H p ys/\Q (.ref p) H))):=by
 intro pins s σ H xs us Q I r h;obtain ⟨p,ys,rfl,h⟩:=h;obtain ⟨u,rfl,rx⟩:=zgq r;cases rx
 rcases h with ⟨hq,q⟩ | ⟨hq,q⟩
 ·obtain ⟨its,r',pl,hz⟩:=I.list hq;have hlen:=r'.length;refine call_tuple_list pl.isList (fun h' kp=>?_) (by simp only [List.size_toArray]<;>omega);have I1:Inv X pins σ H { s with heap:=h' }:=I.kept (t':=s.toks) kp
  have I2:Inv X pins σ (upd H h'.objs.size (.tup ys)) { s with heap:=h'.push { cls:=.type "tuple",data:=.seq its.toArray } } :=
   I1.laid (t':=s.toks) (fun b o e=>Heap.get?_push_of_some _ e) (Nat.le_refl _) (show zbZ X.prog X.w _ _ _ (.tup ys) from ⟨hz,its,r',IsTup.new _ _⟩)
  exact ⟨.ref h'.objs.size,_,I2,rfl,q _ (I1.hok.fresh (Nat.le_refl _))⟩
 ·obtain ⟨its,r',pl,hz⟩:=I.tuple hq;exact call_tuple_same pl ⟨.ref p,H,I,rfl,q⟩
def tyV(K:PySem.W.Frag)(T:String)(x:V)(H:Hp):Prop:=match x with
 | .str _=>T = "str"
 | .int _=>T = "int"
 | .ref p=>(T = "list" /\ ∃xs,SqL K H p xs)\/(T = "tuple" /\ ∃o,K.lookup p=some o/\o.cls=.type "tuple" /\ o.dict=none) ∨
   (T = "dict" /\ ((∃kvs,H p=some (.dK kvs))\/∃kvs,H p=some (.dT kvs)))\/(T = "set" /\ ∃S n,H p=some (.set S n))
 | _=>False
theorem zpp{pins:Z3}{σ:St}{H:Hp}{s:Shared}{T:String}{x:V}{v:Value}(I:Inv X pins σ H s)(r:zbp x v)(ty:tyV X.K T x H) :
  s.TypeIs v T/\∀a,v=.ref a->∃ob,s.heap.get? a=some ob/\ob.dict=none:=by
 cases x with
 | str z =>
  obtain ⟨t,rfl⟩:=r;cases (show T = "str" from ty);exact ⟨typeIs_str s z t,fun _ e=>nomatch e⟩
 | int i =>
  obtain ⟨t,rfl⟩:=r;cases (show T = "int" from ty);exact ⟨typeIs_int s i t,fun _ e=>nomatch e⟩
 | ref p =>
  cases r
  rcases ty with ⟨rfl,xs,hq⟩ | ⟨rfl,o,hk,hc,hd⟩ | ⟨rfl,hk⟩ | ⟨rfl,S,n,hk⟩
  ·obtain ⟨its,_,pl,_⟩:=I.list hq;refine ⟨pl.isList.typeIs,fun a e=>?_⟩;cases e;obtain ⟨o,n,e,c,hd,_⟩:=pl;exact ⟨o,e,hd⟩
  ·refine ⟨⟨o,I.kIn p o hk,hc⟩,fun a e=>?_⟩;cases e;exact ⟨o,I.kIn _ o hk,hd⟩
  ·have z:∃o,s.heap.get? p=some o/\o.ExactDict:=by
    rcases hk with ⟨kvs,hk⟩ | ⟨kvs,hk⟩
    ·obtain ⟨_,_,_,_,o,_,_,e,ex,_⟩:=I.hok p _ hk;exact ⟨o,e,ex⟩
    ·obtain ⟨_,_,_,_,o,_,_,e,ex,_⟩:=I.hok p _ hk;exact ⟨o,e,ex⟩
   obtain ⟨o,e,ex⟩:=z;refine ⟨⟨o,e,ex.1⟩,fun a e2=>?_⟩;cases e2;exact ⟨o,e,ex.2.1⟩
  ·obtain ⟨o,_,_,_,e,ex,_⟩:=I.hok p _ hk;refine ⟨⟨o,e,ex.1⟩,fun a e2=>?_⟩;cases e2;exact ⟨o,e,ex.2.1⟩
 | _=>exact False.elim ty
def tBM(K:PySem.W.Frag)(T:String)(r:V->List V->Hp->VK->Prop)(to:TE)(t:TA):TE:=fun σ H Q=>to σ H fun x H1=>tyV K T x H1/\t σ H1 fun xs H2=>r x xs H2 Q
variable{o e:Expr}{es:List Expr}{to:TE}{t:TA}{name:Str}{apos cpos:Pos}{T id:String}{r:V->List V->Hp->VK->Prop}
theorem zsY(pa:PlainAttrs T)(slot:Slot T name id)(hty:typeOf (.builtin id)=pure (.type "method_descriptor"))(hm:MtR X id r)(ho:PE X o to)(ha:PA X (e::es) t)
  (hbase:attributeBase o name X.env (eval o X.env)=eval o X.env:=by rfl)
  (hfew:((backTo cpos (starEach (e::es) X.env)).all (fun x=>!x.1)&&(backToKw cpos (keywordEach [] X.env)).all (fun x=>x.1.isSome)
   && decide ((e::es).length+([]:List Keyword).length+(if ([]:List Keyword).isEmpty then 0 else 1)<30))=true:=by rfl)
  (hline:(apos.endLine == cpos.line)=true:=by rfl) (hs:starEach (e::es) X.env=(false,eval e X.env)::starEach es X.env:=by rfl) (hplain:(backTo cpos (starEach es X.env)).any (·.1)=false:=by rfl) :
  PE X (.Call (.Attribute o name apos) (e::es) [] cpos) (tBM X.K T r to t):=by
 intro pins s σ H Q I h;refine wpAny_Call_method_late hbase hfew hline rfl (thn (ho pins s σ H _ I h) fun v s1 ⟨x,H1,I1,r1,ty,q1⟩=>?_);obtain ⟨h1,h2⟩:=zpp I1 r1 ty;refine ⟨T,id,pa,slot,hty,h1,h2,?_⟩;have hA:=ha cpos pins s1 σ H1 _ I1 q1;rw [hs] at hA ⊢;refine Calls.callWith_builtin (by show (false||(backTo cpos (starEach es X.env)).any (·.1))=false;rw [hplain]<;>rfl) (Calls.evalArgs_plain ?_);exact thn hA fun us s2 ⟨vs,H2,I2,r2,q2⟩=>hm pins s2 σ H2 x vs v us Q I2 r1 r2 q2
end
end L2
namespace L2
open PySem PySem.Spec PyProof.Rows
def MtM(X:Cx)(id:String)(r:V->List V->Hp->VK->Prop):Prop :=
 ∀(pins:Z3) (s:Shared) (σ:St) (H:Hp) (x:V) (xs:List V) (v:Value) (us:List Value) (Q:VK),Inv X pins σ H s->zbp x v->Vals xs us->r x xs H Q →
  wpAny (model X.prog X.w) X.A (call (.builtin id) (v::us)) (EP X pins σ Q) X.xe s
theorem Vals.one:∀{x:V} {us:List Value},Vals [x] us->∃u,us=[u]/\zbp x u
 | _,_,.cons r .nil=>⟨_,rfl,r⟩
theorem Vals.rep{xs:List V}{us:List Value}(h:Vals xs us):∀k:Nat,Vals (List.replicate k xs).flatten (List.replicate k us).flatten
 | 0=>.nil
 | k+1=>by
  rw [List.replicate_succ,List.replicate_succ,List.flatten_cons,List.flatten_cons];exact Vals.append h (Vals.rep h k)
theorem zfa(its:List Value):∀(k:Nat) (acc:List Value),
  List.foldl (fun x1 x2=>x1++x2) acc.toArray (List.replicate k its.toArray)=(acc++(List.replicate k its).flatten).toArray
 | 0,acc=>by simp
 | k+1,acc=>by
  have e:acc.toArray++its.toArray=(acc++its).toArray:=by simp
  have e2:(acc++its)++(List.replicate k its).flatten=acc++(List.replicate (k+1) its).flatten:=by
   rw [List.replicate_succ,List.flatten_cons,List.append_assoc]
  rw [<-e2,<-zfa its k (acc++its),<-e,List.replicate_succ,List.foldl_cons]
section
variable{X:Cx}{pins:Z3}{σ:St}{H:Hp}{s:Shared}{l b:Addr}{xs ys zs:List V}
theorem Inv.lset{its its':List Value}{n:Nat}{f:Array Value->Array Value}{t':Nat}(I:Inv X pins σ H s)(hH:H l=some (.lst xs))
  (e:s.heap.get? l=some { cls:=.type "list",data:=.seq its.toArray n }) (hf:f its.toArray=its'.toArray) (hv:Vals ys its') (hz:ys.length<=sizeLine) :
  Inv X pins σ (upd H l (.lst ys)) { s with heap:=s.heap.update l (Obj.mapSeq f),toks:=t' }:=by
 have q:=PySem.IsL.update e f;rw [hf] at q;refine I.write (x:=l) (e:=l) (by rw [hH];exact trivial) (.inl rfl) (fun b' u hb hu=>(Heap.get?_update_other s.heap (Obj.mapSeq f) (Ne.symm hb)).trans hu) ⟨_,q⟩ ?_;exact ⟨hz,its',_,hv,q⟩
theorem Inv.lnew{its:List Value}{t':Nat}(I:Inv X pins σ H s)(hv:Vals ys its)(hz:ys.length<=sizeLine) :
  Inv X pins σ (upd H s.heap.objs.size (.lst ys)) { s with heap:=s.heap.push { cls:=.type "list",data:=.seq its.toArray },toks:=t' } :=
 I.laid (fun _ _ q=>Heap.get?_push_of_some _ q) (Nat.le_refl _) ⟨hz,its,0,hv,Heap.get?_push_size _ rfl⟩
theorem Inv.fresh(I:Inv X pins σ H s):H s.heap.objs.size=none:=I.hok.fresh (Nat.le_refl _)
theorem Inv.lstM(I:Inv X pins σ H s)(hH:H l=some (.lst xs)):xs.length<=sizeLine/\∃(its:List Value) (n:Nat),Vals xs its/\xs.length=its.length/\s.heap.get? l=some { cls:=.type "list",data:=.seq its.toArray n }:=by
 obtain ⟨z,its,n,r,e⟩:=I.hok l _ hH;exact ⟨z,its,n,r,r.length,e⟩
theorem zl0{n:Nat}(h:n<=sizeLine):Builtin.List.listTooLong n=false:=by
 unfold Builtin.List.listTooLong;exact decide_eq_false (by omega)
end
section
variable{X:Cx}
def znW:V->List V->Hp->VK->Prop:=fun x vs H Q=>∃l xs y,x=.ref l/\vs=[y]/\H l=some (.lst xs)/\xs.length<sizeLine/\Q .non (upd H l (.lst (xs++[y])))
theorem zkh:MtM X "list.append" znW:=by
 intro pins s σ H x vs v us Q I rx rv h;obtain ⟨l,xs,y,rfl,rfl,hH,hz,q⟩:=h;cases rx;obtain ⟨u,rfl,ru⟩:=rv.one;obtain ⟨z,its,n,r,hl,e⟩:=I.lstM hH;refine call_meets F.slot_list_append ⟨_,e,rfl⟩ F.entry_list_append (F.args_list_append_2 _ _) (PySem.list_append l its.toArray n u (by rw [List.size_toArray];omega)) ⟨e,?_⟩;refine ⟨.non,_,I.lset (its':=its++[u]) hH e (by simp) (r.append (.cons ru .nil)) ?_,rfl,q⟩;rw [List.length_append,List.length_singleton];omega
def zwH:R2:=fun x y H Q=>∃l b xs zs,x=.ref l/\y=.ref b/\H l=some (.lst xs)/\H b=some (.lst zs)/\xs.length+zs.length<=sizeLine/\∀p,H p=none->Q (.ref p) (upd H p (.lst (xs++zs)))
theorem zqC:OpR X (binaryOp .Add) zwH:=by
 intro pins s σ H x y v u Q I rx ry h;obtain ⟨l,b,xs,zs,rfl,rfl,hH,hB,hz,q⟩:=h;cases rx;cases ry;obtain ⟨z,its,n,r,hl,e⟩:=I.lstM hH;obtain ⟨z2,its2,n2,r2,hl2,e2⟩:=I.lstM hB;refine PySem.P.add_list e e2 ?_ (by rw [List.size_toArray,List.size_toArray];omega)
 have ea:its.toArray++its2.toArray=(its++its2).toArray:=by simp
 rw [ea];exact ⟨.ref _,_,I.lnew (t':=s.toks) (r.append r2) (by rw [List.length_append];omega),rfl,q _ I.fresh⟩
def zwE:R2:=fun x y H Q=>∃l k xs,x=.ref l/\y=.int k/\H l=some (.lst xs)/\-(2 ^ 63)<=k/\k<2 ^ 63/\xs.length*k.toNat<=sizeLine ∧
 ∀p,H p=none->Q (.ref p) (upd H p (.lst (List.replicate k.toNat xs).flatten))
theorem zht{α:Type}(xs:List α)(k:Nat):(List.replicate k xs).flatten.length=k*xs.length:=by
 induction k with
 | zero=>simp
 | succ k ih=>rw [List.replicate_succ,List.flatten_cons,List.length_append,ih,Nat.succ_mul,Nat.add_comm]
theorem zmX:OpR X (binaryOp .Mult) zwE:=by
 intro pins s σ H x y v u Q I rx ry h;obtain ⟨l,k,xs,rfl,rfl,hH,h1,h2,hz,q⟩:=h;cases rx;obtain ⟨t,rfl⟩:=ry;obtain ⟨z,its,n,r,hl,e⟩:=I.lstM hH
 have hlen:its.toArray.size*k.toNat<=sizeLine:=by rw [List.size_toArray,<-hl];exact hz
 have hcap:¬ its.toArray.size*k.toNat > (2 ^ 63-1) / 8:=by
  have:(sizeLine:Nat)<=(2 ^ 63-1) / 8:=by decide
  omega
 have hfit:¬ (!Builtin.List.listFitsIndex k)=true:=by
  rw [fitsIndex_both h1 h2];exact Bool.false_ne_true
 have hlong:¬ Builtin.List.listTooLong (its.toArray.size*k.toNat)=true:=by
  rw [zl0 hlen];exact Bool.false_ne_true
 have hnew:List.foldl (fun x1 x2=>x1++x2) #[] (List.replicate (if its.toArray.isEmpty=true then 0 else k.toNat) its.toArray)=(List.replicate k.toNat its).flatten.toArray:=by
  have f0:∀m:Nat,List.foldl (fun x1 x2=>x1++x2) #[] (List.replicate m its.toArray)=(List.replicate m its).flatten.toArray:=fun m=>by
   have:=zfa its m [];rw [List.nil_append] at this;exact this
  rw [f0]
  cases its with
  | nil=>simp
  | cons a r'=>rw [if_neg (by simp)]
 refine wpAny_binaryOp_repeat_ref (T:="list") (U:="int") (by decide) ⟨_,e,rfl⟩ (fun s'=>typeIs_int s' k t) noFill_list_mul F.fills_int_mul F.slot_int_rmul repeat_list F.slot_int_index.lookup
  (call_meets F.slot_int_rmul (typeIs_int s k t) F.entry_int_rmul (F.args_int_rmul_2 _ _) (int___rmul___int_list k t l its.toArray n)
   ⟨e,rfl,⟨_,e,rfl⟩,call_meets F.slot_list_mul ⟨_,e,rfl⟩ F.entry_list_mul (F.args_list_mul_2 _ _) (AutoListH.list___mul___list_int_3 l its.toArray n k t hfit hcap hlong) ⟨e,?_⟩⟩)
 rw [hnew];exact ⟨.ref _,_,I.lnew (t':=s.toks) (r.rep k.toNat) (by rw [zht,Nat.mul_comm];exact hz),rfl,q _ I.fresh⟩
end
section
variable{prog:Program}{w:World}{A:Around}{E:Z5}{s:Shared}
end
section
variable{X:Cx}
end
end L2
namespace Att
open PySem PySem.W PySem.Calls PyProof.Rows
theorem ze7{P:Params}{h:Heap}:∀(ns:List Int) (vs:List Value),WellAll P h vs (ns.map WData.int)->IntsAre vs ns:=by
 intro ns
 induction ns with
 | nil =>
  intro vs w;rw [List.map_nil] at w;cases w;exact .nil
 | cons n ns ih =>
  intro vs w;rw [List.map_cons] at w
  cases w with
  | cons a b =>
   cases a;exact .cons _ _ (ih _ b)
theorem zjH{l:OpenLaw}{n:Nat}(hn:l.most=some n){P:Params}{h:Heap}{args:List WData}{vals:List Value}
  (hpre:l.row.toRowW.claim.pre args=true) (hwl:WellAll P h vals args) :
  ∃a vs ns,vals=[Value.ref a]/\args=[WData.list (ns.map WData.int)]/\h.get? a=some { cls:=.type "list",data:=.seq vs.toArray }/\IntsAre vs ns/\ns.length<=n:=by
 have hsh:WShape.hasAll [] args [.list .int]=true:=(pre_splitW hpre).1;have hc:l.pre.holds [] { args:=args }=true:=(pre_splitW hpre).2;obtain ⟨d,r,rfl,h1,h2⟩:=hasAllW_cons hsh;obtain rfl:=hasAllW_nil h2;obtain ⟨xs,rfl,h3⟩:=hasW_list h1;obtain ⟨ns,rfl⟩:=items_int h3
 have hlen:ns.length<=n:=by
  unfold OpenLaw.pre at hc
  have h4:(WTm.not (.lt (.lit (.int (n:Int))) (.len (.arg 0)))).holds [] { args:=[.list (ns.map .int)] }=true:=by
   have h4:=(holds_andW hc).1;rw [hn] at h4;exact h4
  have h5:=condW_of h4 (w_not (w_lt w_lit (w_len_list (w_arg rfl))));rw [List.length_map] at h5;refine Nat.le_of_not_lt fun q=>?_
  have q':(n:Int)<((ns.length:Nat):Int):=by omega
  first
   | (rw [decide_eq_true q'] at h5;exact absurd h5 (by decide))
   | (simp at h5;omega)
 cases hwl with
 | cons w1 w2 =>
  cases w2
  cases w1 with
  | list ho hall=>exact ⟨_,_,ns,rfl,rfl,ho,ze7 ns _ hall,hlen⟩
theorem zj0(l:OpenLaw)(args:List WData):l.row.toRowW.claim.post args (.bool true) args=true :=
 postW_of (r:=l.row.toRowW) (X:=(true == true))
  (show WShape.has [] (.bool true) .bool=true by first | rfl | decide | simp [WShape.has,WShape.arms,WShape.armsAll])
  (show (WTm.eq .res (.lit (.bool true))).value [] { args:=args,res:=some (.bool true),after:=args }=some (.bool (true == true)) from w_eq_bool (w_res rfl) w_lit) rfl
theorem zhI{l:OpenLaw}{n:Nat}{q:Program}{loose:List Str}{XP:(Str->Option Value)->Heap->Prop}{YP:World->Heap->Prop}{d:DefRec}
  (hn:l.most=some n) (hdf:d.params.defaults=[])
  (call:∀(w:World) (s₀ s₁:Shared) (mg mb:Z6) (fa:Addr) (o:Obj) (pm cd doc:Value) (a:Addr) (vs:List Value) (ns:List Int),
   Ground q loose [] XP w s₀ mg mb s₁.heap->YP w s₁.heap →
   s₁.heap.get? fa=some o->o.data=.func (docDef d.name d.params d.body d.scope pm cd doc)->s₁.heap.CodeRec cd d.name->mg d.name=some (.ref fa) →
   s₁.heap.get? a=some { cls:=.type "list",data:=.seq vs.toArray }->IntsAre vs ns->ns.length<=n->s₁.gens=#[] →
   codeAny (model l.prog w) callerA (.call (.ref fa) ⟨[.ref a],[]⟩) (fun r s'=>r=.ok (.ret (.bool true))/\OldK s₁.heap s'.heap/\s'.os=s₁.os/\AllBare s'.gens) s₁) :
  WalkO q loose XP YP l.row.toRowW d [] (fun f vs=>PySem.call f vs):=by
 intro w s₀ s₁ mg mb G Y fa o pm cd doc dV kV ho hd hcd hD hmg hg args vals as hpre hlay hrd hwl hlo;obtain rfl:dV=.none:=Dflts.none hD hdf;obtain rfl:kV=.none:=Dflts.noKw hD;obtain ⟨a,vs,ns,rfl,rfl,hobj,hints,hlen⟩:=zjH hn hpre hwl;refine enter_call (codeAny_mono (call w s₀ s₁ mg mb fa o pm cd doc a vs ns G Y ho (fd_plain hd) hcd hmg hobj hints hlen hg) fun r s' hq=>?_);obtain ⟨rfl,h2,h3,h4⟩:=hq;exact ⟨.inl ⟨.bool true,.bool true,[],rfl,fun _=>rfl,.bool true,zj0 l _,fun _=>⟨List.Pairwise.nil,fun _ hm=>(nomatch hm)⟩⟩,h2,h3,h4⟩
section
variable{prog:Program}{w:World}{A:Around}{E:Z5}{s:Shared}{K:Frag}
end
end Att
namespace L2
open PySem PySem.Spec PyProof.Rows
theorem zgp:∀{vs:List Value} {ns:List Int},IntsAre vs ns->Vals (ns.map V.int) vs
 | _,_,.nil=>.nil
 | _,_,.cons n t h=>.cons ⟨t,rfl⟩ (zgp h)
def zsb(H:Hp):Prop:=∀b,H b=none\/∃o xs,H b=some (.frz o (.lst xs))
theorem zl9{P:Program}{w:World}{K:PySem.W.Frag}{mg mb:Z6}{CX:CXT}{k:Nat}{fa a:Addr}{fd:FuncData}{x:Str}{sp:Sp}{s₁:Shared}{vs:List Value}{ns:List Int}
  (KX:K.In s₁.heap) (hns:s₁.heap.Ns mainGlobals mg) (hb:s₁.heap.Ns builtinsNs mb) (hbb:∀x:Str,x ≠ "__name__" -> mb x=bootBuiltins x) (hlim:s₁.heap.NoLimit) (hg:s₁.gens=#[])
  (ha:s₁.heap.get? a=some { cls:=.type "list",data:=.seq vs.toArray }) (hi:IntsAre vs ns) (hl:ns.length<=sizeLine) (hr:Room k callerA)
  (F:∀base:Heap,K.In base->base.Ns mainGlobals mg->FnOk P w K mg base CX k fa fd [x] sp) (hbind:∀(s:Shared) (u:Value),BindsTo s fd ⟨[u],[]⟩ [(x,u)])
  (hsp:∀H:Hp,zsb H->SqL K H a (ns.map V.int)->sp [.ref a] H (fun v _=>v=.bl true) fun _ _ _=>False)
  (hCX:∀H e s',CX [] H s₁ (fun _ _ _=>False) e s'->False) :
  codeAny (model P w) callerA (.call (.ref fa) ⟨[.ref a],[]⟩) (fun r s'=>r=.ok (.ret (.bool true))/\OldK s₁.heap s'.heap/\s'.os=s₁.os/\AllBare s'.gens) s₁:=by
 have rv:=zgp hi;have lenV:=hi.length
 have core:∀H:Hp,zsb H->SqL K H a (ns.map V.int)->HOk P w H s₁.heap->(∀b,H b≠none->b=a)->(H a≠none->K.lookup a=none) →
   codeAny (model P w) callerA (.call (.ref fa) ⟨[.ref a],[]⟩) (fun r s'=>r=.ok (.ret (.bool true))/\OldK s₁.heap s'.heap/\s'.os=s₁.os/\AllBare s'.gens) s₁:=by
  intro H hO hS hok hA hK;have zdK:∀{b:Addr} {o:Obj},s₁.heap.get? b=some o->H b=none->(zml s₁.heap H).get? b=some o:=fun e n=>zmk e n
  have noA:∀{b:Addr} {o:Obj} {es:Array DictEntry} {ep:Nat},s₁.heap.get? b=some o->o.data=.dict es ep->H b=none:=fun {b o es ep} e d=>by
   cases q:H b with
   | none=>rfl
   | some u =>
    have e':b=a:=hA b (by rw [q];simp);subst e';rw [ha] at e;cases e;have d':Data.seq vs.toArray _=Data.dict es ep:=d;cases d'
  have nsK:∀{b:Addr} {m:Z6},s₁.heap.Ns b m->(zml s₁.heap H).Ns b m:=fun {b m} ⟨o,es,ep,e,d,r⟩=>⟨o,es,ep,zdK e (noA e d),d,r⟩
  have hKb:K.In (zml s₁.heap H):=fun b o e=>zdK (KX b o e) (by
   cases q:H b with
   | none=>rfl
   | some u =>
    have e':b=a:=hA b (by rw [q];simp);subst e'
    rw [hK (by rw [q];simp)] at e;cases e)
  have hM:Mod K mg (zml s₁.heap H):=⟨hKb,nsK hns,⟨mb,nsK hb,hbb⟩,let ⟨mc,h1,h2⟩:=hlim;⟨mc,nsK h1,h2⟩⟩;have e0:Env0 P w K mg (zml s₁.heap H) callerA [] s₁ H:=⟨rfl,hM,fun b o e=>zoh e,Nat.le_of_eq (zkF _ _),trivial,fun b hb=>absurd (show b∈([]:List Addr) from hb) (by simp),hok,.of_eq hg⟩;refine codeAny_mono ((F _ hKb (nsK hns)).run callerA [] s₁ H ⟨[.ref a],[]⟩ [.ref a] [.ref a] _ _ hr e0 (hbind s₁ (.ref a)) (.cons rfl .nil) (hsp H hO hS)) fun r s' h=>?_
  cases r with
  | error e=>exact (hCX H e s' h).elim
  | ok fl =>
   cases fl with
   | next=>exact False.elim h
   | brk=>exact False.elim h
   | cont=>exact False.elim h
   | ret u =>
    obtain ⟨v,H',os,bare,un,hok',r',q⟩:=h;have q':v=.bl true:=q;subst q';obtain rfl:u=Value.bool true:=r';refine ⟨rfl,OldK.of_keep fun b o e=>?_,os,bare⟩
    cases q:H b with
    | none=>exact un.keep b o e q (by intro z;exact absurd (show b∈([]:List Addr) from z) (by simp)) (by simp)
    | some u =>
     rcases hO b with z | ⟨ob,xs,z⟩
     ·rw [q] at z;cases z
     ·have z2:=un.frzs b ob _ z;obtain ⟨e1,_⟩:=hok b _ z;obtain ⟨e2,_⟩:=hok' b _ z2;rw [e] at e1;cases e1;exact e2
 cases hk:K.lookup a with
 | some o =>
  have e:=KX a o hk;rw [ha] at e;cases e;refine core (fun _=>none) (fun _=>.inl rfl) (.inr ⟨_,vs.toArray,_,hk,rfl,rfl,rfl,by rw [List.size_toArray,lenV];exact hl,by simpa using rv⟩) (fun b u z=>by have z':(none:Option HO)=some u:=z;cases z') (fun b z=>absurd rfl z) fun z=>absurd rfl z
 | none =>
  refine core (fun b=>if b=a then some (.frz { cls:=.type "list",data:=.seq vs.toArray } (.lst (ns.map V.int))) else none) (fun b=>?_) (.inl (.inr ⟨{ cls:=.type "list",data:=.seq vs.toArray },if_pos rfl⟩)) (fun b u z=>?_) (fun b z=>?_) fun _=>hk
  ·by_cases hb:b=a
   ·exact .inr ⟨_,_,if_pos hb⟩
   ·exact .inl (if_neg hb)
  ·by_cases hb:b=a
   ·have z':=(if_pos hb).symm.trans z;cases z';subst hb;exact ⟨ha,by rw [List.length_map];exact hl,vs,_,rv,ha⟩
   ·have z':=(if_neg hb).symm.trans z;cases z'
  ·by_cases hb:b=a
   ·exact hb
   ·exact absurd (if_neg hb) z
end L2
namespace L2
open PySem PySem.Spec PyProof.Rows
theorem znm{l:PySem.W.OpenLaw}{n k:Nat}{q:Program}{loose:List Str}{XP:(Str->Option Value)->Heap->Prop}{YP:World->Heap->Prop}{d:DefRec}{K:Params->PySem.W.Frag}{CX:World->CXT}{sp:World->Sp}{x:Str}
  (hn:l.most=some n) (hn2:n<=sizeLine) (hdf:d.params.defaults=[]) (hr:Room k callerA)
  (hY:∀(w:World) (h:Heap),YP w h->(K w.params).In h)
  (F:∀(w:World) (mg:Z6) (fa:Addr) (h:Heap),(K w.params).In h->h.Ns mainGlobals mg->mg d.name=some (.ref fa) →
   ∃fd:FuncData,(∀(s:Shared) (u:Value),BindsTo s fd ⟨[u],[]⟩ [(x,u)]) ∧
    ∀base:Heap,(K w.params).In base->base.Ns mainGlobals mg->FnOk l.prog w (K w.params) mg base (CX w) k fa fd [x] (sp w))
  (hsp:∀(w:World) (H:Hp) (a:Addr) (ns:List Int),ns.length<=n->zsb H->SqL (K w.params) H a (ns.map V.int)->sp w [.ref a] H (fun v _=>v=.bl true) fun _ _ _=>False)
  (hCX:∀(w:World) (H:Hp) (s:Shared) (e:Value) (s':Shared),CX w [] H s (fun _ _ _=>False) e s'->False) :
  PySem.W.WalkO q loose XP YP l.row.toRowW d [] (fun f vs=>PySem.call f vs):=by
 refine Att.zhI hn hdf fun w s₀ s₁ mg mb fa o pm cd doc a vs ns G Y ho hd hcd hmg hobj hints hlen hg=>?_
 have KX:=hY w _ Y;obtain ⟨fd,hb,hF⟩:=F w mg fa _ KX G.T.g hmg;exact zl9 KX G.T.g G.T.b G.T.builtins G.T.nolimit hg hobj hints (Nat.le_trans hlen hn2) hr hF hb (fun H hO hS=>hsp w H a ns hlen hO hS) fun H e s'=>hCX w H s₁ e s'
end L2
namespace L2
open PySem PySem.Spec PyProof.Rows
def zbA(s:Stmt):Arguments:=match s with
 | .FunctionDef _ a _ _ _ _ _ _ _ _=>a
 | _=>{ posonlyargs:=[],args:=[],vararg:=none,kwonlyargs:=[],kw_defaults:=[],kwarg:=none,defaults:=[] }
def zbi(s:Stmt):List Stmt:=match s with
 | .FunctionDef _ _ b _ _ _ _ _ _ _=>b
 | _=>[]
def zaa(s:Stmt):Scope:=match s with
 | .FunctionDef _ _ _ _ _ _ sc _ _ _=>sc
 | _=>{ kind:=.function,names:=[],isGenerator:=false,isCoroutine:=false }
structure Fun(K:PySem.W.Frag)(x qual:Str)(st:Stmt)(f:Addr)(fd:FuncData):Prop where
 ex:∃(oc:Value) (od:Option Addr) (kV doc pm:Value) (an:Option Addr) (cdv ct:Value) (osl:Array (Option Value)),
  fd=PySem.W.fnOf x qual (zbA st) (zbi st) (zaa st) .none kV doc pm an cdv ct/\K.lookup f=some ⟨oc,od,.func fd,osl⟩/\PySem.W.codeIn K cdv qual=true
 kp:PySem.W.keepIn K (.ref f)=true
section
variable{P:Program}{w:World}{K:PySem.W.Frag}{mg:Z6}{base:Heap}
theorem Fun.binds{x qual:Str}{st:Stmt}{f:Addr}{fd:FuncData}{ps:List Str}(F:Fun K x qual st f fd)
  (h:∀(kV doc pm:Value) (an:Option Addr) (cdv ct:Value) (us:List Value),us.length=ps.length->bindArgs (PySem.W.fnOf x qual (zbA st) (zbi st) (zaa st) .none kV doc pm an cdv ct) ⟨us,[]⟩=pure (ps.zip us)):zbG K fd ps []:=by
 obtain ⟨oc,od,kV,doc,pm,an,cdv,ct,osl,rfl,lk,hcd⟩:=F.ex;exact .all (h kV doc pm an cdv ct)
theorem zm9{x qual:Str}{st:Stmt}{f:Addr}{oc:Value}{od an:Option Addr}{osl:Array (Option Value)}{kV doc pm cdv ct:Value}(l:K.lookup f=some ⟨oc,od,.func (PySem.W.fnOf x qual (zbA st) (zbi st) (zaa st) .none kV doc pm an cdv ct),osl⟩)
  (c:PySem.W.codeIn K cdv qual=true) (k:PySem.W.keepIn K (.ref f)=true):Fun K x qual st f (PySem.W.fnOf x qual (zbA st) (zbi st) (zaa st) .none kV doc pm an cdv ct):=⟨⟨oc,od,kV,doc,pm,an,cdv,ct,osl,rfl,l,c⟩,k⟩
end
section
variable{X:Cx}
end
theorem zmf{A B:Prop}(h:B):if false=true then A else B:=by
 rw [if_neg Bool.false_ne_true];exact h
theorem zme{A B:Prop}(h:A):if true=true then A else B:=by
 rw [if_pos rfl];exact h
end L2
namespace L2
open PySem PySem.Spec PyProof.Rows
theorem zi6{scope:Scope}{env:Env}(h:∀y∈scope.names,y.2=.free->∃c,env.cells.lookup y.1=some c) :
  ∃cl,closureFor scope env=pure cl/\(∀y c,cl.lookup y=some c->env.cells.lookup y=some c)/\∀y,(y,NameKind.free)∈scope.names->∃c,cl.lookup y=some c:=by
 unfold closureFor
 have key:∀(l:List (Str×NameKind)) (cs:List (Str×Addr)),(∀y∈l,y.2=.free->∃c,env.cells.lookup y.1=some c)->(∀y c,cs.lookup y=some c->env.cells.lookup y=some c) →
   ∃cl,(forIn l cs fun (x:Str×NameKind) (r:List (Str×Addr))=>(if (x.2 == NameKind.free)=true then (do let c ← cellOf env x.1;pure (ForInStep.yield ((x.1,c)::r))) else pure (ForInStep.yield r):Sem (ForInStep (List (Str×Addr)))))=pure cl ∧
    (∀y c,cl.lookup y=some c->env.cells.lookup y=some c)/\(∀y,(y,NameKind.free)∈l->∃c,cl.lookup y=some c)/\(∀y c,cs.lookup y=some c->∃c',cl.lookup y=some c'):=by
  intro l
  induction l with
  | nil=>intro cs _ hc;exact ⟨cs,rfl,hc,fun y hy=>by simp at hy,fun y c e=>⟨c,e⟩⟩
  | cons p l ih =>
   intro cs hl hc;obtain ⟨n,k⟩:=p
   by_cases hk:(k == NameKind.free)=true
   ·have ek:k=.free:=eq_of_beq hk;obtain ⟨c,ec⟩:=hl (n,k) List.mem_cons_self ek
    obtain ⟨cl,e1,e2,e3,e4⟩:=ih ((n,c)::cs) (fun y hy=>hl y (List.mem_cons_of_mem _ hy)) (fun y c' e=>by
     rw [List.lookup_cons] at e
     cases hq:y == n with
     | true=>rw [hq] at e;cases e;rw [eq_of_beq hq];exact ec
     | false=>rw [hq] at e;exact hc y c' e)
    refine ⟨cl,?_,e2,fun y hy=>?_,fun y c' e=>?_⟩
    ·rw [List.forIn_cons];show ((if (k == NameKind.free)=true then _ else _) >>= _)=_;rw [if_pos hk]
     have ecell:cellOf env n=pure c:=by unfold cellOf;rw [ec]
     show (cellOf env n >>= _) >>= _=_;rw [ecell];simpa using e1
    ·rcases List.mem_cons.mp hy with z | hy
     ·cases z;exact e4 n c (by rw [List.lookup_cons];simp)
     ·exact e3 y hy
    ·cases hq:y == n with
     | true=>exact e4 y c (by rw [List.lookup_cons,hq])
     | false=>exact e4 y c' (by rw [List.lookup_cons,hq];exact e)
   ·obtain ⟨cl,e1,e2,e3,e4⟩:=ih cs (fun y hy=>hl y (List.mem_cons_of_mem _ hy)) hc;refine ⟨cl,?_,e2,fun y hy=>?_,e4⟩
    ·rw [List.forIn_cons];show ((if (k == NameKind.free)=true then _ else _) >>= _)=_;rw [if_neg hk];simpa using e1
    ·rcases List.mem_cons.mp hy with z | hy
     ·cases z;exact absurd rfl hk
     ·exact e3 y hy
 obtain ⟨cl,e1,e2,e3,_⟩:=key scope.names [] h (fun y c e=>by simp at e);refine ⟨cl,?_,e2,e3⟩;show ((forIn scope.names [] _:Sem (List (Str×Addr))) >>= _)=_;have e1':=congrArg (fun m=>m >>= (pure:List (Str×Addr)->Sem (List (Str×Addr)))) e1;simpa using e1
def PIf(X:Cx)(ifs:List Expr)(t:TT):Prop :=
 ∀(pins:Z3) (s:Shared) (σ:St) (H:Hp) (Q:Bool->Hp->Prop),Inv X pins σ H s->t σ H Q →
  wpAny (model X.prog X.w) X.A (forIn ifs true fun c r=>if r=true then do let ok ← isTrue c X.env (eval c X.env);pure (ForInStep.yield ok) else pure (ForInStep.yield r)) (TP X pins σ Q) X.xe s
def zwq:TT:=fun _ H Q=>Q true H
theorem zn5{X:Cx}:PIf X [] zwq:=fun _ _ _ H _ I h=>wpAny_tests_nil ⟨H,I,h⟩
theorem zn4{X:Cx}{c:Expr}{t:TT}(h:PT X c t):PIf X [c] t:=fun pins s σ H Q I hw=>wpAny_tests_one (h pins s σ H Q I hw)
theorem zen{scope:Scope}{env:Env}:∀{names:List (Str×NameKind)} {y:Str},(y,NameKind.free)∈names->(∀z∈names,z.1=y->z.2=.free) →
  (names.map fun (n,k)=>if (k == NameKind.free&&env.scope.kind == .function&&env.kindOf n == some .cell) then (n,NameKind.cell) else (n,k)).lookup y=some .cell ∨
  (names.map fun (n,k)=>if (k == NameKind.free&&env.scope.kind == .function&&env.kindOf n == some .cell) then (n,NameKind.cell) else (n,k)).lookup y=some .free
 | [],_,h,_=>by simp at h
 | (n,k)::r,y,h,u=>by
  rw [List.map_cons];show List.lookup y ((if (k == NameKind.free&&env.scope.kind == .function&&env.kindOf n == some .cell)=true then (n,NameKind.cell) else (n,k))::_)=_\/List.lookup y ((if (k == NameKind.free&&env.scope.kind == .function&&env.kindOf n == some .cell)=true then (n,NameKind.cell) else (n,k))::_)=_
  cases hq:y == n with
  | true =>
   have e:n=y:=(eq_of_beq hq).symm;have ek:k=.free:=u (n,k) List.mem_cons_self e
   by_cases hc:(k == NameKind.free&&env.scope.kind == .function&&env.kindOf n == some .cell)=true
   ·rw [if_pos hc];left;simp [List.lookup_cons,hq]
   ·rw [if_neg hc];right;simp [List.lookup_cons,hq,ek]
  | false =>
   have hy:(y,NameKind.free)∈r:=by
    rcases List.mem_cons.mp h with z | z
    ·cases z;simp at hq
    ·exact z
   have ih:=zen (scope:=scope) (env:=env) hy fun z hz=>u z (List.mem_cons_of_mem _ hz)
   by_cases hc:(k == NameKind.free&&env.scope.kind == .function&&env.kindOf n == some .cell)=true
   ·rw [if_pos hc];simpa [List.lookup_cons,hq] using ih
   ·rw [if_neg hc];simpa [List.lookup_cons,hq] using ih
theorem Inv.track{X:Cx}{pins:Z3}{σ:St}{H:Hp}{s:Shared}{D:Addr}{o:HO}(I:Inv X pins σ H s)(hn:H D=none)(h1:X.s₀.heap.objs.size<=D)(h2:D≠X.env.locals)(h3:∀x c,X.env.cells.lookup x=some c->c≠D)(h4:∀p∈X.pn++pins,p.1≠D)
  (new:zbZ X.prog X.w (upd H D o) s.heap D o):Inv X pins σ (upd H D o) s:=by
 have nD:∀b u,H b=some u->b≠D:=fun b u e=>zau e hn
 obtain ⟨h',g',d',t',o'⟩:=s;refine I.step (h':=h') (g':=g') (d':=d') (t':=t') (ch:=[D]) (fun b hb=>?_) (fun b o _ _ _ e _=>e) (fun b o _ _ _ e _=>⟨o.slots,e⟩) (fun b o hc e n=>?_) (fun b o _ e=>⟨o,e⟩) (fun b xs e=>?_) (fun b o u e=>?_) (fun b ps e=>?_) (fun m hm=>hm) (fun b u e=>?_) I.bare
 ·have e:b=D:=by simpa using hb
  subst e;exact ⟨.inr h1,h2,h3,h4⟩
 ·rw [zar (fun z=>hc (by simp [z]))];exact n
 ·rw [zar (nD _ _ e)];exact e
 ·rw [zar (nD _ _ e)];exact e
 ·exact ⟨#[],by rw [zar (nD _ _ e),e];simp⟩
 ·by_cases hb:b=D
  ·subst hb;rw [zaO] at e;cases e;exact new
  ·rw [zar hb] at e
   exact (I.hok b u e).stay (fun _ _ _ q=>q) (fun c q=>by rw [zar (nD _ _ q)];exact q) fun c xs q=>by rw [zar (nD _ _ q)];exact q
section
variable{X:Cx}{elt iter:Expr}{x:Str}{px pos:Pos}{ifs:List Expr}{scope:Scope}{caps:List (Str×Nat)}{wi:TI}{tt:TT}{te:TE}
abbrev lob(its:List Value)(k:Nat):Obj:={ cls:=.type "list",data:=.seq its.toArray k }
end
end L2
namespace L2
open PySem PySem.Spec PyProof.Rows
section
variable{X:Cx}{elt iter:Expr}{x:Str}{px pos:Pos}{ifs:List Expr}{scope:Scope}{caps:List (Str×Nat)}{wi:TI}{tt:TT}{te:TE}
end
end L2
namespace L2
open PySem PySem.Spec PyProof.Rows
section
variable{prog:Program}{w:World}{A:Around}{R:Result->Shared->Prop}{s:Shared}
theorem zl6{elt target iter:Expr}{ifs:List Expr}{scope:Scope}{pos:Pos}{it acc:Value}{env:Env}(I:Nat->Shared->Prop)
  (turn:∀n s,I n s->wpAny (model prog w) A (pyNext it) (fun r s₁=>match r with
   | none=>R (.ok .next) s₁
   | some v=>wpAny (model prog w) A (letOwnedTupleGo target it v) (fun _ s₀=>wpAny (model prog w) A (assign target env v) (fun _ s₂ =>
     wpAny (model prog w) A (forIn ifs true fun c r=>if r=true then do let ok ← isTrue c env (eval c env);pure (ForInStep.yield ok) else pure (ForInStep.yield r)) (fun ok s₃ =>
      if ok=true then wpAny (model prog w) A (eval elt env) (fun x s₄ =>
       wpAny (model prog w) A (call (.builtin "list.append") [acc,x]) (fun _ s₅=>∃m,m<n/\I m s₅) (notedBy (model prog w) A env fun e s'=>R (.error e) s') s₄) (notedBy (model prog w) A env fun e s'=>R (.error e) s') s₃
      else ∃m,m<n/\I m s₃) (notedBy (model prog w) A env fun e s'=>R (.error e) s') s₂) (notedBy (model prog w) A env fun e s'=>R (.error e) s') s₀) (notedBy (model prog w) A env fun e s'=>R (.error e) s') s₁) (notedBy (model prog w) A env fun e s'=>R (.error e) s') s)
  (n:Nat) (h:I n s):codeAny (model prog w) A (.compLoop (.ListComp elt [⟨target,iter,ifs,0⟩] scope pos) 0 it acc env) R s:=by
 refine codeAny_loop rfl I (fun n s hI=>?_) n h;show wpAny _ A ((compTurn (.ListComp elt [⟨target,iter,ifs,0⟩] scope pos) 0 it acc env).onRaise (fun x=>do noteFrame x env;theTreesLotGoes x)) _ _ s;refine wpAny_noted ?_;rw [compTurn_list];refine wpAny_bind (wpAny_standAt (wpAny_bind (wpAny_mono (turn n s hI) (fun r s₁ h₁=>?_) fun _ _ h'=>h')))
 cases r with
 | none=>exact wpAny_pure h₁
 | some v =>
  refine wpAny_bind (wpAny_mono h₁ (fun _ s₀ h₀=>?_) fun _ _ h'=>h');refine wpAny_bind (wpAny_mono h₀ (fun _ s₂ h₂=>wpAny_bind (wpAny_mono h₂ (fun ok s₃ h₃=>?_) fun _ _ h'=>h')) fun _ _ h'=>h')
  cases ok with
  | false=>exact wpAny_pure ⟨rfl,h₃⟩
  | true =>
   exact wpAny_bind (wpAny_bind (wpAny_mono h₃ (fun x s₄ h₄=>wpAny_bind (wpAny_mono h₄ (fun _ s₅ h₅=>wpAny_pure (wpAny_pure ⟨rfl,h₅⟩)) fun _ _ h'=>h')) fun _ _ h'=>h'))
end
theorem za6:∀(names:List (Str×NameKind)) (n:Nat) (acc:List (Str×Addr)),cellsFrom n names acc=cellsFrom n names []++acc
 | [],_,_=>rfl
 | (x,k)::r,n,acc=>by
  unfold cellsFrom;split
  ·rw [za6 r (n+1) ((x,n)::acc),za6 r (n+1) [(x,n)]];simp
  ·exact za6 r n acc
theorem zcL:∀(names:List (Str×NameKind)) (n:Nat) {x:Str} {c:Addr},(x,c)∈cellsFrom n names []->(x,NameKind.cell)∈names
 | [],_,_,_,h=>by cases h
 | (y,k)::r,n,x,c,h=>by
  unfold cellsFrom at h;split at h
  ·rename_i hk;rw [za6] at h
   rcases List.mem_append.mp h with h | h
   ·exact List.mem_cons_of_mem _ (zcL r _ h)
   ·rw [List.mem_singleton] at h;cases h;rw [beq_iff_eq.mp hk];exact List.mem_cons_self
  ·exact List.mem_cons_of_mem _ (zcL r _ h)
theorem zb5{α:Type}{x:Str}:∀{l m:List (Str×α)},(l++m).lookup x=(l.lookup x).or (m.lookup x)
 | [],m=>rfl
 | (y,a)::l,m=>by
  rw [List.cons_append,List.lookup_cons,List.lookup_cons]
  cases x == y with
  | true=>rfl
  | false=>exact zb5
theorem zb3:∀(names:List (Str×NameKind)) (n:Nat) {x:Str},(x,NameKind.cell)∈names->∃c,(cellsFrom n names []).lookup x=some c
 | [],_,_,h=>by cases h
 | (y,k)::r,n,x,h=>by
  unfold cellsFrom;split
  ·rename_i hk;rw [za6,zb5]
   rcases List.mem_cons.mp h with e | h
   ·cases e
    cases hq:(cellsFrom (n+1) r []).lookup y with
    | some c=>exact ⟨c,rfl⟩
    | none=>exact ⟨n,by simp [List.lookup_cons]⟩
   ·obtain ⟨c,e⟩:=zb3 r (n+1) h;rw [e];exact ⟨c,rfl⟩
  ·rename_i hk
   rcases List.mem_cons.mp h with e | h
   ·cases e;exact absurd rfl hk
   ·exact zb3 r n h
theorem zcq{M:Model}{A:Around}{E:Z5}{s:Shared}{scope:Scope}{globals:Addr}{closure:List (Str×Addr)}{qual:Str}{func:Option Addr}{code:Value}{outer:Env}{builtins:Addr}{Q:Env->Shared->Prop}
  (hQ:∀h',h'.Ns s.heap.objs.size (fun _=>none)->(∀b o,s.heap.get? b=some o->h'.get? b=some o)->CellsOk h' (s.heap.objs.size+1) (cellsFrom (s.heap.objs.size+1) scope.names []) →
   Q (newEnv scope s.heap.objs.size globals (cellsFrom (s.heap.objs.size+1) scope.names []++closure) qual func code (some outer) builtins) { s with heap:=h' }) :
  wpAny M A (newFunctionEnv scope globals closure [] qual func code (some outer) builtins) Q E s:=by
 simp only [newFunctionEnv,Option.isSome_some,if_true];refine wpAny_bind (wpAny_alloc ?_);refine wpAny_bind (wpAny_layCells _ (fun name kind cells=>by cases hkc:kind == NameKind.cell<;>simp [hkc]) _ _ _ _ ?_);have ok:=cellsFrom_ok scope.names (s.heap.push { cls:=.type "dict",data:=.dict #[] }) (s.heap.objs.size+1) [] ⟨fun _ _ hm=>(nomatch hm),List.Pairwise.nil⟩ (by rw [Heap.size_push];exact Nat.le_refl _);rw [Heap.size_push] at ok;rw [show ({ s with heap:=s.heap.push { cls:=.type "dict",data:=.dict #[] } }:Shared).heap.objs.size=s.heap.objs.size+1 from Heap.size_push ..];rw [za6];simp only [List.forIn_nil];refine wpAny_bind (wpAny_pure (wpAny_pure ?_));exact hQ _ ((Heap.Ns.new s.heap (.type "dict")).keeps (pushCells_keeps _ _)) (fun b o e=>pushCells_keeps _ _ b o (Heap.get?_push_of_some _ e)) ok
structure CompScopeG(sc scope:Scope)(N:List Str)(xs:List Str)(caps:List (Str×Nat)):Prop where
 nd:(scope.names.map (·.1)).Nodup
 kind:scope.kind=.function
 names:∀y∈scope.names,y.2=.local->scope.names.lookup y.1=some .local
 free:∀y∈scope.names,y.2=.free->sc.names.lookup y.1=some .cell\/sc.names.lookup y.1=some .free
 cap:∀p∈caps,N[p.2]?=some p.1/\(p.1,NameKind.free)∈scope.names/\sc.names.lookup p.1≠some .local
 uniq:∀p∈caps,∀z∈scope.names,z.1=p.1->z.2=.free
def za8(X:Cx)(xs:List Str)(caps:List (Str×Nat))(scope:Scope)(cl:List (Str×Addr))(C:Addr)(s:Shared)(H:Hp)(ex:List Addr):Cx :=
 { X with N:=xs++caps.map (·.1),s₀:=s,H₀:=H,env:=compEnvC scope cl C X.env,outer:=X.stack,ex:=ex,fn:=fun x=>decide (scope.names.lookup x=some .cell),pn:=[],xe:=fun _ _=>False }
abbrev capσ(σ:St)(n:Nat)(caps:List (Str×Nat)):St:=List.replicate n none++caps.map fun p=>(σ[p.2]?).join
def zhU(wi:TI)(g:TG)(tt:TT)(te:TE)(n:Nat)(caps:List (Str×Nat)):TE:=fun σ H Q=>wi σ H fun J H1=>∃W:Nat->Nat->List V->St->Hp->Prop,(∃m,W 0 m [] (capσ σ n caps) H1)/\∀i m ys σ' H,W i m ys σ' H →
 ys.length<=sizeLine/\((J.stop i H/\∀p,H p=none->Q (.ref p) (upd H p (.lst ys))) ∨
 (J.go i H/\∀x H',J.yld i H x H'->g x σ' H' fun σ2 H2=>tt σ2 H2 fun ok H3=>if ok=true then te σ2 H3 fun y H4=>∃m',m'<m/\W (i+1) m' (ys++[y]) σ2 H4 else ∃m',m'<m/\W (i+1) m' ys σ2 H3))
section
variable{X:Cx}{elt iter tg:Expr}{xs:List Str}{pos:Pos}{ifs:List Expr}{scope:Scope}{caps:List (Str×Nat)}{wi:TI}{g:TG}{tt:TT}{te:TE}
structure OwnC(X:Cx)(scope:Scope)(lo:Nat)(h:Heap)(cl:List (Str×Addr)):Prop where
 sort:∀y c,cl.lookup y=some c->X.env.cells.lookup y=some c\/(h.IsCell c none/\lo<=c)
 inj:∀y z c,cl.lookup y=some c->cl.lookup z=some c->y=z
 has:∀y,((y,NameKind.free)∈scope.names\/(y,NameKind.cell)∈scope.names)->∃c,cl.lookup y=some c
 own:∀y c,scope.names.lookup y=some .cell->cl.lookup y=some c->lo<=c
 free:∀y,(y,NameKind.free)∈scope.names->∃c,cl.lookup y=some c/\X.env.cells.lookup y=some c
theorem zgF{scope:Scope}{env:Env}{y:Str}(h:(relabel scope env).names.lookup y=some .cell\/(relabel scope env).names.lookup y=some .free):(y,NameKind.free)∈scope.names\/(y,NameKind.cell)∈scope.names:=by
 have go:∀k,(relabel scope env).names.lookup y=some k->(k=.cell\/k=.free)->(y,NameKind.free)∈scope.names\/(y,NameKind.cell)∈scope.names:=fun k e hk=>by
  have hm:=PySem.mem_of_lookup e;obtain ⟨⟨n,k0⟩,hp,e2⟩:=List.mem_map.mp hm
  by_cases hq:(k0 == .free&&env.scope.kind == .function&&env.kindOf n == some .cell)=true
  ·have e3:(n,NameKind.cell)=(y,k):=by rw [<-e2];show _=if _ then _ else _;rw [if_pos hq]
   cases e3
   have:k0=.free:=by simp only [Bool.and_eq_true] at hq;exact eq_of_beq hq.1.1
   subst this;exact .inl hp
  ·have e3:(n,k0)=(y,k):=by rw [<-e2];show _=if _ then _ else _;rw [if_neg hq]
   cases e3
   rcases hk with rfl | rfl
   ·exact .inr hp
   ·exact .inl hp
 rcases h with h | h
 ·exact go _ h (.inl rfl)
 ·exact go _ h (.inr rfl)
theorem zgP:∀{l:List (Str×NameKind)},(l.map (·.1)).Nodup->∀{x:Str} {a b:NameKind},(x,a)∈l->(x,b)∈l->a=b
 | [],_,_,_,_,h,_=>by cases h
 | p::l,nd,x,a,b,h,h'=>by
  rw [List.map_cons,List.nodup_cons] at nd
  rcases List.mem_cons.mp h with h | h<;>rcases List.mem_cons.mp h' with h' | h'
  ·rw [<-h'] at h;exact (Prod.mk.inj h).2
  ·exact absurd (List.mem_map.mpr ⟨_,h',by rw [<-h]⟩) nd.1
  ·exact absurd (List.mem_map.mpr ⟨_,h,by rw [<-h']⟩) nd.1
  ·exact zgP nd.2 h h'
theorem zka{X:Cx}{scope:Scope}{lo n:Nat}{h:Heap}{cl:List (Str×Addr)}(nd:(scope.names.map (·.1)).Nodup)(hn:lo<=n)(hinj:∀x y c,X.env.cells.lookup x=some c->X.env.cells.lookup y=some c->x=y)
  (hcl:∀y c,cl.lookup y=some c->X.env.cells.lookup y=some c) (hlo:∀y c,X.env.cells.lookup y=some c->c<lo) (hhas:∀y,(y,NameKind.free)∈scope.names->∃c,cl.lookup y=some c) (ok:CellsOk h n (cellsFrom n scope.names [])) :
  OwnC X scope lo h (cellsFrom n scope.names []++cl):=by
 have sort:∀y c,(cellsFrom n scope.names []++cl).lookup y=some c->((cellsFrom n scope.names []).lookup y=some c)\/((cellsFrom n scope.names []).lookup y=none/\cl.lookup y=some c):=fun y c e=>by
  rw [zb5] at e
  cases hq:(cellsFrom n scope.names []).lookup y with
  | some c'=>rw [hq] at e;exact .inl e
  | none=>rw [hq] at e;exact .inr ⟨rfl,e⟩
 refine ⟨fun y c e=>?_,fun y z c e e'=>?_,fun y hy=>?_,fun y c hy e=>?_,fun y hy=>?_⟩
 ·rcases sort y c e with z | ⟨_,z⟩
  ·have:=ok.empty y c (PySem.mem_of_lookup z);exact .inr ⟨this.1,Nat.le_trans hn this.2⟩
  ·exact .inl (hcl y c z)
 ·rcases sort y c e with a | ⟨_,a⟩<;>rcases sort z c e' with b | ⟨_,b⟩
  ·exact name_of_addr ok.apart (PySem.mem_of_lookup a) (PySem.mem_of_lookup b)
  ·have h1:=(ok.empty y c (PySem.mem_of_lookup a)).2;have h2:=hlo z c (hcl z c b);exact absurd (Nat.lt_of_lt_of_le h2 (Nat.le_trans hn h1)) (Nat.lt_irrefl _)
  ·have h1:=(ok.empty z c (PySem.mem_of_lookup b)).2;have h2:=hlo y c (hcl y c a);exact absurd (Nat.lt_of_lt_of_le h2 (Nat.le_trans hn h1)) (Nat.lt_irrefl _)
  ·exact hinj y z c (hcl y c a) (hcl z c b)
 ·rw [zb5]
  cases hq:(cellsFrom n scope.names []).lookup y with
  | some c=>exact ⟨c,rfl⟩
  | none =>
   rcases hy with hy | hy
   ·exact hhas y hy
   ·obtain ⟨c,e⟩:=zb3 scope.names n hy;rw [hq] at e;cases e
 ·obtain ⟨c',e'⟩:=zb3 scope.names n (PySem.mem_of_lookup hy);rw [zb5,e'] at e;have:c'=c:=Option.some.inj e;subst this;exact Nat.le_trans hn (ok.empty y c' (PySem.mem_of_lookup e')).2
 ·obtain ⟨c,e⟩:=hhas y hy;refine ⟨c,?_,hcl y c e⟩;rw [zb5]
  cases hq:(cellsFrom n scope.names []).lookup y with
  | some c' =>
   have:=zcL scope.names n (PySem.mem_of_lookup hq);cases zgP nd hy this
  | none=>exact e
theorem zk0{pins:Z3}{σ:St}{H:Hp}{s s':Shared}{cl:List (Str×Addr)}{C:Addr}{fp:List Addr}(S:CompScopeG X.env.scope scope X.N xs caps)(hu:∀p∈caps,∀z∈scope.names,z.1=p.1->z.2=.free)
  (I:Inv X pins σ H s) (hcl:OwnC X scope s.heap.objs.size s'.heap cl)
  (hf:∀b∈fp,zlp X pins H b) (hlt:∀b∈fp,b<s.heap.objs.size) (hC:s.heap.objs.size<=C) (ho:s'.os=s.os) (hg:s'.gens=s.gens) (hk:∀b o,s.heap.get? b=some o->s'.heap.get? b=some o) (hn:s'.heap.Ns C (fun _=>none)) :
  Inv (za8 X xs caps scope cl C s H fp) [] (capσ σ xs.length caps) H s':=by
 have cellK:∀y c,cl.lookup y=some c->∃v,s'.heap.IsCell c v:=fun y c e=>by
  rcases hcl.sort y c e with z | z
  ·obtain ⟨v,o,q,d⟩:=I.cell y c z;exact ⟨v,o,hk _ _ q,d⟩
  ·exact ⟨none,z.1⟩
 refine ⟨⟨I.ok.mod,S.kind,I.ok.glob,I.ok.blt,hC,hcl.inj,fun y hy=>hcl.has y (zgF hy),fun y c z e=>hcl.own y c (of_decide_eq_true z) e,I.ok.hd,I.ok.frames,.inl rfl,fun b hb=>⟨Nat.ne_of_lt (Nat.lt_of_lt_of_le (hlt b hb) hC),fun y c e=>(hcl.sort y c e).elim (fun z=>(hf b hb).2.2.2.2.1 y c z) fun z=>Nat.ne_of_gt (Nat.lt_of_lt_of_le (hlt b hb) z.2)⟩,
  I.bs,Nat.le_trans I.ok.bsz I.sz,fun b o e hb=>?_,fun b hb hm=>?_,I.stack,I.stkFree⟩,ho,by rw [hg];exact I.bare,Un.kept hk,⟨_,hn,fun i y v h1 h2 h3=>?_⟩,fun y c e=>cellK y c e,I.hok.fresh hC,fun y c e=>(hcl.sort y c e).elim (I.freeC y c) fun z=>I.hok.fresh z.2,fun p hp=>absurd (show p∈([]:Z3) from hp) (by simp),I.hok.kept hk,?_⟩
 ·rcases (hf b hb).2.2.2.1 with z | z
  ·exact I.ok.noex b o e z
  ·exact absurd (Nat.lt_of_lt_of_le (Heap.lt_size e) (Nat.le_trans I.ok.bsz z)) (Nat.lt_irrefl _)
 ·rcases List.mem_cons.mp (I.stkSub b hm) with z | z
  ·exact (hf b hb).2.1 z
  ·exact (hf b hb).2.2.1 z
 ·have hi:¬ i<xs.length:=fun hi=>by
   have h2':(capσ σ xs.length caps)[i]?=some (some v):=h2;rw [List.getElem?_append_left (by rw [List.length_replicate];exact hi),List.getElem?_replicate] at h2'
   split at h2'<;>cases h2'
  ·have h1':(caps.map (·.1))[i-xs.length]?=some y:=by
    have h1':(xs++caps.map (·.1))[i]?=some y:=h1;rw [List.getElem?_append_right (by omega)] at h1';exact h1'
   rw [List.getElem?_map] at h1'
   have h2':(caps.map fun p=>(σ[p.2]?).join)[i-xs.length]?=some (some v):=by
    have h2':(capσ σ xs.length caps)[i]?=some (some v):=h2;rw [List.getElem?_append_right (by rw [List.length_replicate];omega),List.length_replicate] at h2';exact h2'
   rw [List.getElem?_map] at h2'
   cases hp:caps[i-xs.length]? with
   | none=>rw [hp] at h1';cases h1'
   | some p =>
    rw [hp] at h1' h2';have ey:p.1=y:=Option.some.inj h1';have ev:(σ[p.2]?).join=some v:=Option.some.inj h2';subst ey;have hmem:p∈caps:=List.mem_of_getElem? hp;obtain ⟨c1,c2,c3⟩:=S.cap p hmem
    have eσ:σ[p.2]?=some (some v):=by
     cases q:σ[p.2]? with
     | none=>rw [q] at ev;cases ev
     | some w=>rw [q] at ev;have:w=some v:=ev;rw [this]
    have hfr:=S.free _ c2 rfl;have hv:Vis X.env.scope p.1:=hfr.elim (fun z=>.inr (.inl z)) (fun z=>.inr (.inr z));obtain ⟨m,_,hl⟩:=I.loc;obtain ⟨u,r,l⟩:=hl p.2 p.1 v c1 eσ hv;refine ⟨u,r,.inr ⟨zen (scope:=scope) (env:=X.env) c2 (hu p hmem),?_⟩⟩;obtain ⟨c,ec,ec2⟩:=hcl.free p.1 c2;refine ⟨c,ec,?_⟩
    rcases l with ⟨z,_⟩ | ⟨_,c',ec',hcell⟩
    ·exact absurd z c3
    ·have:c'=c:=by rw [ec2] at ec';exact (Option.some.inj ec').symm
     subst this;obtain ⟨o,q,d⟩:=hcell;exact ⟨o,hk _ _ q,d⟩
 ·simp [za8,capσ]
theorem zg4{use:Option (Value->Sem Unit)}{Qf:Z5}{R:VK}{pins:Z3}{s:Shared}{σ:St}{H:Hp}(hc:X.calm=true)(S:CompScopeG X.env.scope scope X.N xs caps)(hi:PI X tg iter wi)(hg:∀cl C s H fp,PG (za8 X xs caps scope cl C s H fp) tg g)
  (ht:∀cl C s H fp,PIf (za8 X xs caps scope cl C s H fp) ifs tt) (he:∀cl C s H fp,PE (za8 X xs caps scope cl C s H fp) elt te)
  (hs:∀v,foldedSetIterable iter X.env v=pure v) (I:Inv X pins σ H s) (h:zhU wi g tt te xs.length caps σ H R)
  (fin:∀(D C:Addr) (s4:Shared) (m4:Z6) (H6:Hp) (r:Flow),s4.heap.Ns C m4->(∀{σ':St} {H7:Hp} {s5:Shared} {h':Heap},Inv X pins σ' H7 s5->Heap.SameBut C s5.heap h'->H7 C=none->Inv X pins σ' H7 { s5 with heap:=h' })->H6 C=none->C≠X.env.locals->(∀y c,X.env.cells.lookup y=some c->C≠c)->Inv X pins σ H6 s4->R (.ref D) H6->compPost (model X.prog X.w) X.A X.xe use Qf (.ref D) C (.ok r) s4) :
  wpAny (model X.prog X.w) X.A (comprehension (.ListComp elt [⟨tg,iter,ifs,0⟩] scope pos) scope X.env (firstIterPos [⟨tg,iter,ifs,0⟩] pos) (newList []) false (eval iter X.env) use) Qf X.xe s:=by
 obtain ⟨cl,hclos,hcl,hhas⟩:=zi6 (scope:=scope) (env:=X.env) fun y hy hf=>I.ok.has y.1 (S.free y hy hf)
 refine wpAny_comprehension_free (use:=use) rfl hs hclos S.kind S.names (thn (hi pins s σ H _ I h) fun v s1 h1=>thn h1 fun itv s2 h2=>?_);obtain ⟨it,fp,tn,J,H2,rfl,I2,T,st2,f2,W,⟨m0,w0⟩,turn⟩:=h2;refine wpAny_newObj_type (zcq (fun h₁ hns₁ hsb₁ hok₁=>?_));dsimp only at hns₁ hsb₁ hok₁ ⊢;generalize hHp:s2.heap.push { cls:=.type "list",dict:=none,data:=.seq ([]:List Value).toArray }=Hq at hns₁ hsb₁ hok₁ ⊢
 have hCe:Hq.objs.size=s2.heap.objs.size+1:=by rw [<-hHp,Heap.size_push]
 have hDC:s2.heap.objs.size≠Hq.objs.size:=by rw [hCe];exact Nat.ne_of_lt (Nat.lt_succ_self _)
 have hC:s2.heap.objs.size<=Hq.objs.size:=by rw [hCe];exact Nat.le_succ _
 have old:∀b o,s2.heap.get? b=some o->h₁.get? b=some o:=fun b o e=>hsb₁ b o (hHp ▸ Heap.get?_push_of_some _ e)
 have hacc:h₁.get? s2.heap.objs.size=some (lob [] 0):=hsb₁ _ _ (hHp ▸ Heap.get?_push_size _ rfl)
 have cellX:∀y c,X.env.cells.lookup y=some c->c<s2.heap.objs.size:=fun y c e=>by obtain ⟨v,q⟩:=I2.cell y c e;exact q.lt
 have oc:=zka (X:=X) (lo:=s2.heap.objs.size+1) S.nd (by rw [hCe];exact Nat.le_succ _) I.ok.inj hcl (fun y c e=>Nat.lt_succ_of_lt (cellX y c e)) hhas hok₁;generalize hcl2:cellsFrom (Hq.objs.size+1) scope.names []++cl=cl2 at oc ⊢;have oc':OwnC X scope s2.heap.objs.size h₁ cl2:=⟨fun y c e=>(oc.sort y c e).imp id fun z=>⟨z.1,Nat.le_of_succ_le z.2⟩,oc.inj,oc.has,fun y c a e=>Nat.le_of_succ_le (oc.own y c a e),oc.free⟩
 have hlt:∀b∈fp,b<s2.heap.objs.size:=fun b hb=>by obtain ⟨o,e,_⟩:=T.obj 0 _ st2 b hb;exact Heap.lt_size e
 generalize hY:za8 X xs caps scope cl2 Hq.objs.size s2 H2 fp=Y;have PEY:PE Y elt te:=hY ▸ he cl2 _ s2 H2 fp;have PIY:PIf Y ifs tt:=hY ▸ ht cl2 _ s2 H2 fp;have PGY:PG Y tg g:=hY ▸ hg cl2 _ s2 H2 fp
 have I3:Inv Y [] (capσ σ xs.length caps) H2 { s2 with heap:=h₁ }:=by
  rw [<-hY];exact zk0 S S.uniq I2 oc' f2 hlt hC rfl rfl old hns₁
 have eYenv:Y.env=compEnvC scope cl2 Hq.objs.size X.env:=by rw [<-hY];rfl
 have eYloc:Y.env.locals=Hq.objs.size:=by rw [eYenv];rfl
 have eYfs:Y.fs=frs X.stack:=by rw [<-hY];rfl
 have eYprog:Y.prog=X.prog:=by rw [<-hY];rfl
 have eYw:Y.w=X.w:=by rw [<-hY];rfl
 have eYK:Y.K=X.K:=by rw [<-hY];rfl
 have eYA:Y.A=X.A:=by rw [<-hY];rfl
 have eYc:Y.calm=true:=by rw [<-hY];exact hc
 have eYex:Y.ex=fp:=by rw [<-hY];rfl
 have eYs:Y.s₀=s2:=by rw [<-hY];rfl
 have eYH:Y.H₀=H2:=by rw [<-hY];rfl
 have eYpn:Y.pn=[]:=by rw [<-hY];rfl
 have eYcell:∀y c,Y.env.cells.lookup y=some c->X.env.cells.lookup y=some c\/s2.heap.objs.size+1<=c:=fun y c e=>(oc.sort y c (by rw [eYenv] at e;exact e)).imp id (·.2)
 have eYxe:∀e s',¬ Y.xe e s':=fun e s' z=>by rw [<-hY] at z;exact z
 have stkX:∀b∈frs X.stack,b<s2.heap.objs.size:=fun b hb=>by
  rcases List.mem_cons.mp (I2.stkSub b hb) with z | z
  ·rw [z];exact I2.lt
  ·refine Nat.not_le.mp fun hle=>I2.nofs hle z
 have pinX:∀p∈X.pn++pins,p.1<s2.heap.objs.size:=fun p hp=>Heap.lt_size (I2.pin p hp).1
 have fpY:∀{H':Hp} {its:List Value} {k:Nat},(∀b∈fp,H' b=none)->∀b∈fp,zlp Y [(s2.heap.objs.size,lob its k)] H' b:=fun {H' its k} hn b hb=>by
  refine ⟨hn b hb,by rw [eYloc];exact Nat.ne_of_lt (Nat.lt_of_lt_of_le (hlt b hb) hC),?_,.inl (by rw [eYex];exact hb),fun y c e=>(eYcell y c e).elim (fun z=>(f2 b hb).2.2.2.2.1 y c z) fun z=>Nat.ne_of_gt (Nat.lt_of_lt_of_le (hlt b hb) (Nat.le_of_succ_le z)),fun p hp=>?_⟩
  ·rw [eYfs];intro hm
   rcases List.mem_cons.mp (I2.stkSub b hm) with z | z
   ·exact (f2 b hb).2.1 z
   ·exact (f2 b hb).2.2.1 z
  ·rw [eYpn] at hp
   have e:p=(s2.heap.objs.size,lob its k):=by simpa using hp
   rw [e];exact Nat.ne_of_gt (hlt b hb)
 have pinD:∀{H':Hp} {σ':St} {s':Shared} {its:List Value} {k:Nat},Inv Y [] σ' H' s'->s'.heap.get? s2.heap.objs.size=some (lob its k)->H' s2.heap.objs.size=none->Inv Y [(s2.heap.objs.size,lob its k)] σ' H' s':=fun {H' σ' s' its k} I' e n =>
  I'.pins_of fun p hp=>by
   have ep:p=(s2.heap.objs.size,lob its k):=by simpa using hp
   subst ep;refine ⟨e,n,by rw [eYloc];exact hDC,?_,fun v z=>?_⟩
   ·rw [eYfs];exact fun hm=>Nat.lt_irrefl _ (stkX _ hm)
   ·have z':Data.seq its.toArray k=Data.cell v:=z;cases z'
 have loop:codeAny (model X.prog X.w) X.A (.compLoop (.ListComp elt [⟨tg,iter,ifs,0⟩] scope pos) 0 (.ref it) (.ref s2.heap.objs.size) (compEnvC scope cl2 Hq.objs.size X.env))
   (compPost (model X.prog X.w) X.A X.xe use Qf (.ref s2.heap.objs.size) Hq.objs.size) { s2 with heap:=h₁ }:=by
  refine zl6 (fun n s'=>∃i σx H' ys its k,Inv Y [(s2.heap.objs.size,lob its k)] σx H' s'/\tn i s'.heap/\(∀b∈fp,H' b=none)/\Vals ys its/\W i n ys σx H') ?_ m0
   ⟨0,capσ σ xs.length caps,H2,[],[],0,pinD I3 hacc (I2.hok.fresh (Nat.le_refl _)),T.keep _ _ _ st2 fun b hb o e=>old b o e,fun b hb=>(f2 b hb).1,.nil,w0⟩
  rintro n s3 ⟨i,σx,H3,ys,its,k,J3,st3,fr3,rv,w3⟩;obtain ⟨hz,hcase⟩:=turn i n ys σx H3 w3
  rcases hcase with ⟨stop,q⟩ | ⟨go,step⟩
  ·have hd:=T.done Y eYprog eYw eYK eYc i _ s3 _ H3 (notedBy (model X.prog X.w) X.A (compEnvC scope cl2 Hq.objs.size X.env) fun e s'=>compPost (model X.prog X.w) X.A X.xe use Qf (.ref s2.heap.objs.size) Hq.objs.size (.error e) s') J3 (fpY fr3) st3 stop;rw [eYA] at hd;refine thn hd fun r s4 ⟨hr,J4⟩=>?_
   subst hr;obtain ⟨m4,hn4,_⟩:=J4.loc
   have hn4':s4.heap.Ns Hq.objs.size m4:=by rw [<-eYloc];exact hn4
   have hnC:H3 Hq.objs.size=none:=by rw [<-eYloc];exact J4.free
   have hk5:HOk X.prog X.w H3 s4.heap:=by rw [<-eYprog,<-eYw];exact J4.hok
   have u5:Un (frs X.stack) fp H2 H3 s2.heap s4.heap:=by
    have ub:=J4.base;rw [eYfs,eYex,eYH,eYs] at ub;exact ub
   have J5:Inv X pins σ H3 s4:=I2.call' (s':=s4) (ch:=fp) (by have:=J4.os;rw [eYs] at this;exact this) u5 hk5 J4.bare fun b hb=>⟨(f2 b hb).2.2.2.1,(f2 b hb).2.1,(f2 b hb).2.2.2.2.1,(f2 b hb).2.2.2.2.2⟩
   have hp4:=J4.pin (s2.heap.objs.size,lob its k) (List.mem_append_right _ List.mem_cons_self);have hD5:s4.heap.get? s2.heap.objs.size=some (lob its k):=hp4.1;have J6:Inv X pins σ (upd H3 s2.heap.objs.size (.lst ys)) s4:=J5.track hp4.2.1 I2.sz (Nat.ne_of_gt I2.lt) (fun y c e=>Nat.ne_of_lt (cellX y c e)) (fun p hp=>Nat.ne_of_lt (pinX p hp)) (show zbZ X.prog X.w _ s4.heap _ (.lst ys) from ⟨hz,its,k,rv,hD5⟩);have hCloc:Hq.objs.size≠X.env.locals:=Nat.ne_of_gt (Nat.lt_of_lt_of_le I2.lt hC);exact fin _ Hq.objs.size s4 m4 _ _ hn4' (fun {σ'} {H7} {s5} {h'} J sb' hn=>J.turned (t':=s5.toks) (it:=Hq.objs.size) (fun b o hb e=>(sb'.2 b hb).trans e) hn hCloc (.inr (Nat.le_trans I2.sz hC)) (fun y c e=>Nat.ne_of_lt (Nat.lt_of_lt_of_le (cellX y c e) hC)) (fun p hp=>Nat.ne_of_lt (Nat.lt_of_lt_of_le (pinX p hp) hC))) (by rw [zar (Ne.symm hDC)];exact hnC) hCloc (fun y c e=>Nat.ne_of_gt (Nat.lt_of_lt_of_le (cellX y c e) hC)) J6 (q _ hp4.2.1)
  ·have hd:=T.item Y eYprog eYw eYK eYc i _ s3 _ H3 (notedBy (model X.prog X.w) X.A (compEnvC scope cl2 Hq.objs.size X.env) fun e s'=>compPost (model X.prog X.w) X.A X.xe use Qf (.ref s2.heap.objs.size) Hq.objs.size (.error e) s') J3 (fpY fr3) st3 go;rw [eYA] at hd;refine thn hd fun r s4 ⟨u,hr,h4⟩=>?_
   subst hr;refine thn h4 fun _ s5 ⟨v4,H4,J4,r4,y4,st5,fr4⟩=>?_
   have J4':=J4.pinned (fp:=fp) (fpY fr4) (T.obj _ _ st5);have ha:=PGY _ s5 σx H4 v4 u _ J4' r4 (step v4 H4 y4);rw [eYprog,eYw,eYA,eYenv] at ha;refine wpAny_mono ha (fun _ s5' ⟨σ5,H5,J5',q5⟩=>?_) fun e s' z=>(eYxe _ _ z).elim
   have ht5:=PIY _ s5' σ5 H5 _ J5' q5;rw [eYprog,eYw,eYA,eYenv] at ht5;refine wpAny_mono ht5 (fun ok s6 ⟨H6,J6,q6⟩=>?_) fun e s' z=>(eYxe _ _ z).elim
   have back:∀{H7:Hp} {s7:Shared},Inv Y ([(s2.heap.objs.size,lob its k)]++zgK fp s5.heap) σ5 H7 s7->tn (i+1) s7.heap/\∀b∈fp,H7 b=none:=fun {H7 s7} J7 =>
    ⟨T.keep _ _ _ st5 fun b hb o e=>(J7.pin (b,o) (List.mem_append_right _ (List.mem_append_right _ (zdf hb e)))).1,fun b hb=>by
     obtain ⟨o,e,d⟩:=T.obj _ _ st5 b hb
     exact (J7.pin (b,o) (List.mem_append_right _ (List.mem_append_right _ (zdf hb e)))).2.1⟩
   cases ok with
   | false =>
    rw [if_neg Bool.false_ne_true] at q6;rw [if_neg Bool.false_ne_true];obtain ⟨m',hm',w6⟩:=q6;exact ⟨m',hm',i+1,σ5,H6,ys,its,k,J6.unpinned,(back J6).1,(back J6).2,rv,w6⟩
   | true =>
    rw [if_pos rfl] at q6;rw [if_pos rfl];have he6:=PEY _ s6 _ H6 _ J6 q6;rw [eYprog,eYw,eYA,eYenv] at he6;refine wpAny_mono he6 (fun u7 s7 ⟨v7,H7,J7,r7,m',hm',w7⟩=>?_) fun e s' z=>(eYxe _ _ z).elim
    obtain ⟨st7,fr7⟩:=back J7;have hp7:=(J7.unpinned).pin (s2.heap.objs.size,lob its k) (List.mem_append_right _ List.mem_cons_self);have hl:=rv.length;refine append_at (hsz:=by show its.toArray.size<=sizeLine;rw [List.size_toArray];omega) hp7.1 fun h8 sb8 hD8=>?_
    have J7':Inv Y [] σ5 H7 s7:=J7.unpinned.pins_of fun p hp=>absurd hp (by simp)
    have J8:Inv Y [] σ5 H7 { s7 with heap:=h8 }:=J7'.turned (t':=s7.toks) (it:=s2.heap.objs.size) (fun b o hb e=>(sb8.2 b hb).trans e) hp7.2.1 (by rw [eYloc];exact hDC) (.inr (by rw [eYs];exact Nat.le_refl _)) (fun y c e=>(eYcell y c e).elim (fun z=>Nat.ne_of_lt (cellX y c z)) fun z=>Nat.ne_of_gt z) (fun p hp=>by rw [eYpn] at hp;simp at hp)
    have hD8':h8.get? s2.heap.objs.size=some (lob (its++[u7]) (k+1)):=by rw [hD8];simp [lob]
    exact ⟨m',hm',i+1,σ5,H7,ys++[v7],its++[u7],k+1,pinD J8 hD8' hp7.2.1,T.keep _ _ _ st7 fun b hb o e=>(sb8.2 b (Nat.ne_of_lt (hlt b hb))).trans e,fr7,rv.append (.cons r7 .nil),w7⟩
 exact codeAny_compStart_list loop (T.self X.A 0 _ _ _ (T.keep _ _ _ st2 fun b hb o e=>old b o e) loop)
theorem zlT(hc:X.calm=true)(S:CompScopeG X.env.scope scope X.N xs caps)(hi:PI X tg iter wi)(hg:∀cl C s H fp,PG (za8 X xs caps scope cl C s H fp) tg g)
  (ht:∀cl C s H fp,PIf (za8 X xs caps scope cl C s H fp) ifs tt) (he:∀cl C s H fp,PE (za8 X xs caps scope cl C s H fp) elt te)
  (hs:∀v,foldedSetIterable iter X.env v=pure v:=by intro _;rfl):PE X (.ListComp elt [⟨tg,iter,ifs,0⟩] scope pos) (zhU wi g tt te xs.length caps):=by
 intro pins s σ H Q I h;rw [eval_ListComp];exact zg4 (use:=none) hc S hi hg ht he hs I h fun D C s4 m4 H6 r hn tr hC _ _ J6 q=>⟨m4,hn,fun h5 sb=>⟨.ref D,H6,tr J6 sb hC,rfl,q⟩⟩
theorem zlL{k0:Nat}{y0:Str}{py spos:Pos}(hc:X.calm=true)(S:CompScopeG X.env.scope scope X.N xs caps)(hN0:X.N.Nodup)(hi0:X.N[k0]?=some y0)(hx0:Loc X.env.scope y0)(hi:PI X tg iter wi)(hg:∀cl C s H fp,PG (za8 X xs caps scope cl C s H fp) tg g)
  (ht:∀cl C s H fp,PIf (za8 X xs caps scope cl C s H fp) ifs tt) (he:∀cl C s H fp,PE (za8 X xs caps scope cl C s H fp) elt te)
  (hsw:swapsWith (.ListComp elt [⟨tg,iter,ifs,0⟩] scope pos) (some (.Name y0 py)) spos.line X.env=pure true)
  (hf0:X.fn y0=true\/X.env.scope.names.lookup y0=some .local)
  (hs:∀v,foldedSetIterable iter X.env v=pure v):PS X (.Assign [.Name y0 py] (.ListComp elt [⟨tg,iter,ifs,0⟩] scope pos) spos) (zpc (zhU wi g tt te xs.length caps) (zkJ k0)):=by
 intro pins s σ H DD I h;rw [exec_Assign_Name_used _ _ _ _ hsw];refine wpAny_bind (wpAny_standAt (wpAny_bind ?_));show wpAny _ X.A (do let _ ← comprehension (.ListComp elt [⟨tg,iter,ifs,0⟩] scope pos) scope X.env _ (newList []) false (eval iter X.env) (some (assign (.Name y0 py) X.env))) _ _ s;refine wpAny_bind (wpAny_mono (zg4 (use:=some (assign (.Name y0 py) X.env)) (Qf:=fun _ s'=>SP X pins DD .next s') hc S hi hg ht he hs I h fun D C s4 m4 H6 r hn tr hC hl hce J6 q=>?_) (fun _ s' hq=>wpAny_pure (wpAny_pure hq)) fun _ _ e=>e);show wpAny _ X.A (assign (.Name y0 py) X.env (.ref D)) _ X.xe s4;refine wpAny_assign_Name (zgx (i:=k0) J6 hN0 hi0 hx0 (v:=.ref D) rfl (fun s5 J7 ⟨a,sb,ha⟩=>?_) hf0);have haC:C≠a:=ha.elim (fun z=>by rw [z];exact hl) fun z=>hce _ _ z
 exact ⟨m4,hn.sameBut sb haC,fun h' sb'=>⟨_,_,tr J7 sb' hC,q⟩⟩
end
end L2
namespace ST
open PySem PySem.SetTable
end ST
namespace ST
open PySem PySem.SetTable
end ST
namespace ST
open PySem PySem.SetTable
end ST
namespace ST
open PySem PySem.Spec PyProof.Rows
section
variable{prog:Program}{w:World}{A:Around}{E:Z5}{s:Shared}
end
end ST
namespace ST
open PySem PySem.Spec PyProof.Rows
section
variable{prog:Program}{w:World}{A:Around}{E:Z5}{s:Shared}
end
end ST
namespace ST
open PySem PySem.Spec PyProof.Rows
section
variable{prog:Program}{w:World}{A:Around}{R:Result->Shared->Prop}{s:Shared}
end
end ST
namespace PySem
section
variable{prog:Program}{w:World}{A:Around}{E:Z5}{s:Shared}
end
end PySem
namespace L2
open PySem PySem.Spec PyProof.Rows
section
variable{X:Cx}{a b c:Expr}{ta tb tc:TE}{pos:Pos}
theorem zhG:zd4 X (.builtin "isinstance") (fun xs H Q=>∃x t c k,xs=[x,.ty c]/\TyOf X.K H x t/\PySem.W.kitOne X.K t (.type c)=some k/\Q (.bl k) H):=by
 intro pins s σ H xs us Q I r h;obtain ⟨x,t,c,k,rfl,ty,e,q⟩:=h
 cases r with
 | cons r1 rr =>
  cases rr with
  | cons r2 r3 =>
   cases r3;cases (show _=Value.type c from r2);exact zky I r1 ty e fun tk=>⟨.bl k,H,I.tok tk,rfl,q⟩
theorem zfZ(bs:List Bool):((List.range bs.length).all fun i=>(bs[i]?).getD true)=bs.all id:=by
 rw [Bool.eq_iff_iff,List.all_eq_true,List.all_eq_true];constructor
 ·intro h b hb;obtain ⟨i,hi,e⟩:=List.mem_iff_getElem.mp hb;have:=h i (List.mem_range.mpr hi);rw [List.getElem?_eq_getElem hi,e] at this;exact this
 ·intro h i hi;have hi':=List.mem_range.mp hi;rw [List.getElem?_eq_getElem hi'];exact h _ (List.getElem_mem hi')
theorem zhH(hc:X.calm=true):zd4 X (.builtin "all") (fun xs H Q=>∃(p:Addr) (bs:List Bool),xs=[.ref p]/\SqL X.K H p (bs.map V.bl)/\Q (.bl (bs.all id)) H):=by
 intro pins s σ H xs us Q I r h;obtain ⟨p,bs,rfl,hq,q⟩:=h;obtain ⟨u,rfl,rx⟩:=zgq r;cases rx;obtain ⟨its,rv,pl,hz⟩:=I.list hq;have hl:=pl.isList
 have hlt:p<s.heap.objs.size:=by obtain ⟨_,e,_⟩:=hl;exact Heap.lt_size e
 have hn:its.length=bs.length:=by have:=rv.length;rw [List.length_map] at this;exact this.symm
 refine call_all_walk (wpAny_pyIter_list hl ?_);refine ⟨s.heap.objs.size,[s.heap.objs.size,p],[s.heap.objs.size],its.toArray.size,_,_,fun i=>(bs[i]?).getD true,rfl,Walks.list (A:=X.A.in1) (I.ok.hd hc) _ p (Nat.ne_of_lt hlt) its.toArray,⟨⟨_,Heap.get?_push_size _ rfl,rfl,rfl⟩,hl.push _⟩,fun i v s' Q' E' hP hQ=>?_,fun h' tk hk=>?_⟩
 ·have hv:its[i]?=some v:=by simpa using hP
  have hi:i<bs.length:=by rw [<-hn];exact (List.getElem?_eq_some_iff.mp hv).1
  obtain ⟨u,hu,ru⟩:=rv.get (i:=i) (x:=.bl bs[i]) (by rw [List.getElem?_map,List.getElem?_eq_getElem hi];rfl);rw [hv] at hu;cases hu;cases (show v=Value.bool bs[i] from ru);refine wpAny_truthy_bool ?_;have hQ':Q' ((bs[i]?).getD true) s':=hQ;rw [List.getElem?_eq_getElem hi] at hQ';exact hQ'
 ·rw [List.size_toArray,hn,zfZ];refine ⟨.bl _,H,I.kept (t':=tk) fun b o e=>?_,rfl,q⟩;exact hk b o (fun hm=>by rw [List.mem_singleton.mp hm] at e;exact Nat.lt_irrefl _ (Heap.lt_size e)) (Heap.get?_push_of_some _ e)
theorem zhq:OpR X (compareOp .IsNot) (fun x y H Q=>∃i j,x=.bl i/\y=.bl j/\Q (.bl (!decide (i=j))) H):=by
 intro pins s σ H x y v u Q I rx ry h;obtain ⟨i,j,rfl,rfl,q⟩:=h;cases rx;cases ry;show wpAny _ _ (isSame (Value.bool i) (Value.bool j) >>= fun r=>pure (Value.bool (!r))) _ _ s;refine wpAny_bind (wpAny_isSame_plain (by rfl) (wpAny_pure ?_));refine ⟨.bl (!decide (i=j)),H,I,?_,q⟩;show _=Value.bool _;congr 1
 cases i<;>cases j<;>rfl
theorem zlY:OpR X (binaryOp .Add) (fun x y H Q=>∃(a b:Addr) (ys:List V),x=.ref a/\y=.ref b/\SqT X.K H a []/\SqT X.K H b ys/\Q (.ref b) H):=by
 intro pins s σ H x y v u Q I rx ry h;obtain ⟨a,b,ys,rfl,rfl,ha,hb,q⟩:=h;cases rx;cases ry;obtain ⟨its,r1,p1,_⟩:=I.tuple ha;obtain ⟨its2,r2,p2,_⟩:=I.tuple hb;cases r1;obtain ⟨⟨cls,dd,data,sl⟩,ho,hc,n,hd⟩:=id p1;obtain ⟨⟨cls2,dd2,data2,sl2⟩,ho2,hc2,n2,hd2⟩:=id p2;simp only at hc hd hc2 hd2;subst hc hd hc2 hd2
 exact concat_meets ⟨_,ho,rfl⟩ ⟨_,ho2,rfl⟩ noFill_tuple_add seq_tuple_add PySem.F.slot_tuple_add PySem.F.entry_tuple_add (PySem.F.args_tuple_add_2 _ _)
  (tuple_addW0 a b ([]:List Value).toArray its2.toArray n n2 dd dd2 sl sl2 (by rfl)) ⟨ho,ho2,⟨.ref b,H,I,rfl,q⟩⟩
end
end L2
namespace PySem
open PySem.Spec PyProof.Rows
theorem zdx:fillsNumberSlot (.type "tuple") "mul" = pure false :=
 fillsNumberSlot_seq (id:="tuple.__mul__") (r:=some (.builtin "tuple.__rmul__")) F.slot_tuple_mul.lookup (by decide +kernel) F.slot_tuple_rmul.lookup (by decide +kernel)
theorem zfs:seqRepeat? (.type "tuple")=pure (some (.builtin "tuple.__mul__")):=by
 have e1:=seqSlot_of (T:="tuple") (name:="__mul__") (id:="tuple.__mul__") F.slot_tuple_mul.lookup (by decide +kernel);have e2:=seqSlot_of (T:="tuple") (name:="__rmul__") (id:="tuple.__rmul__") F.slot_tuple_rmul.lookup (by decide +kernel);unfold seqRepeat?;rw [e1,e2];rfl
theorem zer(a:Int)(t:Tok)(l:Addr)(o:Obj){its:Array Value}{n:Nat}(hc:o.cls=.type "tuple")(hdd:o.data=.seq its n) :
  Meets (Builtin.«int.__rmul__» ⟨[.int a t,.ref l],[]⟩) (fun _ R s=>s.heap.get? l=some o/\R (.ok (.ret Value.notImplemented)) s) :=
 .of_wp fun prog w A R s h=>by
  obtain ⟨c,d,dt,sl⟩:=o;simp only at hc hdd;subst hc hdd;obtain ⟨hp,g,dr,tk,os⟩:=s;obtain ⟨hl,h⟩:=h
  wp_walk
  exact ⟨_,rfl,h⟩
section
variable{prog:Program}{w:World}{A:Around}{E:Z5}{s:Shared}
theorem zgs{a:Addr}{o:Obj}{its:Array Value}{n:Nat}{k:Int}{t:Tok}{P:Fin->Shared->Prop}(ho:s.heap.get? a=some o)(hc:o.cls=.type "tuple")(hd:o.data=.seq its n)(hne:its.isEmpty=false)(h2:2<=k)(hz:(its.size:Int)*k<=1000000)(hk:k<=1000)
  (h:P (.done (.ret (.ref s.heap.objs.size))) { s with heap:=s.heap.push { cls:=.type "tuple",data:=.seq ((List.replicate k.toNat its).foldl (·++·) #[]) } }) (hsz:((List.replicate k.toNat its).foldl (·++·) #[]).size<=sizeLine) :
  wpAny (model prog w) A (Builtin.«tuple.__mul__» ⟨[.ref a,.int k t],[]⟩) P E s:=by
 show wpAny _ _ (asIndex (.int k t) >>= _) _ _ s;refine wpAny_bind ?_;unfold asIndex;refine wpAny_bind (wpAny_pure ?_);dsimp only;refine wpAny_pure ?_
 have e0:(decide (k < -(2 ^ 63))||decide (k ≥ 2 ^ 63))=false:=by
  rw [Bool.or_eq_false_iff];refine ⟨decide_eq_false ?_,decide_eq_false ?_⟩
  ·omega
  ·omega
 rw [e0];simp only [Bool.false_eq_true,if_false];refine wpAny_bind (wpAny_tupleItemsOf ho hd ?_)
 have e1:(its.isEmpty||k == 1)=false:=by rw [hne,Bool.false_or];simp;omega
 rw [e1];simp only [Bool.false_eq_true,if_false]
 have e2:(decide (k<=0)||its.isEmpty)=false:=by rw [hne,Bool.or_false];exact decide_eq_false (by omega)
 rw [e2];simp only [Bool.false_eq_true,if_false];rw [if_neg (by omega)]
 have e3:Builtin.Tuple.tupleTooMany (its.size*k)=false:=by
  unfold Builtin.Tuple.tupleTooMany;refine decide_eq_false ?_
  have:(1000000:Int)<=(sizeLine:Int):=by decide
  omega
 rw [e3];simp only [Bool.false_eq_true,if_false];unfold Builtin.Tuple.tupleExact;exact wpAny_bind (wpAny_newObj_type (wpAny_pure h) hsz)
theorem zgr{a:Addr}{o:Obj}{its:Array Value}{n:Nat}{t:Tok}{P:Fin->Shared->Prop}(ho:s.heap.get? a=some o)(hc:o.cls=.type "tuple")(hd:o.data=.seq its n)(h:P (.done (.ret (.ref a))) s) :
  wpAny (model prog w) A (Builtin.«tuple.__mul__» ⟨[.ref a,.int 1 t],[]⟩) P E s:=by
 show wpAny _ _ (asIndex (.int 1 t) >>= _) _ _ s;refine wpAny_bind ?_;unfold asIndex;refine wpAny_bind (wpAny_pure ?_);dsimp only;refine wpAny_pure ?_
 have e0:(decide ((1:Int) < -(2 ^ 63))||decide ((1:Int) ≥ 2 ^ 63))=false:=by decide
 rw [e0];simp only [Bool.false_eq_true,if_false];refine wpAny_bind (wpAny_tupleItemsOf ho hd ?_)
 have e1:(its.isEmpty||(1:Int) == 1)=true:=by simp
 rw [e1];simp only [if_true];unfold Builtin.Tuple.tupleIsExact;refine wpAny_bind (wpAny_bind (wpAny_typeOf (T:="tuple") ⟨o,ho,hc⟩ (wpAny_pure ?_)));simp only [beq_self_eq_true,if_true];exact wpAny_bind (wpAny_rule (wpAny_pure h))
theorem zop{a:Addr}{o:Obj}{its:Array Value}{n:Nat}{k:Int}{t:Tok}{Q:Z5}(ho:s.heap.get? a=some o)(hc:o.cls=.type "tuple")(hd:o.data=.seq its n)(hne:its.isEmpty=false)(h2:2<=k)(hz:(its.size:Int)*k<=1000000)(hk:k<=1000)
  (h:Q (.ref s.heap.objs.size) { s with heap:=s.heap.push { cls:=.type "tuple",data:=.seq ((List.replicate k.toNat its).foldl (·++·) #[]) } }) (hsz:((List.replicate k.toNat its).foldl (·++·) #[]).size<=sizeLine) :
  wpAny (model prog w) A (binaryOp .Mult (.ref a) (.int k t)) Q E s:=by
 have hT:s.TypeIs (.ref a) "tuple":=⟨o,ho,hc⟩
 refine wpAny_binaryOp_repeat_ref (T:="tuple") (U:="int") (by decide) hT (fun s'=>typeIs_int s' k t) zdx F.fills_int_mul F.slot_int_rmul zfs F.slot_int_index.lookup
  (call_meets F.slot_int_rmul (typeIs_int s k t) F.entry_int_rmul (F.args_int_rmul_2 _ _) (zer k t a o hc hd) ⟨ho,rfl,hT,?_⟩)
 exact wpAny_call_entry F.slot_tuple_mul hT F.entry_tuple_mul (zgs ho hc hd hne h2 hz hk ⟨_,rfl,h⟩ hsz) (F.args_tuple_mul_2 _ _)
theorem zl2{a:Addr}{o:Obj}{its:Array Value}{n:Nat}{t:Tok}{Q:Z5}(ho:s.heap.get? a=some o)(hc:o.cls=.type "tuple")(hd:o.data=.seq its n)(h:Q (.ref a) s):wpAny (model prog w) A (binaryOp .Mult (.ref a) (.int 1 t)) Q E s:=by
 have hT:s.TypeIs (.ref a) "tuple":=⟨o,ho,hc⟩
 refine wpAny_binaryOp_repeat_ref (T:="tuple") (U:="int") (by decide) hT (fun s'=>typeIs_int s' 1 t) zdx F.fills_int_mul F.slot_int_rmul zfs F.slot_int_index.lookup
  (call_meets F.slot_int_rmul (typeIs_int s 1 t) F.entry_int_rmul (F.args_int_rmul_2 _ _) (zer 1 t a o hc hd) ⟨ho,rfl,hT,?_⟩)
 exact wpAny_call_entry F.slot_tuple_mul hT F.entry_tuple_mul (zgr ho hc hd ⟨_,rfl,h⟩) (F.args_tuple_mul_2 _ _)
end
end PySem
namespace L2
open PySem PySem.Spec PyProof.Rows
inductive D where
 | non | bl (b:Bool) | int (i:Int) | str (x:Str) | tup (l:List D) | lst (l:List D)
section
variable{X:Cx}
theorem zob:OpR X (binaryOp .Mult) (fun x y H Q=>∃(p:Addr) (k:Int) (xs:List V),x=.ref p/\y=.int k/\SqT X.K H p xs/\xs≠[]/\2<=k/\k<=1000/\xs.length<=1000/\∀l,H l=none->Q (.ref l) (upd H l (.tup (List.replicate k.toNat xs).flatten))):=by
 intro pins s σ H x y v u Q I rx ry h;obtain ⟨p,k,xs,rfl,rfl,hq,hne,h2,hk,hx,q⟩:=h;cases rx;obtain ⟨t,rfl⟩:=ry;obtain ⟨its,rv,⟨o,ho,hc,n,hd⟩,_⟩:=I.tuple hq;have hl:=rv.length
 have hnew:(List.replicate k.toNat its.toArray).foldl (·++·) #[]=(List.replicate k.toNat its).flatten.toArray:=by
  have:=zfa its k.toNat [];rw [List.nil_append] at this;exact this
 have hsz:(List.replicate k.toNat its).flatten.length<=1000000:=by
  rw [zht];exact Nat.le_trans (Nat.mul_le_mul (show k.toNat<=1000 by omega) (show its.length<=1000 by omega)) (by decide)
 have hline:(1000000:Nat)<=sizeLine:=by decide
 refine zop ho hc hd ?_ h2 ?_ hk ?_ ?_
 ·have:its≠[]:=fun z=>hne (by cases xs with | nil=>rfl | cons a r=>rw [z] at hl;cases hl)
  simpa using this
 ·rw [List.size_toArray];have:=Int.mul_le_mul (show (its.length:Int)<=1000 by omega) hk (by omega) (by omega);omega
 ·rw [hnew];refine ⟨.ref s.heap.objs.size,_,I.laid (t':=s.toks) (o:=.tup (List.replicate k.toNat xs).flatten) (fun b ob q=>Heap.get?_push_of_some _ q) (Nat.le_refl _) ?_,rfl,q _ (I.hok.fresh (Nat.le_refl _))⟩;refine ⟨?_,_,rv.rep k.toNat,IsTup.new _ _⟩;rw [zht] at hsz ⊢;rw [<-hl] at hsz;omega
 ·rw [hnew,List.size_toArray];omega
end
end L2
namespace HT
open PySem PySem.Spec PyProof.Rows L2
section
variable{prog:Program}{w:World}{A:Around}{E:Z5}{s:Shared}
theorem zee{t sl:Addr}{items:Array Value}{vl vu:Value}{lo hi:Option Int}{Q:Z5}(ht:IsTup s.heap t items)(hs:s.heap.IsSliceOf sl vl vu .none)(pl:IsPart vl lo)(pu:IsPart vu hi)
  (h1:sIx items.size 0 lo=0) (h2:sIx items.size items.size hi=items.size) (h:Q (.ref t) s):wpAny (model prog w) A (getItem (.ref t) (.ref sl)) Q E s:=by
 obtain ⟨os,hos,hcs,hds⟩:=id hs;have hTs:s.TypeIs (.ref sl) "slice":=⟨os,hos,hcs⟩;unfold getItem
 try with_reducible refine wpAny_holding ?_
 first | refine wpAny_bind (wpAny_pure ?_) | skip
 refine wpAny_bind (wpAny_sequenceKey ht.typeIs (by decide) ?_)
 refine wpAny_bind (wpAny_callSpecial?_slot (name:=Str.ofString "__getitem__") ht.typeIs PyProof.Rows.slot_tuple_getitem
  (wpAny_call_entry PyProof.Rows.slot_tuple_getitem ht.typeIs entry_tuple_getitem ?_ (args_tuple_getitem _ _)))
 show wpAny _ _ (Builtin.Tuple.tupleItemsOf (.ref t) >>= _) _ _ s;refine wpAny_bind (tupleItemsOf_ ht ?_);refine wpAny_bind (wpAny_typeOf hTs ?_);rw [if_pos (by decide)];refine wpAny_bind (zcO hs pl pu ?_);rw [h1,h2];show wpAny _ _ (if ((((0:Nat):Int) == 0&&(1:Int) == 1&&(items.size-0) == items.size)=true) then _ else _) _ _ s;rw [if_pos (by simp)];unfold Builtin.Tuple.tupleIsExact;refine wpAny_bind (wpAny_bind (wpAny_typeOf ht.typeIs (wpAny_pure ?_)));simp only [beq_self_eq_true,if_true];refine wpAny_bind (wpAny_rule ?_)
 first
  | exact wpAny_pure ⟨_,rfl,wpAny_pure h⟩
  | exact wpAny_bind (wpAny_pure (wpAny_pure ⟨_,rfl,wpAny_pure h⟩))
end
end HT
namespace L2
open PySem PySem.Spec PyProof.Rows
theorem ziN{X:Cx}:SlR X (fun x lo hi H Q=>∃(a:Addr) (xs:List V),x=.ref a/\SqT X.K H a xs/\HT.sIx xs.length 0 lo=0/\HT.sIx xs.length xs.length hi=xs.length/\Q (.ref a) H):=by
 intro pins s σ H x v vl vu lo hi sl Q I rx hs pl pu h;obtain ⟨a,xs,rfl,hx,h1,h2,q⟩:=h;cases rx;obtain ⟨its,r,ht,hz⟩:=I.tuple hx
 have hlen:its.toArray.size=xs.length:=by rw [List.size_toArray];exact r.length.symm
 refine ⟨"tuple",_,PyProof.Rows.slot_tuple_getitem.lookup,ht.typeIs,?_⟩;exact HT.zee ht hs pl pu (by rw [hlen];exact h1) (by rw [hlen];exact h2) ⟨.ref a,H,I,rfl,q⟩
end L2
namespace L2
open PySem PySem.Spec PyProof.Rows
mutual
def D.py:D->PyData
 | .non=>.none
 | .bl b=>.bool b
 | .int i=>.int i
 | .str x=>.str x
 | .tup l=>.tuple (D.pys l)
 | .lst l=>.list (D.pys l)
def D.pys:List D->List PyData
 | []=>[]
 | d::l=>d.py::D.pys l
end
mutual
def D.fit:Nat->D->Bool
 | _,.non=>true
 | _,.bl _=>false
 | _,.int _=>true
 | _,.str x=>PyData.strOk x
 | 0,.tup _=>false
 | n+1,.tup l=>D.fits n l
 | 0,.lst _=>false
 | n+1,.lst l=>D.fits n l
def D.fits:Nat->List D->Bool
 | _,[]=>true
 | n,d::l=>d.fit n&&D.fits n l
end
theorem D.fits_iff{n:Nat}:∀{l:List D},D.fits n l=true↔∀d∈l,d.fit n=true
 | []=>by simp [D.fits]
 | d::l=>by simp [D.fits,D.fits_iff (l:=l)]
mutual
theorem D.lay:∀{n:Nat} {d:D},d.fit n=true->d.py.canLay0=true/\d.py.depth<=n
 | _,.non,_=>⟨rfl,Nat.zero_le _⟩
 | _,.bl _,h=>by simp [D.fit] at h
 | _,.int _,_=>⟨rfl,Nat.zero_le _⟩
 | _,.str x,h=>⟨by simpa [D.fit,D.py,PyData.canLay0] using h,Nat.zero_le _⟩
 | 0,.tup _,h=>by simp [D.fit] at h
 | 0,.lst _,h=>by simp [D.fit] at h
 | n+1,.tup l,h=>by
  have h':D.fits n l=true:=by simpa [D.fit] using h
  obtain ⟨a,b⟩:=D.lays h';exact ⟨by simpa [D.py,PyData.canLay0] using a,by simp only [D.py,PyData.depth];omega⟩
 | n+1,.lst l,h=>by
  have h':D.fits n l=true:=by simpa [D.fit] using h
  obtain ⟨a,b⟩:=D.lays h';exact ⟨by simpa [D.py,PyData.canLay0] using a,by simp only [D.py,PyData.depth];omega⟩
theorem D.lays:∀{n:Nat} {l:List D},D.fits n l=true->PyData.canLayAll0 (D.pys l)=true/\PyData.depthAll (D.pys l)<=n
 | _,[],_=>⟨rfl,Nat.zero_le _⟩
 | n,d::l,h=>by
  simp only [D.fits,Bool.and_eq_true] at h;obtain ⟨a,b⟩:=D.lay h.1;obtain ⟨c,e⟩:=D.lays h.2;exact ⟨by simp [D.pys,PyData.canLayAll0,a,c],by simp only [D.pys,PyData.depthAll];omega⟩
end
section
variable{X:Cx}
theorem znV{h:Heap}{v:Value}{d:PyData}{as:List Addr}(hl:d.canLay0=true)(r:Reads h v d as):SeqAt.readOf h v=d:=by
 have hx:∃d as,Reads h v d as:=⟨d,as,r⟩;unfold SeqAt.readOf;rw [dif_pos hx];obtain ⟨bs,rb⟩:=hx.choose_spec;exact (SeqAt.Reads.unique _ _ _ _ _ hl r rb).symm
end
end L2
namespace L2
open PySem PySem.Spec PyProof.Rows
def zkd:Option Int->Value->Bool
 | none,.none=>true
 | some i,v=>Value.isInt i v
 | _,_=>false
theorem za3:∀{k:Option Int} {v:Value},zkd k v=true->(k=none/\v=.none)\/∃i t,k=some i/\v=.int i t
 | none,v,h=>by
  cases v<;>simp [zkd] at h
  exact .inl ⟨rfl,rfl⟩
 | some i,v,h=>by
  obtain ⟨t,e⟩:=Value.isInt_shape (k:=i) (v:=v) (by simpa [zkd] using h);exact .inr ⟨i,t,rfl,e⟩
def zib:Int:=reduceHash 0xFCA86420
theorem zkG{prog:Program}{w:World}{A:Around}{E:Z5}{s:Shared}{Q:Int->Shared->Prop}(h:Q zib { s with toks:=s.toks+1 }):wpAny (model prog w) A (pyHash .none) Q E s :=
 PySem.W.pyHash_slot (T:="NoneType") rfl F.slot_NoneType_hash F.entry_NoneType_hash (F.args_NoneType_hash_1 _) (beq_builtin_none _) (.inl rfl) (wpAny_bind (wpAny_pure (wpAny_bind (wpAny_mkInt (wpAny_pure ⟨_,_,rfl,h⟩)))))
def zea(prog:Program)(w:World):KeyKind prog w (Option Int) where
 is:=zkd
 hash:=fun k=>match k with | none=>zib | some i=>hashInt i
 inj:=fun v a b ha hb=>by
  rcases za3 ha with ⟨rfl,rfl⟩ | ⟨i,t,rfl,rfl⟩<;>rcases za3 hb with ⟨rfl,e⟩ | ⟨j,u,rfl,e⟩<;>cases e<;>rfl
 byValue:=fun k v h=>by
  rcases za3 h with ⟨rfl,rfl⟩ | ⟨i,t,rfl,rfl⟩<;>rfl
 pyHash:=fun {A E s k v Q} h hq=>by
  rcases za3 h with ⟨rfl,rfl⟩ | ⟨i,t,rfl,rfl⟩
  ·exact zkG hq
  ·exact wpAny_pyHash_int hq
 eqBool:=fun {A E s a b u v Q} ha hb hq=>by
  rcases za3 ha with ⟨rfl,rfl⟩ | ⟨i,t,rfl,rfl⟩<;>rcases za3 hb with ⟨rfl,rfl⟩ | ⟨j,u,rfl,rfl⟩
  ·unfold PySem.eqBool;refine wpAny_holding ?_;refine wpAny_ite_split (fun _=>wpAny_bind (wpAny_rule (wpAny_pure (by simpa using hq)))) (fun z=>absurd rfl z)
  ·exact SeqAt.EqAt.none_int j u prog w E Q (by simpa using hq)
  ·exact SeqAt.EqAt.int_none i t prog w E Q (by simpa using hq)
  ·refine SeqAt.EqAt.int_int i t j u prog w E Q ?_
   have e:decide (some i=some j)=(i == j):=by
    rw [Bool.eq_iff_iff];simp
   rw [<-e];exact hq
 «strs»:=fun k x t v h=>by
  rcases za3 h with ⟨_,e⟩ | ⟨i,u,_,e⟩<;>cases e
abbrev NK:=Int×List (Option Int)
def zd9:Option Int->PyData | none=>.none | some i=>.int i
def zd3(prog:Program)(w:World)(h:Heap)(k:NK)(a:Addr):Prop:=∃o items n t b,h.get? a=some o/\o.cls=.type "tuple" /\ o.data=.seq items n/\items.toList=[.int k.1 t,.ref b]/\IsTupleKey (zea prog w) h k.2 b
section
variable{prog:Program}{w:World}{A:Around}{E:Z5}{s:Shared}
def zl1(prog:Program)(w:World)(k:NK):Int:=reduceHash (Builtin.Tuple.tupleHashOf [hashInt k.1,tupleKeyHash (zea prog w) k.2])
theorem zd3.typeIs{k:NK}{a:Addr}(x:zd3 prog w s.heap k a):s.TypeIs (.ref a) "tuple":=let ⟨o,_,_,_,_,ho,hc,_⟩:=x;⟨o,ho,hc⟩
theorem zdE{h:Heap}:∀{l:Z4} {vs:List Value},ItemsAre (zea prog w) l vs->ReadsAll h vs (l.map zd9) []
 | _,_,.nil=>.nil
 | _,_,.cons h1 r=>by
  rcases za3 h1 with ⟨rfl,rfl⟩ | ⟨i,t,rfl,rfl⟩
  ·exact .cons (as:=[]) (bs:=[]) .none (zdE r)
  ·exact .cons (as:=[]) (bs:=[]) (.int i t) (zdE r)
theorem zd3.reads{h:Heap}{k:NK}{a:Addr}(x:zd3 prog w h k a):Reads h (.ref a) (.tuple [.int k.1,.tuple (k.2.map zd9)]) []:=by
 obtain ⟨o,items,n,t,b,ho,hc,hd,hi,ob,its,m,hob,hcb,hdb,hib⟩:=x;refine .tuple ho hc hd ?_;rw [hi];exact .cons (as:=[]) (bs:=[]) (.int _ _) (.cons (as:=[]) (bs:=[]) (.tuple hob hcb hdb (zdE hib)) .nil)
theorem zgN:∀{l m:Z4},PyData.eqvAll (l.map zd9) (m.map zd9)=decide (l=m)
 | [],[]=>by simp [PyData.eqvAll]
 | [],_::_=>by simp [PyData.eqvAll]
 | _::_,[]=>by simp [PyData.eqvAll]
 | x::l,y::m=>by
  have ih:=zgN (l:=l) (m:=m);simp only [List.map_cons,PyData.eqvAll,ih]
  cases x<;>cases y<;>simp [zd9,PyData.eqv]
  rw [Bool.eq_iff_iff];simp
theorem zez:∀{l:Z4},PyData.canLayAll0 (l.map zd9)=true/\PyData.depthAll (l.map zd9)=0
 | []=>⟨rfl,rfl⟩
 | x::l=>by
  obtain ⟨a,b⟩:=zez (l:=l)
  cases x<;>simp [zd9,PyData.canLayAll0,PyData.depthAll,PyData.canLay0,PyData.depth,a,b]
def zdR(prog:Program)(w:World):HeapKind prog w NK where
 is:=zd3 prog w
 hash:=zl1 prog w
 draws:=fun k=>1+(k.2.length+1)+1
 room:=fun A=>A.units+8<cLine
 inj:=fun {h a x y} hx hy=>by
  obtain ⟨o,items,n,t,b,ho,hc,hd,hi,kx⟩:=hx;obtain ⟨o',items',n',t',b',ho',hc',hd',hi',ky⟩:=hy;rw [ho] at ho';cases ho';rw [hd] at hd';cases hd';rw [hi] at hi';simp only [List.cons.injEq,Value.int.injEq,Value.ref.injEq,and_true] at hi';obtain ⟨⟨e1,_⟩,e2⟩:=hi';subst e2;exact Prod.ext e1 (kx.inj ky)
 keeps:=fun {h h' k a d o es ep} x ho hd hs=>by
  obtain ⟨o1,items,n,t,b,ho1,hc,hd1,hi,kx⟩:=x;refine ⟨o1,items,n,t,b,(hs.2 a ?_).trans ho1,hc,hd1,hi,kx.keeps ho hd hs⟩;rintro rfl;rw [ho] at ho1;cases ho1;rw [hd] at hd1;cases hd1
 pyHash:=fun {A E s k a Q} hu x hq=>by
  have hT:=zd3.typeIs (prog:=prog) (w:=w) x;obtain ⟨o,items,n,t,b,ho,hc,hd,hi,kx⟩:=x;refine PySem.W.pyHash_slot (T:="tuple") hT F.slot_tuple_hash F.entry_tuple_hash (F.args_tuple_hash_1 _) (beq_builtin_none _) (.inr (by omega)) ?_;show wpAny _ _ (Builtin.Tuple.tupleItemsOf (.ref a) >>= _) _ _ s;refine wpAny_bind (wpAny_tupleItemsOf ho hd ?_);refine wpAny_bind ?_;rw [<-Array.forIn_toList,hi];refine wpAny_forIn_list _ (fun zcf (r:Array Int) s'=>(zcf=[.int k.1 t,.ref b]/\r.toList=[]/\s'=s)\/(zcf=[.ref b]/\r.toList=[hashInt k.1]/\s'={ s with toks:=s.toks+1 })\/(zcf=[]/\r.toList=[hashInt k.1,tupleKeyHash (zea prog w) k.2]/\s'={ s with toks:=s.toks+1+(k.2.length+1) })) _ ?_ ?_ _ _ (.inl ⟨rfl,rfl,rfl⟩)
  ·rintro x zcf r s' (⟨e,hr,rfl⟩ | ⟨e,hr,rfl⟩ | ⟨e,hr,rfl⟩)
   ·injection e with e1 e2
    subst e1 e2;refine wpAny_bind (wpAny_pyHash_int ?_)
    first
     | exact wpAny_pure (.inr (.inl ⟨rfl,by simp [hr],rfl⟩))
     | exact wpAny_bind (wpAny_pure (wpAny_pure (.inr (.inl ⟨rfl,by simp [hr],rfl⟩))))
   ·injection e with e1 e2
    subst e1 e2;refine wpAny_bind (wpAny_pyHash_tuple (A:=A.in1) (by show A.units+1<cLine;omega) kx ?_)
    first
     | exact wpAny_pure (.inr (.inr ⟨rfl,by simp [hr],rfl⟩))
     | exact wpAny_bind (wpAny_pure (wpAny_pure (.inr (.inr ⟨rfl,by simp [hr],rfl⟩))))
   ·cases e
  ·rintro r s' (⟨e,_⟩ | ⟨e,_⟩ | ⟨_,hr,rfl⟩)
   ·cases e
   ·cases e
   ·show wpAny _ _ (retInt (Builtin.Tuple.tupleHashOf r.toList)) _ _ _;rw [hr];refine wpAny_bind (wpAny_mkInt (wpAny_pure ⟨_,_,rfl,?_⟩))
    have e:s.toks+1+(k.2.length+1)+1=s.toks+(1+(k.2.length+1)+1):=by omega
    show Q _ { s with toks:=s.toks+1+(k.2.length+1)+1 };rw [e];exact hq
 eqBool:=fun {A E s x y a b Q} hu hx hy hq=>by
  refine SeqAt.eqAt_reads _ _ A s (.ref a) (.ref b) [] [] hx.reads hy.reads ?_ ?_ ?_ prog w E Q ?_
  ·simp [PyData.canLay0,PyData.canLayAll0,zez.1]
  ·simp [PyData.canLay0,PyData.canLayAll0,zez.1]
  ·have h1:(PyData.tuple [.int x.1,.tuple (x.2.map zd9)]).depth<=3:=by
    simp [PyData.depth,PyData.depthAll,zez.2]
   have:min (PyData.tuple [.int x.1,.tuple (x.2.map zd9)]).depth (PyData.tuple [.int y.1,.tuple (y.2.map zd9)]).depth<=3:=Nat.le_trans (Nat.min_le_left _ _) h1;omega
  ·have e:(PyData.tuple [.int x.1,.tuple (x.2.map zd9)]).eqv (.tuple [.int y.1,.tuple (y.2.map zd9)])=decide (x=y):=by
    simp only [PyData.eqv,PyData.eqvAll,zgN];rw [Bool.eq_iff_iff];simp [Prod.ext_iff]
   rw [e];exact hq
 quiet:=fun {A E s k a Q} x hq=>by
  have hT:=zd3.typeIs (prog:=prog) (w:=w) x;obtain ⟨o,items,n,t,b,ho,hc,hd,hi,kx⟩:=x;have hTb:=kx.typeIs;obtain ⟨ob,its,m,hob,hcb,hdb,hib⟩:=kx
  have low:wpAny (model prog w) A (eqIsQuiet 7 (.ref b)) (fun r s'=>r=true/\s'=s) E s:=by
   unfold eqIsQuiet;refine wpAny_bind (wpAny_specialOf hTb F.slot_tuple_eq.lookup ?_);show wpAny _ _ (isInstance (.ref b) (.type "tuple") >>= _) _ _ s;refine wpAny_bind (wpAny_isInstance hTb isSubtype_tuple_tuple ?_);simp only [Bool.not_true,Bool.false_eq_true,if_false];refine wpAny_bind (wpAny_seqItems hob hdb (wpAny_bind ?_));show wpAny _ _ (forIn its _ _) _ _ s;rw [<-Array.forIn_toList];refine wpAny_forIn_list _ (fun zcf r s'=>r.1=none/\s'=s/\∀v∈zcf,carriedByValue v=true) _ ?_ ?_ _ _ ⟨rfl,rfl,hib.byValue⟩
   ·rintro v zcf r s' ⟨hr,rfl,hall⟩;rw [eqIsQuiet_byValue _ (hall v List.mem_cons_self)];refine wpAny_bind (wpAny_pure ?_);simp only [Bool.not_true,Bool.false_eq_true,if_false];exact wpAny_pure ⟨rfl,rfl,fun z hz=>hall z (List.mem_cons_of_mem _ hz)⟩
   ·rintro ⟨r1,r2⟩ s' ⟨hr,rfl,_⟩;simp only at hr;subst hr;exact wpAny_pure ⟨rfl,rfl⟩
  unfold eqIsQuiet;refine wpAny_bind (wpAny_specialOf hT F.slot_tuple_eq.lookup ?_);show wpAny _ _ (isInstance (.ref a) (.type "tuple") >>= _) _ _ s;refine wpAny_bind (wpAny_isInstance hT isSubtype_tuple_tuple ?_);simp only [Bool.not_true,Bool.false_eq_true,if_false];refine wpAny_bind (wpAny_seqItems ho hd (wpAny_bind ?_));show wpAny _ _ (forIn items _ _) _ _ s;rw [<-Array.forIn_toList,hi];refine wpAny_forIn_list _ (fun zcf r s'=>r.1=none/\s'=s/\(zcf=[.int k.1 t,.ref b]\/zcf=[.ref b]\/zcf=[])) _ ?_ ?_ _ _ ⟨rfl,rfl,.inl rfl⟩
  ·rintro v zcf r s' ⟨hr,rfl,(e | e | e)⟩
   ·injection e with e1 e2
    subst e1 e2;rw [eqIsQuiet_byValue _ rfl];refine wpAny_bind (wpAny_pure ?_);simp only [Bool.not_true,Bool.false_eq_true,if_false];exact wpAny_pure ⟨rfl,rfl,by simp⟩
   ·injection e with e1 e2
    subst e1 e2;refine wpAny_bind (wpAny_mono low (fun r' s'' hz=>?_) fun _ _ z=>z);obtain ⟨rfl,rfl⟩:=hz;simp only [Bool.not_true,Bool.false_eq_true,if_false];exact wpAny_pure ⟨rfl,rfl,by simp⟩
   ·cases e
  ·rintro ⟨r1,r2⟩ s' ⟨hr,rfl,_⟩;simp only at hr;subst hr;exact wpAny_pure hq
end
end L2
namespace L2
open PySem PySem.Spec PyProof.Rows
section
variable{σ:St}{H:Hp}{K:PySem.W.Frag}{te:TE}{tt:TT}{caps:List (Str×Nat)}{Q:VK}
end
end L2
namespace L2
open PySem PySem.Spec PyProof.Rows
def oV:Option Int->V | none=>.non | some i=>.int i
def DN(P:Program)(w:World)(a:Addr)(xs:List (NK×Addr×Value))(h:Heap):Prop :=
 ∃o es ep,h.get? a=some o/\o.ExactDict/\o.data=.dict es ep/\es.toList=xs.map (entryOfKey (zdR P w))/\(xs.map (·.1)).Nodup/\(a == sysModules)=false
def zhM(H:Hp)(kb:Addr)(k:NK):Prop:=∃b,H kb=some (.tup [.int k.1,.ref b])/\H b=some (.tup (k.2.map oV))
def zmL(H:Hp)(xs:List (NK×Addr×Value))(m:List (NK×V)):Prop:=Paired (fun (x:NK×Addr×Value) (p:NK×V)=>x.1=p.1/\zhM H x.2.1 x.1/\zbp p.2 x.2.2) xs m
theorem ziw{P:Program}{w:World}{a:Addr}{xs:List (NK×Addr×Value)}:∀h1 h2:Heap,DN P w a xs h1->(∀o,h1.get? a=some o->h2.get? a=some o)->DN P w a xs h2:=fun h1 h2 ⟨o,es,ep,e,r⟩ k=>⟨o,es,ep,k _ e,r⟩
section
variable{X:Cx}{pins:Z3}{σ:St}{H:Hp}{s:Shared}
theorem zeG:∀{l:Z4} {its:List Value},Vals (l.map oV) its->ItemsAre (zea X.prog X.w) l its
 | [],_,.nil=>.nil
 | none::l,_,.cons r t=>by
  cases r;exact .cons rfl (zeG t)
 | some i::l,_,.cons r t=>by
  obtain ⟨u,rfl⟩:=r;exact .cons (by simp [zea,zkd,Value.isInt]) (zeG t)
theorem Inv.nest(I:Inv X pins σ H s){kb:Addr}{k:NK}(h:zhM H kb k):zd3 X.prog X.w s.heap k kb:=by
 obtain ⟨b,h1,h2⟩:=h;obtain ⟨its,rv,⟨o,ho,hc,n,hd⟩,_⟩:=I.tuple (SqT.of (K:=X.K) h1);obtain ⟨its2,rv2,⟨o2,ho2,hc2,n2,hd2⟩,_⟩:=I.tuple (SqT.of (K:=X.K) h2)
 cases rv with
 | cons r1 rr =>
  cases rr with
  | cons r2 rr =>
   cases rr;obtain ⟨t,rfl⟩:=r1;cases r2;exact ⟨o,_,n,t,b,ho,hc,hd,rfl,o2,_,n2,ho2,hc2,hd2,by simpa using zeG rv2⟩
theorem zmL.keys{xs:List (NK×Addr×Value)}{m:List (NK×V)}(I:Inv X pins σ H s):zmL H xs m->∀x∈xs,zd3 X.prog X.w s.heap x.1 x.2.1:=by
 intro h
 induction h with
 | nil=>intro x hx;simp at hx
 | cons h t ih =>
  intro x hx
  rcases List.mem_cons.mp hx with rfl | hx
  ·exact I.nest h.2.1
  ·exact ih x hx
theorem Inv.ndict(I:Inv X pins σ H s){a:Addr}{xs:List (NK×Addr×Value)}{m:List (NK×V)}(h:H a=some (.ext (DN X.prog X.w a xs)))(e:zmL H xs m):s.heap.DictOfH (zdR X.prog X.w) a xs/\(a == sysModules)=false:=by
 obtain ⟨⟨o,es,ep,h1,h2,h3,h4,h5,h6⟩,_⟩:=I.hok a _ h;exact ⟨⟨o,es,ep,h1,h2,h3,h4,e.keys I,h5⟩,h6⟩
theorem zek{xs:List (NK×Addr×Value)}{m:List (NK×V)}(e:zmL H xs m)(k:NK):(m.lookup k=none/\atKey xs k=none)\/∃c p,m.lookup k=some c/\atKey xs k=some p/\zbp c p.2:=by
 induction e with
 | nil=>exact .inl ⟨rfl,rfl⟩
 | @cons x p l1 l2 h t ih =>
  obtain ⟨h1,h2,h3⟩:=h
  by_cases hk:x.1=k
  ·refine .inr ⟨p.2,x.2,?_,?_,h3⟩
   ·obtain ⟨pk,pc⟩:=p;simp only at h1;subst h1;rw [List.lookup_cons,hk];simp
   ·simp [atKey,hk]
  ·have hk':¬ p.1=k:=by rw [<-h1];exact hk
   have e1:List.lookup k (p::l2)=List.lookup k l2:=by
    obtain ⟨pk,pc⟩:=p;rw [List.lookup_cons]
    have:(k == pk)=false:=by
     rw [beq_eq_false_iff_ne];exact fun z=>hk' z.symm
    rw [this]
   have e2:atKey (x::l1) k=atKey l1 k:=by simp [atKey,List.find?_cons,hk]
   rw [e1,e2];exact ih
theorem zmY(hu:X.A.units+16<cLine):OpR X (compareOp .NotIn) (fun x y H Q=>∃kb a k xs m,x=.ref kb/\y=.ref a/\zhM H kb k/\H a=some (.ext (DN X.prog X.w a xs))/\zmL H xs m/\Q (.bl (m.lookup k).isNone) H):=by
 intro pins s σ H x y v u Q I rx ry h;obtain ⟨kb,a,k,xs,m,rfl,rfl,hk,hx,he,q⟩:=h;cases rx;cases ry;obtain ⟨hm,hd⟩:=I.ndict hx he;refine wpAny_notIn_heap (knd:=zdR X.prog X.w) (k:=k) (by show X.A.units+1+8<cLine;omega) (I.nest hk) hd hm ⟨.bl _,H,I.tok _,?_,q⟩
 rcases zek he k with ⟨e1,e2⟩ | ⟨c,p,e1,e2,_⟩<;>rw [e1,e2]<;>rfl
theorem zra(hu:X.A.units+16<cLine):IxR X (fun x y H Q=>∃a kb k xs m c,x=.ref a/\y=.ref kb/\zhM H kb k/\H a=some (.ext (DN X.prog X.w a xs))/\zmL H xs m/\m.lookup k=some c/\Q c H):=by
 intro value slice pins s σ H x y v u Q I rx ry h hs;obtain ⟨a,kb,k,xs,m,c,rfl,rfl,hk,hx,he,hl,q⟩:=h;cases rx;cases ry;obtain ⟨hm,hd⟩:=I.ndict hx he
 rcases zek he k with ⟨e1,_⟩ | ⟨c',p,e1,e2,r⟩
 ·rw [e1] at hl;cases hl
 ·rw [e1] at hl;cases hl;exact subscriptTail_builtinR (x:=p.2) hm.typeIs slot_dict_getitem.lookup (wpAny_getItem_heap (knd:=zdR X.prog X.w) (k:=k) (by show X.A.units+1+8<cLine;omega) (I.nest hk) hm e2 ⟨rfl,c,H,I.tok _,r,q⟩) hs
theorem znL(hu:X.A.units+16<cLine):zvQ X (fun o i v H Q=>∃a kb k xs m,o=.ref a/\i=.ref kb/\zhM H kb k/\H a=some (.ext (DN X.prog X.w a xs))/\zmL H xs m/\m.lookup k=none/\m.length<=1000000/\∀u,zbp v u->Q (upd H a (.ext (DN X.prog X.w a (xs++[(k,kb,u)]))))):=by
 intro pins s σ H o i v ov iv u Q I ro ri rv h;obtain ⟨a,kb,k,xs,m,rfl,rfl,hk,hx,he,hl,hz,q⟩:=h;cases ro;cases ri;obtain ⟨hm,hd⟩:=I.ndict hx he;have hlen:xs.length=m.length:=Paired.length he
 have e2:atKey xs k=none:=by
  rcases zek he k with ⟨_,e2⟩ | ⟨c',p,e1,_,_⟩
  ·exact e2
  ·rw [e1] at hl;cases hl
 refine wpAny_setItem_heap (knd:=zdR X.prog X.w) (k:=k) (by show X.A.units+1+8<cLine;omega) (I.nest hk) hm (fun h' hm' sb=>?_) (by rw [hlen];exact Nat.le_trans hz (by decide));rw [storedH_new e2] at hm';obtain ⟨o,es,ep,g1,g2,g3,g4,g5,g6⟩:=hm';have dn:DN X.prog X.w a (xs++[(k,kb,u)]) h':=⟨o,es,ep,g1,g2,g3,g4,g6,hd⟩;refine ⟨upd H a (.ext (DN X.prog X.w a (xs++[(k,kb,u)]))),?_,q u rv⟩;exact I.write (x:=a) (e:=a) (by rw [hx];trivial) (.inl rfl) (fun b o hb z=>(sb.2 b hb).trans z) ⟨_,g1⟩ ⟨dn,⟨_,g1⟩,ziw⟩
def zsz(P:Program)(w:World):TE:=fun _ H Q=>∀p,H p=none->Q (.ref p) (upd H p (.ext (DN P w p [])))
theorem zn9{pos:Pos}:PE X (.Dict [] [] pos) (zsz X.prog X.w):=fun pins s σ H Q I h=>by
 have big:sysModules<s.heap.objs.size:=Nat.lt_trans (show sysModules<mainGlobals by decide) (I.mod.glob.keeps I.bk).lt;have hne:(s.heap.objs.size == sysModules)=false:=beq_eq_false_iff_ne.mpr (Ne.symm (Nat.ne_of_lt big));have dn:DN X.prog X.w s.heap.objs.size [] (s.heap.push { cls:=.type "dict",data:=.dict #[] }):=⟨_,#[],0,Heap.get?_push_size _ rfl,⟨rfl,rfl,rfl⟩,rfl,rfl,List.nodup_nil,hne⟩;refine wpAny_Dict_empty ⟨.ref s.heap.objs.size,upd H s.heap.objs.size (.ext (DN X.prog X.w s.heap.objs.size [])),?_,rfl,h _ (I.hok.fresh (Nat.le_refl _))⟩;exact I.laid (a:=s.heap.objs.size) (t':=s.toks) (fun _ _ q=>Heap.get?_push_of_some _ q) (Nat.le_refl _) ⟨dn,⟨_,Heap.get?_push_size _ rfl⟩,ziw⟩
end
end L2
namespace S2
open PySem PySem.Spec PyProof.Rows L2
abbrev St:=L2.St
inductive D where
 | non | bl (b:Bool) | int (i:Int) | str (x:Str) | tup (l:List D) | lst (l:List D) | dic (l:List (D×D)) | ref (n:Nat) | exc (c:Str) | scr (l:List Int)
inductive Root where
 | slot (i:Nat) | fld (n:Nat) (f:Str) | obj (n:Nat) | far
 deriving DecidableEq
abbrev Ow:=Addr->Option Root
structure Cf where
 ad:Str->Addr
 K:PySem.W.Frag
 P:Program
 wo:PySem.World
instance:CoeFun Cf (fun _=>Str->Addr):=⟨Cf.ad⟩
structure Wd where
 H:Hp
 ow:Ow
 mu:List Addr
mutual
inductive Shd(cl:Cf)(w:Wd):V->D->Prop
 | non:Shd cl w .non .non
 | bl (b:Bool):Shd cl w (.bl b) (.bl b)
 | int (i:Int):Shd cl w (.int i) (.int i)
 | str (x:Str):Shd cl w (.str x) (.str x)
 | tup {a:Addr} {xs:List V} {ds:List D}:w.H a=some (.tup xs)->w.ow a=none->Shds cl w xs ds->Shd cl w (.ref a) (.tup ds)
 | lst {a:Addr} {xs:List V} {ds:List D}:w.H a=some (.lst xs)->w.ow a=none->Shds cl w xs ds->Shd cl w (.ref a) (.lst ds)
 | dicK {a:Addr} {kvs:List (Key×V)} {ds:List (D×D)}:w.H a=some (.dK kvs)->w.ow a=none->ShdK cl w kvs ds->Shd cl w (.ref a) (.dic ds)
 | ref {n:Nat} {a:Addr}:w.mu[n]?=some a->Shd cl w (.ref a) (.ref n)
 | scr {a:Addr} {o:Obj} {l:List Int}:w.H a=some (.frz o (.lst (l.map V.int)))->w.ow a=none->Shd cl w (.ref a) (.scr l)
 | scrK {a:Addr} {l:List Int}:(∀H:Hp,SqL cl.K H a (l.map V.int))->Shd cl w (.ref a) (.scr l)
 | exc {a:Addr} {c:Str} {ob:Obj}:w.H a=some (.frz ob (.own a))->w.ow a=none->ob.cls=.ref (cl c)->Shd cl w (.ref a) (.exc c)
inductive Shds(cl:Cf)(w:Wd):List V->List D->Prop
 | nil:Shds cl w [] []
 | cons {v:V} {d:D} {vs:List V} {ds:List D}:Shd cl w v d->Shds cl w vs ds->Shds cl w (v::vs) (d::ds)
inductive ShdK(cl:Cf)(w:Wd):List (Key×V)->List (D×D)->Prop
 | nil:ShdK cl w [] []
 | consI {i:Int} {v:V} {d:D} {vs:List (Key×V)} {ds:List (D×D)}:Shd cl w v d->ShdK cl w vs ds->ShdK cl w ((.inl i,v)::vs) ((.int i,d)::ds)
 | consS {x:Str} {v:V} {d:D} {vs:List (Key×V)} {ds:List (D×D)}:Shd cl w v d->ShdK cl w vs ds->ShdK cl w ((.inr x,v)::vs) ((.str x,d)::ds)
end
structure Fut(w w':Wd):Prop where
 keep:∀a o,w.H a=some o->w.ow a=none->w'.H a=some o/\w'.ow a=none
 mu:∀(n:Nat) (a:Addr),w.mu[n]?=some a->w'.mu[n]?=some a
theorem Fut.refl(w:Wd):Fut w w:=⟨fun _ _ h k=>⟨h,k⟩,fun _ _ h=>h⟩
theorem Fut.trans{w w1 w2:Wd}(a:Fut w w1)(b:Fut w1 w2):Fut w w2:=⟨fun c o h k=>b.keep c o (a.keep c o h k).1 (a.keep c o h k).2,fun n c h=>b.mu n c (a.mu n c h)⟩
mutual
theorem Shd.up{cl:Cf}{w w':Wd}(f:Fut w w'):∀{v:V} {d:D},Shd cl w v d->Shd cl w' v d
 | _,_,.non=>.non
 | _,_,.bl b=>.bl b
 | _,_,.int i=>.int i
 | _,_,.str x=>.str x
 | _,_,.tup e k r=>.tup (f.keep _ _ e k).1 (f.keep _ _ e k).2 (Shds.up f r)
 | _,_,.lst e k r=>.lst (f.keep _ _ e k).1 (f.keep _ _ e k).2 (Shds.up f r)
 | _,_,.dicK e k r=>.dicK (f.keep _ _ e k).1 (f.keep _ _ e k).2 (ShdK.up f r)
 | _,_,.ref e=>.ref (f.mu _ _ e)
 | _,_,.scr e k=>.scr (f.keep _ _ e k).1 (f.keep _ _ e k).2
 | _,_,.scrK h=>.scrK h
 | _,_,.exc e k h=>.exc (f.keep _ _ e k).1 (f.keep _ _ e k).2 h
theorem Shds.up{cl:Cf}{w w':Wd}(f:Fut w w'):∀{vs:List V} {ds:List D},Shds cl w vs ds->Shds cl w' vs ds
 | _,_,.nil=>.nil
 | _,_,.cons r t=>.cons (Shd.up f r) (Shds.up f t)
theorem ShdK.up{cl:Cf}{w w':Wd}(f:Fut w w'):∀{vs:List (Key×V)} {ds:List (D×D)},ShdK cl w vs ds->ShdK cl w' vs ds
 | _,_,.nil=>.nil
 | _,_,.consI r t=>.consI (Shd.up f r) (ShdK.up f t)
 | _,_,.consS r t=>.consS (Shd.up f r) (ShdK.up f t)
end
section
variable{cl:Cf}{w:Wd}
theorem Shds.length:∀{vs:List V} {ds:List D},Shds cl w vs ds->vs.length=ds.length
 | _,_,.nil=>rfl
 | _,_,.cons _ t=>by rw [List.length_cons,List.length_cons,Shds.length t]
theorem Shds.get:∀{vs:List V} {ds:List D},Shds cl w vs ds->∀{i:Nat} {v:V},vs[i]?=some v->∃d,ds[i]?=some d/\Shd cl w v d
 | _,_,.nil,i,v,e=>by simp at e
 | _,_,.cons r _,0,v,e=>by simp at e;subst e;exact ⟨_,rfl,r⟩
 | _,_,.cons _ t,i+1,v,e=>by
  obtain ⟨d,h1,h2⟩:=Shds.get t (i:=i) (v:=v) (by simpa using e);exact ⟨d,by simpa using h1,h2⟩
theorem Shds.at:∀{vs:List V} {ds:List D},Shds cl w vs ds->∀{i:Nat} {d:D},ds[i]?=some d->∃v,vs[i]?=some v/\Shd cl w v d
 | _,_,.nil,i,v,e=>by simp at e
 | _,_,.cons r _,0,v,e=>by simp at e;subst e;exact ⟨_,rfl,r⟩
 | _,_,.cons _ t,i+1,v,e=>by
  obtain ⟨d,h1,h2⟩:=Shds.at t (i:=i) (d:=v) (by simpa using e);exact ⟨d,by simpa using h1,h2⟩
theorem Shds.append:∀{vs ws:List V} {ds es:List D},Shds cl w vs ds->Shds cl w ws es->Shds cl w (vs++ws) (ds++es)
 | _,_,_,_,.nil,s=>s
 | _,_,_,_,.cons r t,s=>.cons r (Shds.append t s)
theorem Shds.take:∀{vs:List V} {ds:List D} (n:Nat),Shds cl w vs ds->Shds cl w (vs.take n) (ds.take n)
 | _,_,0,_=>.nil
 | _,_,_+1,.nil=>.nil
 | _,_,n+1,.cons r t=>.cons r (Shds.take n t)
theorem Shds.drop:∀{vs:List V} {ds:List D} (n:Nat),Shds cl w vs ds->Shds cl w (vs.drop n) (ds.drop n)
 | _,_,0,s=>s
 | _,_,_+1,.nil=>.nil
 | _,_,n+1,.cons _ t=>Shds.drop n t
theorem Shds.flat{vs:List V}{ds:List D}(h:Shds cl w vs ds):∀n:Nat,Shds cl w (List.replicate n vs).flatten (List.replicate n ds).flatten
 | 0=>.nil
 | n+1=>by
  rw [List.replicate_succ,List.replicate_succ,List.flatten_cons,List.flatten_cons];exact Shds.append h (Shds.flat h n)
end
inductive Top(cl:Cf)(w:Wd):HO->D->Prop
 | lst {xs:List V} {ds:List D}:Shds cl w xs ds->Top cl w (.lst xs) (.lst ds)
 | dicK {kvs:List (Key×V)} {ds:List (D×D)}:ShdK cl w kvs ds->Top cl w (.dK kvs) (.dic ds)
theorem Top.up{cl:Cf}{w w':Wd}(f:Fut w w'){o:HO}{d:D}:Top cl w o d->Top cl w' o d
 | .lst h=>.lst (h.up f)
 | .dicK h=>.dicK (h.up f)
def ziG(cl:Cf)(w:Wd)(r:Root):Bool->V->D->Prop
 | false,v,d=>Shd cl w v d
 | true,v,d=>∃a o,v=.ref a/\w.ow a=some r/\w.H a=some o/\Top cl w o d
theorem ziG.keep{cl:Cf}{w w':Wd}(f:Fut w w'){r:Root}(k:∀a o,w.H a=some o->w.ow a=some r->w'.H a=some o/\w'.ow a=some r):∀{b:Bool} {v:V} {d:D},ziG cl w r b v d->ziG cl w' r b v d
 | false,_,_,h=>Shd.up f h
 | true,_,_,⟨a,o,e,h1,h2,t⟩=>⟨a,o,e,(k a o h2 h1).2,(k a o h2 h1).1,t.up f⟩
def oDn:Option Int->D | none=>.non | some i=>.int i
def nkD(k:NK):D:=.tup [.int k.1,.tup (k.2.map oDn)]
inductive ShdN(cl:Cf)(w:Wd):List (NK×V)->List (D×D)->Prop
 | nil:ShdN cl w [] []
 | cons {k:NK} {v:V} {d:D} {m:List (NK×V)} {ds:List (D×D)}:Shd cl w v d->ShdN cl w m ds->ShdN cl w ((k,v)::m) ((nkD k,d)::ds)
theorem ShdN.up{cl:Cf}{w w':Wd}(f:Fut w w'):∀{m:List (NK×V)} {ds:List (D×D)},ShdN cl w m ds->ShdN cl w' m ds
 | _,_,.nil=>.nil
 | _,_,.cons r t=>.cons (r.up f) (ShdN.up f t)
def zlo(w:Wd)(kb:Addr)(k:NK):Prop:=∃b,(w.H kb=some (.tup [.int k.1,.ref b])/\w.ow kb=none)/\w.H b=some (.tup (k.2.map oV))/\w.ow b=none
theorem zlo.up{w w':Wd}(f:Fut w w'){kb:Addr}{k:NK}(h:zlo w kb k):zlo w' kb k:=by
 obtain ⟨b,h1,h2⟩:=h;exact ⟨b,f.keep _ _ h1.1 h1.2,f.keep _ _ h2.1 h2.2⟩
theorem zlo.at{w:Wd}{kb:Addr}{k:NK}(h:zlo w kb k):zhM w.H kb k:=by
 obtain ⟨b,h1,h2⟩:=h;exact ⟨b,h1.1,h2.1⟩
def ziH(w:Wd):List (NK×Addr×Value)->List (NK×V)->Prop:=Paired fun (x:NK×Addr×Value) (p:NK×V)=>x.1=p.1/\zlo w x.2.1 x.1/\zbp p.2 x.2.2
theorem ziH.up{w w':Wd}(f:Fut w w'):∀{xs:List (NK×Addr×Value)} {m:List (NK×V)},ziH w xs m->ziH w' xs m
 | _,_,.nil=>.nil
 | _,_,.cons h t=>.cons ⟨h.1,h.2.1.up f,h.2.2⟩ (ziH.up f t)
theorem ziH.ents{w:Wd}:∀{xs:List (NK×Addr×Value)} {m:List (NK×V)},ziH w xs m->zmL w.H xs m
 | _,_,.nil=>.nil
 | _,_,.cons h t=>.cons ⟨h.1,h.2.1.at,h.2.2⟩ (ziH.ents t)
theorem ziH.snoc{w:Wd}{x:NK×Addr×Value}{p:NK×V}(h:x.1=p.1/\zlo w x.2.1 x.1/\zbp p.2 x.2.2):∀{xs:List (NK×Addr×Value)} {m:List (NK×V)},ziH w xs m->ziH w (xs++[x]) (m++[p])
 | _,_,.nil=>.cons h .nil
 | _,_,.cons h' t=>.cons h' (ziH.snoc h t)
theorem ShdN.snoc{cl:Cf}{w:Wd}{k:NK}{v:V}{d:D}(h:Shd cl w v d):∀{m:List (NK×V)} {ds:List (D×D)},ShdN cl w m ds->ShdN cl w (m++[(k,v)]) (ds++[(nkD k,d)])
 | _,_,.nil=>.cons h .nil
 | _,_,.cons r t=>.cons r (ShdN.snoc h t)
def zxs(cl:Cf)(w:Wd)(r:Root)(v:V)(d:D):Prop:=∃a xs m ds,v=.ref a/\w.ow a=some r/\w.H a=some (.ext (DN cl.P cl.wo a xs))/\ziH w xs m/\ShdN cl w m ds/\d=.dic ds
def zhN(cl:Cf)(w:Wd)(r:Root)(own:Bool)(v:V)(d:D):Prop:=(own=false/\Shd cl w v d)\/(own=true/\zxs cl w r v d)
theorem zhN.keep{cl:Cf}{w w':Wd}(f:Fut w w'){r:Root}(k:∀a o,w.H a=some o->w.ow a=some r->w'.H a=some o/\w'.ow a=some r){b:Bool}{v:V}{d:D}(h:zhN cl w r b v d):zhN cl w' r b v d:=by
 rcases h with ⟨e,h⟩ | ⟨e,a,xs,m,ds,e1,e2,e3,e4,e5,e6⟩
 ·exact .inl ⟨e,h.up f⟩
 ·exact .inr ⟨e,a,xs,m,ds,e1,(k a _ e3 e2).2,(k a _ e3 e2).1,e4.up f,e5.up f,e6⟩
structure Ob where
 cls:Str
 fs:List (Str×Bool×D)
abbrev Sto:=List Ob
def zdn(cl:Cf)(w:Wd)(n:Nat):List (Str×V)->List (Str×Bool×D)->Prop:=Paired fun p q=>p.1=q.1/\zhN cl w (.fld n q.1) q.2.1 p.2 q.2.2
def zrN(cl:Cf)(w:Wd)(n:Nat)(a:Addr)(ob:Ob):Prop:=w.ow a=some (.obj n)/\∃dx fs,w.H a=some (.ins (cl ob.cls) dx fs)/\zdn cl w n fs ob.fs
def zqG(n:Nat):Option Root->Prop | some (.obj m)=>m=n | some (.fld m _)=>m=n | _=>False
theorem zdn.keep{cl:Cf}{w w':Wd}(f:Fut w w'){n:Nat}(k:∀a o,w.H a=some o->zqG n (w.ow a)->w'.H a=some o/\w'.ow a=w.ow a):∀{fs:List (Str×V)} {gs:List (Str×Bool×D)},zdn cl w n fs gs->zdn cl w' n fs gs
 | _,_,.nil=>.nil
 | _,_,.cons ⟨e,h⟩ t=>.cons ⟨e,h.keep f fun a o ha hr=>by
   have:=k a o ha (by rw [hr];rfl)
   exact ⟨this.1,this.2.trans hr⟩⟩ (zdn.keep f k t)
theorem zrN.keep{cl:Cf}{w w':Wd}(f:Fut w w'){n:Nat}{a:Addr}{ob:Ob}(k:∀a o,w.H a=some o->zqG n (w.ow a)->w'.H a=some o/\w'.ow a=w.ow a)(h:zrN cl w n a ob):zrN cl w' n a ob:=by
 obtain ⟨h1,dx,fs,h2,h3⟩:=h;have:=k a _ h2 (by rw [h1];rfl);exact ⟨this.2.trans h1,dx,fs,this.1,h3.keep f k⟩
structure Base where
 Fr:Hp
 fw:Ow
structure World'(cl:Cf)(B:Base)(w:Wd)(S:Sto):Prop where
 fr:∀a o,B.Fr a=some o->w.H a=some o/\w.ow a=B.fw a
 own:∀a r,w.ow a=some r->r=.far\/B.Fr a=none
 len:w.mu.length=S.length
 obj:∀(n:Nat) (ob:Ob),S[n]?=some ob->∃a,w.mu[n]?=some a/\zrN cl w n a ob
abbrev Env:=List (Option (Bool×D))
structure Rel(cl:Cf)(B:Base)(σ:St)(w:Wd)(ρ:Env)(S:Sto):Prop where
 wd:World' cl B w S
 len:σ.length=ρ.length
 slots:∀(i:Nat) (o:Bool) (d:D),ρ[i]?=some (some (o,d))->∃v,σ[i]?=some (some v)/\ziG cl w (.slot i) o v d
structure Grow(w w':Wd):Prop where
 keep:∀a o,w.H a=some o->w'.H a=some o/\w'.ow a=w.ow a
 new:∀a r,w'.ow a=some r->w.H a=none->w.ow a=some r\/r=.far
 mu:w'.mu=w.mu
theorem Grow.refl(w:Wd):Grow w w:=⟨fun _ _ h=>⟨h,rfl⟩,fun _ _ h _=>.inl h,rfl⟩
theorem Grow.fut{w w':Wd}(g:Grow w w'):Fut w w':=⟨fun a o h k=>⟨(g.keep a o h).1,(g.keep a o h).2.trans k⟩,fun n a h=>by rw [g.mu];exact h⟩
theorem World'.grow{cl:Cf}{B:Base}{w w':Wd}{S:Sto}(W:World' cl B w S)(g:Grow w w'):World' cl B w' S where
 fr:=fun a o h=>by
  obtain ⟨h1,h2⟩:=W.fr a o h;exact ⟨(g.keep a o h1).1,(g.keep a o h1).2.trans h2⟩
 own:=fun a r h=>by
  cases e:w.H a with
  | none=>exact (g.new a r h e).elim (W.own a r) .inl
  | some o=>exact W.own a r (by rw [<-(g.keep a o e).2];exact h)
 len:=by rw [g.mu];exact W.len
 obj:=fun n ob h=>by
  obtain ⟨a,e,x⟩:=W.obj n ob h;exact ⟨a,by rw [g.mu];exact e,x.keep g.fut fun a o ha _=>g.keep a o ha⟩
theorem Rel.grow{cl:Cf}{B:Base}{σ:St}{w w':Wd}{ρ:Env}{S:Sto}(R:Rel cl B σ w ρ S)(g:Grow w w'):Rel cl B σ w' ρ S where
 wd:=R.wd.grow g
 len:=R.len
 slots:=fun i o d h=>by
  obtain ⟨v,e,x⟩:=R.slots i o d h;exact ⟨v,e,x.keep g.fut fun a o ha hr=>⟨(g.keep a o ha).1,(g.keep a o ha).2.trans hr⟩⟩
def Wd.add(w:Wd)(p:Addr)(o:HO):Wd:=⟨upd w.H p o,fun a=>if a=p then none else w.ow a,w.mu⟩
theorem zaI{w:Wd}{p:Addr}(h:w.H p=none)(o:HO):Grow w (w.add p o) where
 keep:=fun a u ha=>by
  have n:a≠p:=zau ha h;refine ⟨?_,?_⟩
  ·show upd w.H p o a=_;rw [zar n];exact ha
  ·show (if a=p then none else w.ow a)=_;rw [if_neg n]
 new:=fun a r h1 h2=>by
  have h1':(if a=p then none else w.ow a)=some r:=h1;split at h1'
  ·cases h1'
  ·exact .inl h1'
 mu:=rfl
theorem ziF{w:Wd}{p:Addr}{o:HO}:(w.add p o).ow p=none:=if_pos rfl
theorem zmK{w:Wd}{p:Addr}{o:HO}:(w.add p o).H p=some o:=zaO
theorem Shd.newT{cl:Cf}{w:Wd}{p:Addr}{xs:List V}{ds:List D}(h:w.H p=none)(r:Shds cl w xs ds):Shd cl (w.add p (.tup xs)) (.ref p) (.tup ds):=.tup zmK ziF (r.up (zaI h _).fut)
theorem Shd.newL{cl:Cf}{w:Wd}{p:Addr}{xs:List V}{ds:List D}(h:w.H p=none)(r:Shds cl w xs ds):Shd cl (w.add p (.lst xs)) (.ref p) (.lst ds):=.lst zmK ziF (r.up (zaI h _).fut)
theorem Shd.newO{cl:Cf}{w:Wd}{p:Addr}{o:HO}{d:D}(h:w.H p=none)(r:Top cl w o d):Shd cl (w.add p o) (.ref p) d:=by
 have g:=(zaI h o).fut
 cases r with
 | lst r=>exact .lst zmK ziF (r.up g)
 | dicK r=>exact .dicK zmK ziF (r.up g)
inductive Out(α:Type) where
 | ok (a:α) (S:Sto) | exc (c:Str) (S:Sto) | bad
abbrev Fe:=Env->Sto->Out D
inductive Fo where
 | nx (ρ:Env) (S:Sto) | rt (d:D) (S:Sto) | bk (ρ:Env) (S:Sto) | ct (ρ:Env) (S:Sto) | ex (c:Str) (ρ:Env) (S:Sto) | bad
abbrev Fs:=Env->Sto->Fo
def tE(cl:Cf)(E:St->XK)(f:Fe):TE:=fun σ H Q=>∃B w ρ S,w.H=H/\Rel cl B σ w ρ S/\match f ρ S with
 | .ok d S'=>∀v w',Rel cl B σ w' ρ S'->Fut w w'->Shd cl w' v d->Q v w'.H
 | .exc c S'=>∀w',Rel cl B σ w' ρ S'->Fut w w'->E σ (.ref (cl c)) none w'.H
 | .bad=>False
def tN(cl:Cf)(E:St->XK)(f:Fe):TE:=fun σ H Q=>∃B w ρ S,w.H=H/\Rel cl B σ w ρ S/\match f ρ S with
 | .ok d S'=>∀p o w',Rel cl B σ w' ρ S'->Fut w w'->w'.H p=none->Top cl w' o d->Q (.ref p) (upd w'.H p o)
 | .exc c S'=>∀w',Rel cl B σ w' ρ S'->Fut w w'->E σ (.ref (cl c)) none w'.H
 | .bad=>False
def Hd(cl:Cf)(σ:St)(ρ:Env)(w:Wd)(v:V)(d:D):Prop:=Shd cl w v d\/∃i:Nat,ρ[i]?=some (some (true,d))/\σ[i]?=some (some v)
def tH(cl:Cf)(E:St->XK)(f:Fe):TE:=fun σ H Q=>∃B w ρ S,w.H=H/\Rel cl B σ w ρ S/\match f ρ S with
 | .ok d S'=>∀v w',Rel cl B σ w' ρ S'->Fut w w'->Hd cl σ ρ w' v d->Q v w'.H
 | .exc c S'=>∀w',Rel cl B σ w' ρ S'->Fut w w'->E σ (.ref (cl c)) none w'.H
 | .bad=>False
inductive TopV(cl:Cf)(w:Wd):V->D->Prop
 | sh {v:V} {d:D}:Shd cl w v d->TopV cl w v d
 | ow {a:Addr} {o:HO} {d:D}:w.H a=some o->Top cl w o d->TopV cl w (.ref a) d
theorem Hd.top{cl:Cf}{B:Base}{σ:St}{ρ:Env}{w:Wd}{S:Sto}{v:V}{d:D}(h:Hd cl σ ρ w v d)(R:Rel cl B σ w ρ S):TopV cl w v d:=by
 rcases h with h | ⟨i,h1,h2⟩
 ·exact .sh h
 ·obtain ⟨v',e,a,o,rfl,_,h3,t⟩:=R.slots i true d h1;rw [h2] at e;cases e;exact .ow h3 t
theorem Hd.up{cl:Cf}{σ:St}{ρ:Env}{w w':Wd}{v:V}{d:D}(f:Fut w w')(h:Hd cl σ ρ w v d):Hd cl σ ρ w' v d:=by
 rcases h with h | h
 ·exact .inl (h.up f)
 ·exact .inr h
theorem PE.imp{X:Cx}{e:Expr}{t t':TE}(h:PE X e t)(i:∀σ H Q,t' σ H Q->t σ H Q):PE X e t':=fun pins s σ H Q I q=>h pins s σ H Q I (i _ _ _ q)
theorem zsw{cl:Cf}{E:St->XK}{f:Fe}{σ:St}{H:Hp}{Q:VK}(h:tE cl E f σ H Q):tN cl E f σ H Q:=by
 obtain ⟨B,w,ρ,S,e,R,h⟩:=h;refine ⟨B,w,ρ,S,e,R,?_⟩
 cases hf:f ρ S with
 | ok d S' =>
  rw [hf] at h;intro p o w' R' F' hp t;exact h (.ref p) (w'.add p o) (R'.grow (zaI hp o)) (F'.trans (zaI hp o).fut) (Shd.newO hp t)
 | exc c S'=>rw [hf] at h;exact h
 | bad=>rw [hf] at h;exact h
theorem zsv{cl:Cf}{E:St->XK}{f:Fe}{σ:St}{H:Hp}{Q:VK}(h:tH cl E f σ H Q):tE cl E f σ H Q:=by
 obtain ⟨B,w,ρ,S,e,R,h⟩:=h;refine ⟨B,w,ρ,S,e,R,?_⟩
 cases hf:f ρ S with
 | ok d S' =>
  rw [hf] at h;intro v w' R' F' t;exact h v w' R' F' (.inl t)
 | exc c S'=>rw [hf] at h;exact h
 | bad=>rw [hf] at h;exact h
end S2
namespace S2
open PySem PySem.Spec PyProof.Rows L2
def Out.bind{α β:Type}(o:Out α)(k:α->Sto->Out β):Out β:=match o with | .ok a S=>k a S | .exc c S=>.exc c S | .bad=>.bad
def Out.of{α:Type}(o:Option α)(S:Sto):Out α:=match o with | some a=>.ok a S | none=>.bad
@[simp] theorem Out.bind_ok{α β:Type}(a:α)(S:Sto)(k:α->Sto->Out β):(Out.ok a S).bind k=k a S:=rfl
@[simp] theorem Out.bind_exc{α β:Type}(c:Str)(S:Sto)(k:α->Sto->Out β):(Out.exc c S:Out α).bind k=.exc c S:=rfl
@[simp] theorem Out.bind_bad{α β:Type}(k:α->Sto->Out β):(Out.bad:Out α).bind k=.bad:=rfl
@[simp] theorem Out.of_some{α:Type}(a:α)(S:Sto):Out.of (some a) S=.ok a S:=rfl
def zad(i:Nat):Fe:=fun ρ S=>match ρ[i]? with | some (some (false,d))=>.ok d S | _=>.bad
def zao(i:Nat):Fe:=fun ρ S=>match ρ[i]? with | some (some (_,d))=>.ok d S | _=>.bad
def zaj(d:D):Fe:=fun _ S=>.ok d S
def eUn(g:D->Option D)(f:Fe):Fe:=fun ρ S=>(f ρ S).bind fun a S1=>Out.of (g a) S1
def zai(g:D->D->Option D)(f h:Fe):Fe:=fun ρ S=>(f ρ S).bind fun a S1=>(h ρ S1).bind fun b S2=>Out.of (g a b) S2
def isB:D->Option Bool | .bl b=>some b | _=>none
def eIf(c f h:Fe):Fe:=fun ρ S=>(c ρ S).bind fun d S1=>match isB d with | some true=>f ρ S1 | some false=>h ρ S1 | none=>.bad
def zhD(f h:Fe):Fe:=fun ρ S=>(f ρ S).bind fun d S1=>match isB d with | some true=>h ρ S1 | some false=>.ok (.bl false) S1 | none=>.bad
def eOr(f h:Fe):Fe:=fun ρ S=>(f ρ S).bind fun d S1=>match isB d with | some true=>.ok (.bl true) S1 | some false=>h ρ S1 | none=>.bad
def zfl:D->Option D | .bl b=>some (.bl (!b)) | _=>none
def zan:List Fe->Env->Sto->Out (List D)
 | [],_,S=>.ok [] S
 | f::fs,ρ,S=>(f ρ S).bind fun d S1=>(zan fs ρ S1).bind fun ds S2=>.ok (d::ds) S2
def zbr(n:Nat):Bool:=decide (n<=100000)
def zdy(fs:List Fe):Fe:=fun ρ S=>(zan fs ρ S).bind fun ds S1=>if zbr ds.length then .ok (.tup ds) S1 else .bad
def zg1(fs:List Fe):Fe:=fun ρ S=>(zan fs ρ S).bind fun ds S1=>if zbr ds.length then .ok (.lst ds) S1 else .bad
def zaJ(g:List D->Option D)(fs:List Fe):Fe:=fun ρ S=>(zan fs ρ S).bind fun ds S1=>Out.of (g ds) S1
theorem zbj{n:Nat}(h:zbr n=true):n<=sizeLine:=Nat.le_trans (of_decide_eq_true h) (by decide)
def zc1:Expr->Bool | .Starred _ _=>false | _=>true
theorem zcr{e:Expr}{es:List Expr}{env:PySem.Env}(h:zc1 e=true):starEach (e::es) env=(false,eval e env)::starEach es env:=by
 cases e<;>first | rfl | cases h
theorem zbx{pos:Pos}{env:PySem.Env}:∀{es:List Expr},es.all zc1=true->(backTo pos (starEach es env)).any (·.1)=false
 | [],_=>rfl
 | e::es,h=>by
  rw [List.all_cons,Bool.and_eq_true] at h;rw [zcr h.1];show (false||(backTo pos (starEach es env)).any (·.1))=false;rw [zbx h.2];rfl
theorem zgJ{pos:Pos}{env:PySem.Env}:∀{es:List Expr},es.all zc1=true->(backTo pos (starEach es env)).all (fun x=>!x.1)=true
 | [],_=>rfl
 | e::es,h=>by
  rw [List.all_cons,Bool.and_eq_true] at h;rw [zcr h.1];show (true&&(backTo pos (starEach es env)).all (fun x=>!x.1))=true;rw [zgJ h.2];rfl
theorem zrm{pos:Pos}{env:PySem.Env}{es:List Expr}(h:es.all zc1=true)(hl:es.length<30):((backTo pos (starEach es env)).all (fun x=>!x.1)&&(backToKw pos (keywordEach [] env)).all (fun x=>x.1.isSome)
   && decide (es.length+([]:List Keyword).length+(if ([]:List Keyword).isEmpty then 0 else 1)<30))=true:=by
 rw [zgJ h];show (true&&true&&decide (es.length+0+0<30))=true;simpa using hl
def Hds(cl:Cf)(σ:St)(ρ:Env)(w:Wd):List V->List D->Prop:=Paired (Hd cl σ ρ w)
def zlh(cl:Cf)(w:Wd):List V->List D->Prop:=Paired (TopV cl w)
theorem Hds.top{cl:Cf}{B:Base}{σ:St}{ρ:Env}{w:Wd}{S:Sto}(R:Rel cl B σ w ρ S):∀{vs:List V} {ds:List D},Hds cl σ ρ w vs ds->zlh cl w vs ds
 | _,_,.nil=>.nil
 | _,_,.cons h t=>.cons (h.top R) (Hds.top R t)
def tAs(cl:Cf)(E:St->XK)(fs:List Fe):TA:=fun σ H Q=>∃B w ρ S,w.H=H/\Rel cl B σ w ρ S/\match zan fs ρ S with
 | .ok ds S'=>∀vs w',Rel cl B σ w' ρ S'->Fut w w'->Shds cl w' vs ds->Q vs w'.H
 | .exc c S'=>∀w',Rel cl B σ w' ρ S'->Fut w w'->E σ (.ref (cl c)) none w'.H
 | .bad=>False
def tHs(cl:Cf)(E:St->XK)(fs:List Fe):TA:=fun σ H Q=>∃B w ρ S,w.H=H/\Rel cl B σ w ρ S/\match zan fs ρ S with
 | .ok ds S'=>∀vs w',Rel cl B σ w' ρ S'->Fut w w'->Hds cl σ ρ w' vs ds->Q vs w'.H
 | .exc c S'=>∀w',Rel cl B σ w' ρ S'->Fut w w'->E σ (.ref (cl c)) none w'.H
 | .bad=>False
theorem PA.imp{X:Cx}{es:List Expr}{t t':TA}(h:PA X es t)(i:∀σ H Q,t' σ H Q->t σ H Q):PA X es t':=fun pos pins s σ H Q I q=>h pos pins s σ H Q I (i _ _ _ q)
theorem PT.imp{X:Cx}{e:Expr}{t t':TT}(h:PT X e t)(i:∀σ H Q,t' σ H Q->t σ H Q):PT X e t':=fun pins s σ H Q I q=>h pins s σ H Q I (i _ _ _ q)
section
variable{X:Cx}{cl:Cf}{E:St->XK}{a b c e:Expr}{f h g:Fe}{pos:Pos}
theorem zpV{i:Nat}{x:Str}(hN:X.N[i]?=some x)(hv:Vis X.env.scope x)(hd:(x == ("__debug__":Str))=false)(hcd:(x == ("__classdict__":Str))=false):PE X (.Name x pos) (tE cl E (zad i)):=by
 refine PE.imp (zeT hN hv hd hcd) ?_;rintro σ H Q ⟨B,w,ρ,S,rfl,R,q⟩;unfold zad at q;split at q
 ·rename_i o d S' hm;split at hm
  ·rename_i d' he;cases hm;obtain ⟨v,e,r⟩:=R.slots i false d he;exact ⟨v,e,q v w R (Fut.refl _) r⟩
  ·cases hm
 ·rename_i hm;split at hm<;>cases hm
 ·exact q.elim
theorem zp3{i:Nat}{x:Str}(hN:X.N[i]?=some x)(hv:Vis X.env.scope x)(hd:(x == ("__debug__":Str))=false)(hcd:(x == ("__classdict__":Str))=false):PE X (.Name x pos) (tH cl E (zao i)):=by
 refine PE.imp (zeT hN hv hd hcd) ?_;rintro σ H Q ⟨B,w,ρ,S,rfl,R,q⟩;unfold zao at q;split at q
 ·rename_i o d S' hm;split at hm
  ·rename_i b d' he;cases hm;obtain ⟨v,e,r⟩:=R.slots i b d he;refine ⟨v,e,q v w R (Fut.refl _) ?_⟩
   cases b with
   | false=>exact .inl r
   | true=>exact .inr ⟨i,he,e⟩
  ·cases hm
 ·rename_i hm;split at hm<;>cases hm
 ·exact q.elim
theorem zjF{v:V}{d:D}(h:PE X e (tC v))(hd:∀w,Shd cl w v d):PE X e (tE cl E (zaj d)):=by
 refine PE.imp h ?_;rintro σ H Q ⟨B,w,ρ,S,rfl,R,q⟩;exact q v w R (Fut.refl _) (hd w)
theorem zjG(h:PE X e (tE cl E f)):PE X e (tH cl E f):=PE.imp h fun _ _ _=>zsv
theorem zdr(h:PE X e (tN cl E f)):PE X e (tE cl E f):=PE.imp h fun _ _ _=>zsw
def OpD(X:Cx)(cl:Cf)(op:Value->Value->Sem Value)(g:D->D->Option D):Prop:=OpR X op fun x y H Q=>∃w d e r,w.H=H/\TopV cl w x d/\TopV cl w y e/\g d e=some r/\∀v w',Grow w w'->Shd cl w' v r->Q v w'.H
def UnD(X:Cx)(cl:Cf)(op:Value->Sem Value)(g:D->Option D):Prop:=UnR X op fun x H Q=>∃w d r,w.H=H/\TopV cl w x d/\g d=some r/\∀v w',Grow w w'->Shd cl w' v r->Q v w'.H
def zhd(X:Cx)(cl:Cf)(fv:Value)(g:List D->Option D):Prop:=zd4 X fv fun xs H Q=>∃w ds r,w.H=H/\zlh cl w xs ds/\g ds=some r/\∀v w',Grow w w'->Shd cl w' v r->Q v w'.H
def zrO(X:Cx)(cl:Cf)(fv:Value)(g:List D->Option D):Prop:=zd4 X fv fun xs H Q=>∃w ds r,w.H=H/\zlh cl w xs ds/\g ds=some r/\∀p o w',Grow w w'->w'.H p=none->Top cl w' o r->Q (.ref p) (upd w'.H p o)
def IxD(X:Cx)(cl:Cf)(g:D->D->Option D):Prop:=IxR X fun x y H Q=>∃w d e r,w.H=H/\TopV cl w x d/\TopV cl w y e/\g d e=some r/\∀v w',Grow w w'->Shd cl w' v r->Q v w'.H
theorem two{gg:D->D->Option D}{r2:R2}(hr:∀x y H Q,(∃w d e r,w.H=H/\TopV cl w x d/\TopV cl w y e/\gg d e=some r/\∀v w',Grow w w'->Shd cl w' v r->Q v w'.H)->r2 x y H Q)(σ:St)(H:Hp)(Q:VK)(q:tE cl E (zai gg f h) σ H Q):tOp r2 (tH cl E f) (tH cl E h) σ H Q:=by
 obtain ⟨B,w,ρ,S,rfl,R,q⟩:=q;refine ⟨B,w,ρ,S,rfl,R,?_⟩;unfold zai at q
 cases hf:f ρ S with
 | bad=>rw [hf] at q;exact q
 | exc c S1=>rw [hf] at q;exact q
 | ok d S1 =>
  rw [hf] at q;intro v w1 R1 F1 h1;refine ⟨B,w1,ρ,S1,rfl,R1,?_⟩;dsimp only [Out.bind] at q
  cases hh:h ρ S1 with
  | bad=>rw [hh] at q;exact q
  | exc c S2=>rw [hh] at q;exact fun w2 R2 F2=>q w2 R2 (F1.trans F2)
  | ok e S2 =>
   rw [hh] at q;intro y w2 R2 F2 h2;dsimp only at q
   cases hg:gg d e with
   | none=>rw [hg] at q;exact q.elim
   | some r =>
    rw [hg] at q;exact hr _ _ _ _ ⟨w2,d,e,r,rfl,(h1.up F2).top R2,h2.top R2,hg,fun v' w' gr sh=>q v' w' (R2.grow gr) (F1.trans (F2.trans gr.fut)) sh⟩
theorem zmR{op:Operator}{gg:D->D->Option D}(ho:OpD X cl (binaryOp op) gg)(ha:PE X a (tH cl E f))(hb:PE X b (tH cl E h)):PE X (.BinOp a op b pos) (tE cl E (zai gg f h)) :=
 PE.imp (zqp ho ha hb) (two fun _ _ _ _ z=>z)
theorem zsM{gg:D->D->Option D}(ho:IxD X cl gg)(ha:PE X a (tH cl E f))(hb:PE X b (tH cl E h))(hs:zgn b):PE X (.Subscript a b pos) (tE cl E (zai gg f h)) :=
 PE.imp (zqu ho ha hb hs) (two fun _ _ _ _ z=>z)
theorem zp2{op:CmpOp}{gg:D->D->Option D}(ho:OpD X cl (compareOp op) gg)(ha:PE X a (tH cl E f))(hb:PE X b (tH cl E h))(hm:behindInMarks op b=false):PE X (.Compare a [op] [b] pos) (tE cl E (zai gg f h)) :=
 PE.imp (zj7 ho ha hb hm) (two fun _ _ _ _ z=>z)
theorem zsJ{op:UnaryOp}{gg:D->Option D}(ho:UnD X cl (unaryOp op) gg)(ha:PE X a (tH cl E f)):PE X (.UnaryOp op a pos) (tE cl E (eUn gg f)):=by
 refine PE.imp (zsW ho ha) ?_;rintro σ H Q ⟨B,w,ρ,S,rfl,R,q⟩;refine ⟨B,w,ρ,S,rfl,R,?_⟩;unfold eUn at q
 cases hf:f ρ S with
 | bad=>rw [hf] at q;exact q
 | exc c S1=>rw [hf] at q;exact q
 | ok d S1 =>
  rw [hf] at q;intro v w1 R1 F1 h1;dsimp only [Out.bind] at q
  cases hg:gg d with
  | none=>rw [hg] at q;exact q.elim
  | some r =>
   rw [hg] at q;exact ⟨w1,d,r,rfl,h1.top R1,hg,fun v' w' gr sh=>q v' w' (R1.grow gr) (F1.trans gr.fut) sh⟩
def tTr(cl:Cf)(E:St->XK)(f:Fe):TT:=fun σ H Q=>∃B w ρ S,w.H=H/\Rel cl B σ w ρ S/\match f ρ S with
 | .ok d S'=>match isB d with
  | some b=>∀w',Rel cl B σ w' ρ S'->Fut w w'->Q b w'.H
  | none=>False
 | .exc c S'=>∀w',Rel cl B σ w' ρ S'->Fut w w'->E σ (.ref (cl c)) none w'.H
 | .bad=>False
theorem zdh{d:D}{b:Bool}(h:isB d=some b):d=.bl b:=by
 cases d<;>simp [isB] at h
 subst h;rfl
theorem zgA{w:Wd}{v:V}{b:Bool}(h:Shd cl w v (.bl b)):v=.bl b:=by cases h;rfl
theorem zhS{σ:St}{H:Hp}{Q:Bool->Hp->Prop}(q:tTr cl E f σ H Q):tB (tE cl E f) σ H Q:=by
 obtain ⟨B,w,ρ,S,rfl,R,q⟩:=q;refine ⟨B,w,ρ,S,rfl,R,?_⟩
 cases hf:f ρ S with
 | bad=>rw [hf] at q;exact q
 | exc c S1=>rw [hf] at q;exact q
 | ok d S1 =>
  rw [hf] at q;intro v w1 R1 F1 h1;dsimp only at q
  cases hb:isB d with
  | none=>rw [hb] at q;exact q.elim
  | some b =>
   rw [hb] at q;rw [zdh hb] at h1;exact ⟨b,zgA h1,q w1 R1 F1⟩
theorem zbR(h:PE X e (tE cl E f))(he:∀whole,isTrue e X.env whole=(do let v ← whole;standAt e.pos;holding [v] (truthy v))):PT X e (tTr cl E f) :=
 PT.imp (zqe h he) fun _ _ _ q=>zhS q
theorem zju{gg:D->D->Option D}{r2:R2}(hr:∀x y H Q,(∃w d e r,w.H=H/\TopV cl w x d/\TopV cl w y e/\gg d e=some r/\∀v w',Grow w w'->Shd cl w' v r->Q v w'.H)->r2 x y H Q){σ:St}{H:Hp}{Q:Bool->Hp->Prop}(q:tTr cl E (zai gg f h) σ H Q):znu (tOp r2 (tH cl E f) (tH cl E h)) σ H Q :=
 two hr σ H _ (zhS q)
theorem zpE{op:CmpOp}{gg:D->D->Option D}(ho:OpD X cl (compareOp op) gg)(ha:PE X a (tH cl E f))(hb:PE X b (tH cl E h))(hm:behindInMarks op b=false):PT X (.Compare a [op] [b] pos) (tTr cl E (zai gg f h)) :=
 PT.imp (zjW ho ha hb hm) fun _ _ _ q=>zju (fun _ _ _ _ z=>z) q
theorem PW.imp{X:Cx}{e:Expr}{t t':TT}(h:PW X e t)(i:∀σ H Q,t' σ H Q->t σ H Q):PW X e t':=fun whole pins s σ H Q I q=>h whole pins s σ H Q I (i _ _ _ q)
theorem znt{σ:St}{H:Hp}{Q:Bool->Hp->Prop}(q:tTr cl E (zhD f h) σ H Q):zuE (tTr cl E f) (tTr cl E h) σ H Q:=by
 obtain ⟨B,w,ρ,S,rfl,R,q⟩:=q;refine ⟨B,w,ρ,S,rfl,R,?_⟩;unfold zhD at q
 cases hf:f ρ S with
 | bad=>rw [hf] at q;exact q
 | exc c S1=>rw [hf] at q;exact q
 | ok d S1 =>
  rw [hf] at q;dsimp only [Out.bind] at q ⊢
  cases hb:isB d with
  | none=>rw [hb] at q;exact q.elim
  | some b =>
   rw [hb] at q;intro w1 R1 F1
   cases b with
   | false=>exact zmf (q w1 R1 F1)
   | true =>
    refine zme ⟨B,w1,ρ,S1,rfl,R1,?_⟩;dsimp only at q
    cases hh:h ρ S1 with
    | bad=>rw [hh] at q;exact q
    | exc c S2=>rw [hh] at q;exact fun w2 R2 F2=>q w2 R2 (F1.trans F2)
    | ok e S2 =>
     rw [hh] at q;dsimp only at q ⊢
     cases hb2:isB e with
     | none=>rw [hb2] at q;exact q.elim
     | some b2=>rw [hb2] at q;exact fun w2 R2 F2=>q w2 R2 (F1.trans F2)
theorem zps{σ:St}{H:Hp}{Q:Bool->Hp->Prop}(q:tTr cl E (eOr f h) σ H Q):tOr (tTr cl E f) (tTr cl E h) σ H Q:=by
 obtain ⟨B,w,ρ,S,rfl,R,q⟩:=q;refine ⟨B,w,ρ,S,rfl,R,?_⟩;unfold eOr at q
 cases hf:f ρ S with
 | bad=>rw [hf] at q;exact q
 | exc c S1=>rw [hf] at q;exact q
 | ok d S1 =>
  rw [hf] at q;dsimp only [Out.bind] at q ⊢
  cases hb:isB d with
  | none=>rw [hb] at q;exact q.elim
  | some b =>
   rw [hb] at q;intro w1 R1 F1
   cases b with
   | true=>exact zme (q w1 R1 F1)
   | false =>
    refine zmf ⟨B,w1,ρ,S1,rfl,R1,?_⟩;dsimp only at q
    cases hh:h ρ S1 with
    | bad=>rw [hh] at q;exact q
    | exc c S2=>rw [hh] at q;exact fun w2 R2 F2=>q w2 R2 (F1.trans F2)
    | ok e S2 =>
     rw [hh] at q;dsimp only at q ⊢
     cases hb2:isB e with
     | none=>rw [hb2] at q;exact q.elim
     | some b2=>rw [hb2] at q;exact fun w2 R2 F2=>q w2 R2 (F1.trans F2)
theorem zns{σ:St}{H:Hp}{Q:Bool->Hp->Prop}(q:tTr cl E (eUn zfl f) σ H Q):zuC (tTr cl E f) σ H Q:=by
 obtain ⟨B,w,ρ,S,rfl,R,q⟩:=q;refine ⟨B,w,ρ,S,rfl,R,?_⟩;unfold eUn at q
 cases hf:f ρ S with
 | bad=>rw [hf] at q;exact q
 | exc c S1=>rw [hf] at q;exact q
 | ok d S1 =>
  rw [hf] at q;dsimp only [Out.bind] at q ⊢
  cases hb:isB d with
  | none =>
   have:zfl d=none:=by cases d<;>simp [isB] at hb<;>rfl
   rw [this] at q;exact q.elim
  | some b =>
   rw [zdh hb] at q;exact q
theorem zpC(ha:PT X a (tTr cl E f)):PT X (.UnaryOp .Not a pos) (tTr cl E (eUn zfl f)):=PT.imp (zqf ha) fun _ _ _ q=>zns q
theorem zpz{zcf:List Expr}(ha:PT X a (tTr cl E f))(hb:PW X (.BoolOp .And (b::zcf) pos) (tTr cl E h)):PW X (.BoolOp .And (a::b::zcf) pos) (tTr cl E (zhD f h)):=PW.imp (zqc ha hb) fun _ _ _ q=>znt q
theorem zsD{zcf:List Expr}(ha:PT X a (tTr cl E f))(hb:PW X (.BoolOp .Or (b::zcf) pos) (tTr cl E h)):PW X (.BoolOp .Or (a::b::zcf) pos) (tTr cl E (eOr f h)):=PW.imp (zsS ha hb) fun _ _ _ q=>zps q
theorem zp4{zcf:List Expr}(ha:PE X a (tE cl E f))(hb:PE X (.BoolOp .And (b::zcf) pos) (tE cl E h)):PE X (.BoolOp .And (a::b::zcf) pos) (tE cl E (zhD f h)):=by
 refine PE.imp (zqw ha hb) ?_;rintro σ H Q ⟨B,w,ρ,S,rfl,R,q⟩;refine ⟨B,w,ρ,S,rfl,R,?_⟩;unfold zhD at q
 cases hf:f ρ S with
 | bad=>rw [hf] at q;exact q
 | exc c S1=>rw [hf] at q;exact q
 | ok d S1 =>
  rw [hf] at q;intro v w1 R1 F1 h1;dsimp only [Out.bind] at q
  cases hb:isB d with
  | none=>rw [hb] at q;exact q.elim
  | some b =>
   rw [hb] at q;rw [zdh hb] at h1;refine ⟨b,zgA h1,?_⟩
   cases b with
   | false=>exact zmf (q _ w1 R1 F1 (.bl false))
   | true =>
    refine zme ⟨B,w1,ρ,S1,rfl,R1,?_⟩;dsimp only at q
    cases hh:h ρ S1 with
    | bad=>rw [hh] at q;exact q
    | exc c S2=>rw [hh] at q;exact fun w2 R2 F2=>q w2 R2 (F1.trans F2)
    | ok e S2=>rw [hh] at q;exact fun v w2 R2 F2=>q v w2 R2 (F1.trans F2)
theorem zsK{zcf:List Expr}(ha:PE X a (tE cl E f))(hb:PE X (.BoolOp .Or (b::zcf) pos) (tE cl E h)):PE X (.BoolOp .Or (a::b::zcf) pos) (tE cl E (eOr f h)):=by
 refine PE.imp (zsX ha hb) ?_;rintro σ H Q ⟨B,w,ρ,S,rfl,R,q⟩;refine ⟨B,w,ρ,S,rfl,R,?_⟩;unfold eOr at q
 cases hf:f ρ S with
 | bad=>rw [hf] at q;exact q
 | exc c S1=>rw [hf] at q;exact q
 | ok d S1 =>
  rw [hf] at q;intro v w1 R1 F1 h1;dsimp only [Out.bind] at q
  cases hb:isB d with
  | none=>rw [hb] at q;exact q.elim
  | some b =>
   rw [hb] at q;rw [zdh hb] at h1;refine ⟨b,zgA h1,?_⟩
   cases b with
   | true=>exact zme (q _ w1 R1 F1 (.bl true))
   | false =>
    refine zmf ⟨B,w1,ρ,S1,rfl,R1,?_⟩;dsimp only at q
    cases hh:h ρ S1 with
    | bad=>rw [hh] at q;exact q
    | exc c S2=>rw [hh] at q;exact fun w2 R2 F2=>q w2 R2 (F1.trans F2)
    | ok e S2=>rw [hh] at q;exact fun v w2 R2 F2=>q v w2 R2 (F1.trans F2)
theorem zpY(ha:PE X a (tE cl E f)):PE X (.UnaryOp .Not a pos) (tE cl E (eUn zfl f)):=by
 refine PE.imp (zqr ha) ?_;rintro σ H Q ⟨B,w,ρ,S,rfl,R,q⟩;refine ⟨B,w,ρ,S,rfl,R,?_⟩;unfold eUn at q
 cases hf:f ρ S with
 | bad=>rw [hf] at q;exact q
 | exc c S1=>rw [hf] at q;exact q
 | ok d S1 =>
  rw [hf] at q;intro v w1 R1 F1 h1;dsimp only [Out.bind] at q
  cases hb:isB d with
  | none =>
   have:zfl d=none:=by cases d<;>simp [isB] at hb<;>rfl
   rw [this] at q;exact q.elim
  | some b =>
   rw [zdh hb] at q h1;exact ⟨b,zgA h1,q _ w1 R1 F1 (.bl _)⟩
theorem zsx{σ:St}{H:Hp}{Q:VK}(q:tE cl E (eIf g f h) σ H Q):tIf (tTr cl E g) (tE cl E f) (tE cl E h) σ H Q:=by
 obtain ⟨B,w,ρ,S,rfl,R,q⟩:=q;refine ⟨B,w,ρ,S,rfl,R,?_⟩;unfold eIf at q
 cases hg:g ρ S with
 | bad=>rw [hg] at q;exact q
 | exc c S1=>rw [hg] at q;exact q
 | ok d S1 =>
  rw [hg] at q;dsimp only [Out.bind] at q ⊢
  cases hb:isB d with
  | none=>rw [hb] at q;exact q.elim
  | some b =>
   rw [hb] at q;intro w1 R1 F1
   cases b with
   | true =>
    refine zme ⟨B,w1,ρ,S1,rfl,R1,?_⟩;dsimp only at q
    cases hh:f ρ S1 with
    | bad=>rw [hh] at q;exact q
    | exc c S2=>rw [hh] at q;exact fun w2 R2 F2=>q w2 R2 (F1.trans F2)
    | ok e S2=>rw [hh] at q;exact fun v w2 R2 F2=>q v w2 R2 (F1.trans F2)
   | false =>
    refine zmf ⟨B,w1,ρ,S1,rfl,R1,?_⟩;dsimp only at q
    cases hh:h ρ S1 with
    | bad=>rw [hh] at q;exact q
    | exc c S2=>rw [hh] at q;exact fun w2 R2 F2=>q w2 R2 (F1.trans F2)
    | ok e S2=>rw [hh] at q;exact fun v w2 R2 F2=>q v w2 R2 (F1.trans F2)
theorem zsN(hc:PT X c (tTr cl E g))(ha:PE X a (tE cl E f))(hb:PE X b (tE cl E h)):PE X (.IfExp c a b pos) (tE cl E (eIf g f h)):=PE.imp (zlS hc ha hb) fun _ _ _ q=>zsx q
theorem zgB:PA X [] (tAs cl E []):=by
 refine PA.imp zgM ?_;rintro σ H Q ⟨B,w,ρ,S,rfl,R,q⟩;exact q [] w R (Fut.refl _) .nil
theorem zdB{es:List Expr}{fs:List Fe}(ha:PE X e (tE cl E f))(hr:PA X es (tAs cl E fs))(hs:starEach (e::es) X.env=(false,eval e X.env)::starEach es X.env):PA X (e::es) (tAs cl E (f::fs)):=by
 refine PA.imp (zd8 ha hr hs) ?_;rintro σ H Q ⟨B,w,ρ,S,rfl,R,q⟩;refine ⟨B,w,ρ,S,rfl,R,?_⟩;unfold zan at q
 cases hf:f ρ S with
 | bad=>rw [hf] at q;exact q
 | exc c S1=>rw [hf] at q;exact q
 | ok d S1 =>
  rw [hf] at q;intro v w1 R1 F1 h1;refine ⟨B,w1,ρ,S1,rfl,R1,?_⟩;dsimp only [Out.bind] at q
  cases hh:zan fs ρ S1 with
  | bad=>rw [hh] at q;exact q
  | exc c S2=>rw [hh] at q;exact fun w2 R2 F2=>q w2 R2 (F1.trans F2)
  | ok ds S2 =>
   rw [hh] at q;exact fun vs w2 R2 F2 h2=>q _ w2 R2 (F1.trans F2) (.cons (h1.up F2) h2)
theorem zpR:PA X [] (tHs cl E []):=by
 refine PA.imp zgM ?_;rintro σ H Q ⟨B,w,ρ,S,rfl,R,q⟩;exact q [] w R (Fut.refl _) .nil
theorem znJ{es:List Expr}{fs:List Fe}(ha:PE X e (tH cl E f))(hr:PA X es (tHs cl E fs))(hs:starEach (e::es) X.env=(false,eval e X.env)::starEach es X.env):PA X (e::es) (tHs cl E (f::fs)):=by
 refine PA.imp (zd8 ha hr hs) ?_;rintro σ H Q ⟨B,w,ρ,S,rfl,R,q⟩;refine ⟨B,w,ρ,S,rfl,R,?_⟩;unfold zan at q
 cases hf:f ρ S with
 | bad=>rw [hf] at q;exact q
 | exc c S1=>rw [hf] at q;exact q
 | ok d S1 =>
  rw [hf] at q;intro v w1 R1 F1 h1;refine ⟨B,w1,ρ,S1,rfl,R1,?_⟩;dsimp only [Out.bind] at q
  cases hh:zan fs ρ S1 with
  | bad=>rw [hh] at q;exact q
  | exc c S2=>rw [hh] at q;exact fun w2 R2 F2=>q w2 R2 (F1.trans F2)
  | ok ds S2 =>
   rw [hh] at q;exact fun vs w2 R2 F2 h2=>q _ w2 R2 (F1.trans F2) (.cons (h1.up F2) h2)
theorem zpW{es:List Expr}{fs:List Fe}{k:Nat}(h:PA X es (tAs cl E fs)):PE X (.Tuple es k pos) (tE cl E (zdy fs)):=by
 refine PE.imp (zqm h) ?_;rintro σ H Q ⟨B,w,ρ,S,rfl,R,q⟩;refine ⟨B,w,ρ,S,rfl,R,?_⟩;unfold zdy at q
 cases hf:zan fs ρ S with
 | bad=>rw [hf] at q;exact q
 | exc c S1=>rw [hf] at q;exact q
 | ok ds S1 =>
  rw [hf] at q;intro vs w1 R1 F1 h1;dsimp only [Out.bind] at q
  cases hz:zbr ds.length with
  | false=>rw [hz,if_neg (by decide)] at q;exact q.elim
  | true =>
   rw [hz,if_pos rfl] at q;refine ⟨by rw [h1.length];exact zbj hz,fun p hp=>?_⟩;exact q _ (w1.add p (.tup vs)) (R1.grow (zaI hp _)) (F1.trans (zaI hp _).fut) (Shd.newT hp h1)
theorem zp0{es:List Expr}{fs:List Fe}(h:PA X es (tAs cl E fs)):PE X (.List es pos) (tN cl E (zg1 fs)):=by
 refine PE.imp (zqt h) ?_;rintro σ H Q ⟨B,w,ρ,S,rfl,R,q⟩;refine ⟨B,w,ρ,S,rfl,R,?_⟩;unfold zg1 at q
 cases hf:zan fs ρ S with
 | bad=>rw [hf] at q;exact q
 | exc c S1=>rw [hf] at q;exact q
 | ok ds S1 =>
  rw [hf] at q;intro vs w1 R1 F1 h1;dsimp only [Out.bind] at q
  cases hz:zbr ds.length with
  | false=>rw [hz,if_neg (by decide)] at q;exact q.elim
  | true =>
   rw [hz,if_pos rfl] at q;refine ⟨by rw [h1.length];exact zbj hz,fun p hp=>?_⟩;exact q _ (.lst vs) w1 R1 F1 hp (.lst h1)
theorem zpv{fs:List Fe}{gg:List D->Option D}{r:List V->Hp->VK->Prop}(hr:∀xs H Q,(∃w ds r,w.H=H/\zlh cl w xs ds/\gg ds=some r/\∀v w',Grow w w'->Shd cl w' v r->Q v w'.H)->r xs H Q){σ:St}{H:Hp}{Q:VK}(q:tE cl E (zaJ gg fs) σ H Q):tCB r (tHs cl E fs) σ H Q:=by
 obtain ⟨B,w,ρ,S,rfl,R,q⟩:=q;refine ⟨B,w,ρ,S,rfl,R,?_⟩;unfold zaJ at q
 cases hf:zan fs ρ S with
 | bad=>rw [hf] at q;exact q
 | exc c S1=>rw [hf] at q;exact q
 | ok ds S1 =>
  rw [hf] at q;intro vs w1 R1 F1 h1;dsimp only [Out.bind] at q
  cases hg:gg ds with
  | none=>rw [hg] at q;exact q.elim
  | some d =>
   rw [hg] at q;exact hr _ _ _ ⟨w1,ds,d,rfl,h1.top R1,hg,fun v w' gr sh=>q v w' (R1.grow gr) (F1.trans gr.fut) sh⟩
theorem zsB{fs:List Fe}{gg:List D->Option D}{r:List V->Hp->VK->Prop}(hr:∀xs H Q,(∃w ds r,w.H=H/\zlh cl w xs ds/\gg ds=some r/\∀p o w',Grow w w'->w'.H p=none->Top cl w' o r->Q (.ref p) (upd w'.H p o))->r xs H Q){σ:St}{H:Hp}{Q:VK}(q:tN cl E (zaJ gg fs) σ H Q):tCB r (tHs cl E fs) σ H Q:=by
 obtain ⟨B,w,ρ,S,rfl,R,q⟩:=q;refine ⟨B,w,ρ,S,rfl,R,?_⟩;unfold zaJ at q
 cases hf:zan fs ρ S with
 | bad=>rw [hf] at q;exact q
 | exc c S1=>rw [hf] at q;exact q
 | ok ds S1 =>
  rw [hf] at q;intro vs w1 R1 F1 h1;dsimp only [Out.bind] at q
  cases hg:gg ds with
  | none=>rw [hg] at q;exact q.elim
  | some d =>
   rw [hg] at q;exact hr _ _ _ ⟨w1,ds,d,rfl,h1.top R1,hg,fun p o w' gr hp t=>q p o w' (R1.grow gr) (F1.trans gr.fut) hp t⟩
end
end S2
namespace S2
open PySem PySem.Spec PyProof.Rows L2
def Root.out:Option Root->Option Root | some (.slot _)=>some .far | o=>o
theorem Root.out_none{o:Option Root}:Root.out o=none↔o=none:=by
 cases o with
 | none=>exact ⟨fun h=>h,fun h=>h⟩
 | some r=>cases r<;>simp [Root.out]
def ze6:Option Root->Bool | some (.fld _ _)=>true | some (.obj _)=>true | _=>false
def Wd.inn(w:Wd):Wd:=⟨w.H,fun a=>Root.out (w.ow a),w.mu⟩
def Wd.base(w:Wd):Base:=⟨fun a=>if ze6 (w.ow a)=true then none else w.H a,fun a=>Root.out (w.ow a)⟩
def Wd.back(w w':Wd):Wd:=⟨w'.H,fun a=>if (w.base.Fr a).isSome=true then w.ow a else Root.out (w'.ow a),w'.mu⟩
theorem zct(w:Wd):Fut w w.inn:=⟨fun a o h k=>⟨h,by show Root.out (w.ow a)=none;rw [k];rfl⟩,fun _ _ h=>h⟩
theorem zhb{w:Wd}{a:Addr}{o:HO}(h:w.H a=some o)(k:ze6 (w.ow a)=false):w.base.Fr a=some o:=by
 show (if ze6 (w.ow a)=true then none else w.H a)=_;rw [k,if_neg (by decide)];exact h
theorem zoi{w:Wd}{a:Addr}{o:HO}(h:w.base.Fr a=some o):w.H a=some o/\ze6 (w.ow a)=false:=by
 have h':(if ze6 (w.ow a)=true then none else w.H a)=some o:=h;split at h'
 ·cases h'
 ·rename_i z;exact ⟨h',by simpa using z⟩
section
variable{cl:Cf}{B:Base}{σ:St}{w w':Wd}{ρ:Env}{S S':Sto}
theorem World'.enter(W:World' cl B w S):World' cl w.base w.inn S where
 fr:=fun a o h=>⟨(zoi h).1,rfl⟩
 own:=fun a r h=>by
  have h':Root.out (w.ow a)=some r:=h
  cases e:w.ow a with
  | none=>rw [e] at h';cases h'
  | some q =>
   cases q with
   | slot i=>rw [e] at h';cases h';exact .inl rfl
   | far=>rw [e] at h';cases h';exact .inl rfl
   | fld n f=>exact .inr (by show (if ze6 (w.ow a)=true then none else w.H a)=none;rw [e];rfl)
   | obj n=>exact .inr (by show (if ze6 (w.ow a)=true then none else w.H a)=none;rw [e];rfl)
 len:=W.len
 obj:=fun n ob h=>by
  obtain ⟨a,e,x⟩:=W.obj n ob h;refine ⟨a,e,x.keep (zct w) fun a o ha hn=>⟨ha,?_⟩⟩;show Root.out (w.ow a)=w.ow a
  cases e:w.ow a with
  | none=>rfl
  | some q=>cases q with
   | slot i=>rw [e] at hn;exact hn.elim
   | _=>rfl
theorem zdK(W:World' cl B w S){a:Addr}{o:HO}(h:B.Fr a=some o):w.base.Fr a=some o:=by
 refine zhb (W.fr a o h).1 ?_
 cases e:w.ow a with
 | none=>rfl
 | some q =>
  rcases W.own a q e with rfl | z
  ·rfl
  ·rw [h] at z;cases z
theorem zdi(W':World' cl w.base w' S'):Fut w' (w.back w') where
 keep:=fun a o h k=>by
  refine ⟨h,?_⟩;show (if (w.base.Fr a).isSome=true then w.ow a else Root.out (w'.ow a))=none;split
  ·rename_i z;obtain ⟨u,hu⟩:=Option.isSome_iff_exists.mp z;have:=(W'.fr a u hu).2;rw [k] at this;exact Root.out_none.mp this.symm
  ·rw [k];rfl
 mu:=fun _ _ h=>h
theorem Rel.leave(R:Rel cl B σ w ρ S)(W':World' cl w.base w' S')(F:Fut w.inn w'):Rel cl B σ (w.back w') ρ S'/\Fut w (w.back w'):=by
 have fb:=zdi W';have ff:Fut w (w.back w'):=(zct w).trans (F.trans fb)
 have in_:∀a o,w.base.Fr a=some o->(w.back w').H a=some o/\(w.back w').ow a=w.ow a:=fun a o h=>by
  refine ⟨(W'.fr a o h).1,?_⟩;show (if (w.base.Fr a).isSome=true then w.ow a else _)=_;rw [h];rfl
 refine ⟨⟨⟨fun a o h=>?_,fun a r h=>?_,W'.len,fun n ob h=>?_⟩,R.len,fun i o d h=>?_⟩,ff⟩
 ·have:=in_ a o (zdK R.wd h);exact ⟨this.1,this.2.trans (R.wd.fr a o h).2⟩
 ·cases hb:B.Fr a with
  | none=>exact .inr rfl
  | some o =>
   have:=(in_ a o (zdK R.wd hb)).2;rw [h] at this
   rcases R.wd.own a r this.symm with z | z
   ·exact .inl z
   ·rw [hb] at z;cases z
 ·obtain ⟨a,e,x⟩:=W'.obj n ob h;refine ⟨a,e,x.keep fb fun a o ha hn=>⟨ha,?_⟩⟩;show (if (w.base.Fr a).isSome=true then w.ow a else Root.out (w'.ow a))=_
  cases e:w'.ow a with
  | none=>rw [e] at hn;exact hn.elim
  | some q =>
   rcases W'.own a q e with rfl | z
   ·rw [e] at hn;exact hn.elim
   ·rw [z]
    cases q with
    | slot i=>rw [e] at hn;exact hn.elim
    | _=>rfl
 ·obtain ⟨v,e,x⟩:=R.slots i o d h;refine ⟨v,e,x.keep ff fun a u ha hr=>?_⟩;have:=in_ a u (zhb ha (by rw [hr];rfl));exact ⟨this.1,this.2.trans hr⟩
def Wd.del(w:Wd)(a:Addr):Wd:=⟨fun b=>if b=a then none else w.H b,w.ow,w.mu⟩
theorem zhx{a:Addr}(k:w.ow a≠none):Fut w (w.del a) where
 keep:=fun b o h e=>⟨by
  show (if b=a then none else w.H b)=_
  rw [if_neg (fun z=>k (by rw [<-z];exact e))];exact h,e⟩
 mu:=fun _ _ h=>h
theorem zjh{a:Addr}{o:HO}(h:w.H a=some o):upd (w.del a).H a o=w.H:=by
 funext b
 by_cases e:b=a
 ·rw [e,zaO,h]
 ·rw [zar e];show (if b=a then none else w.H b)=_;rw [if_neg e]
theorem Rel.del{a:Addr}(R:Rel cl B σ w ρ S)(k:w.ow a=some .far)(hb:B.Fr a=none):Rel cl B σ (w.del a) ρ S:=by
 have fd:Fut w (w.del a):=zhx (by rw [k];exact Option.some_ne_none _)
 have kp:∀b o,w.H b=some o->b≠a->(w.del a).H b=some o:=fun b o h n=>by
  show (if b=a then none else w.H b)=_;rw [if_neg n];exact h
 refine ⟨⟨fun b o h=>⟨kp b o (R.wd.fr b o h).1 (fun z=>by rw [z,hb] at h;cases h),(R.wd.fr b o h).2⟩,R.wd.own,R.wd.len,fun n ob h=>?_⟩,R.len,fun i o d h=>?_⟩
 ·obtain ⟨c,e,x⟩:=R.wd.obj n ob h;exact ⟨c,e,x.keep fd fun b o hb' hn=>⟨kp b o hb' (fun z=>by rw [z,k] at hn;exact hn.elim),rfl⟩⟩
 ·obtain ⟨v,e,x⟩:=R.slots i o d h;exact ⟨v,e,x.keep fd fun b o hb' hr=>⟨kp b o hb' (fun z=>by rw [z,k] at hr;cases hr),hr⟩⟩
end
def zvP(cl:Cf)(w:Wd):Bool->V->D->Prop
 | false,v,d=>Shd cl w v d
 | true,v,d=>∃a o i,v=.ref a/\w.ow a=some (.slot i)/\w.H a=some o/\Top cl w o d
def zgy(cl:Cf)(n:Nat)(own:Bool)(G:List D->Sto->Out D):Sp:=fun vs H Q E=>vs.length=n/\∃B w ds S,w.H=H/\World' cl B w S/\Shds cl w vs ds/\match G ds S with
 | .ok d S'=>∀v w',World' cl B w' S'->Fut w w'->zvP cl w' own v d->Q v w'.H
 | .exc c S'=>∀w',World' cl B w' S'->Fut w w'->E (.ref (cl c)) none w'.H
 | .bad=>False
def zdb(CX:CXT)(X:Cx)(E:St->XK):Prop:=∀(pins:Z3) (σ:St) (H:Hp) (s:Shared) (e:Value) (s':Shared),Inv X pins σ H s->CX X.stack H s (E σ) e s'->X.xe e s'
def zgv(sp:Sp)(dvs:List V)(E:St->XK)(t:TA):TE:=fun σ H Q=>t σ H fun vs H1=>sp (vs++dvs) H1 Q (E σ)
section
variable{X:Cx}{CX:CXT}{k:Nat}{f C:Addr}{fd:FuncData}{ps:List Str}{sp:Sp}{dvs:List V}{ds:List Value}{E:St->XK}{x m:Str}{p pos apos:Pos}{e o:Expr}{es:List Expr}{ta:TE}{t:TA}
theorem zfW{pins:Z3}{σ:St}{H:Hp}{s:Shared}{Q:VK}{us:List Value}{vs:List V}(F:FnOk X.prog X.w X.K X.mg X.base CX k f fd ps sp)(hr:Room k X.A)(hb:zbG X.K fd ps ds)(hd:Vals dvs ds)(hx:zdb CX X E)
  (I:Inv X pins σ H s) (r:Vals vs us) (h:sp (vs++dvs) H Q (E σ)):wpAny (model X.prog X.w) X.A (call (.ref f) us) (EP X pins σ Q) X.xe s:=by
 have r2:Vals (vs++dvs) (us++ds):=r.append hd
 have hl:(us++ds).length=ps.length:=by rw [<-r2.length];exact F.len _ _ _ _ h
 refine wpAny_call (codeAny_mono (F.run X.A X.stack s H ⟨us,[]⟩ (us++ds) (vs++dvs) Q (E σ) hr I.env0 (hb s us I.kIn hl) r2 h) fun r s' hq=>?_)
 cases r with
 | error e=>exact hx pins σ H s e s' I hq
 | ok fl =>
  cases fl with
  | ret u=>exact I.after hq
  | next=>exact False.elim hq
  | brk=>exact False.elim hq
  | cont=>exact False.elim hq
theorem zlV(F:FnOk X.prog X.w X.K X.mg X.base CX k f fd ps sp)(hr:Room k X.A)(hg:Gl X x)(hm:X.mg x=some (.ref f))(hk:PySem.W.keepIn X.K (.ref f)=true)(hb:zbG X.K fd ps ds)(hd:Vals dvs ds)(hx:zdb CX X E)
  (ha:PA X (e::es) t) (hdb:(x == ("__debug__":Str))=false) (he:starEach (e::es) X.env=(false,eval e X.env)::starEach es X.env) (hpl:(backTo pos (starEach es X.env)).any (·.1)=false) :
  PE X (.Call (.Name x p) (e::es) [] pos) (zgv sp dvs E t):=by
 intro pins s σ H Q I h;refine wpAny_Call_Name_kw (ze1 I hg hm ?_ hdb);refine PySem.W.callWith_K (h₀:=X.base) I.ok.mod.kin hk (thn (ha pos pins s σ H _ I h) fun us s1 ⟨vs,H1,I1,r,q⟩=>⟨I1.kIn,?_⟩) he hpl;exact zfW F hr hb hd hx I1 r q
theorem zj8(F:FnOk X.prog X.w X.K X.mg X.base CX k f fd ps sp)(hr:Room k X.A)(hg:Gl X x)(hm:X.mg x=some (.ref f))(hk:PySem.W.keepIn X.K (.ref f)=true)(hb:zbG X.K fd ps ds)(hd:Vals dvs ds)(hx:zdb CX X E)
  (hdb:(x == ("__debug__":Str))=false):PE X (.Call (.Name x p) [] [] pos) (zgv sp dvs E zsu):=by
 intro pins s σ H Q I h;refine wpAny_Call_Name_kw (ze1 I hg hm ?_ hdb);exact PySem.W.callWith_K0 I.kIn hk (zfW (us:=[]) F hr hb hd hx I .nil h)
end
def eFn(G:List D->Sto->Out D)(fs:List Fe):Fe:=fun ρ S=>(zan fs ρ S).bind fun ds S1=>G ds S1
section
variable{cl:Cf}{E:St->XK}{fs:List Fe}{G:List D->Sto->Out D}{σ:St}{H:Hp}{Q:VK}{n:Nat}
theorem zrD(q:tE cl E (eFn G fs) σ H Q)(hn:fs.length=n):zgv (zgy cl n false G) [] E (tAs cl E fs) σ H Q:=by
 obtain ⟨B,w,ρ,S,rfl,R,q⟩:=q;refine ⟨B,w,ρ,S,rfl,R,?_⟩;unfold eFn at q
 cases hf:zan fs ρ S with
 | bad=>rw [hf] at q;exact q
 | exc c S1=>rw [hf] at q;exact q
 | ok ds S1 =>
  rw [hf] at q;intro vs w1 R1 F1 h1;dsimp only [Out.bind] at q
  have hl:∀(fs:List Fe) (S S1:Sto) (ds:List D),zan fs ρ S=.ok ds S1->ds.length=fs.length:=by
   intro fs
   induction fs with
   | nil=>intro S S1 ds h;cases h;rfl
   | cons f fs ih =>
    intro S S1 ds h;unfold zan at h
    cases h1:f ρ S with
    | bad=>rw [h1] at h;cases h
    | exc c S2=>rw [h1] at h;cases h
    | ok d S2 =>
     rw [h1] at h;dsimp only [Out.bind] at h
     cases h2:zan fs ρ S2 with
     | bad=>rw [h2] at h;cases h
     | exc c S3=>rw [h2] at h;cases h
     | ok es S3=>rw [h2] at h;cases h;rw [List.length_cons,List.length_cons,ih S2 _ es h2]
  refine ⟨by rw [List.append_nil,h1.length,hl fs S S1 ds hf];exact hn,w1.base,w1.inn,ds,S1,rfl,R1.wd.enter,by rw [List.append_nil];exact h1.up (zct w1),?_⟩
  cases hg:G ds S1 with
  | bad=>rw [hg] at q;exact q
  | exc c S2 =>
   rw [hg] at q;intro w2 W2 F2;obtain ⟨R3,F3⟩:=R1.leave W2 F2;exact q (w1.back w2) R3 (F1.trans F3)
  | ok d S2 =>
   rw [hg] at q;intro v w2 W2 F2 r2;obtain ⟨R3,F3⟩:=R1.leave W2 F2;exact q v (w1.back w2) R3 (F1.trans F3) (Shd.up (zdi W2) r2)
theorem zrC(q:tN cl E (eFn G fs) σ H Q)(hn:fs.length=n):zgv (zgy cl n true G) [] E (tAs cl E fs) σ H Q:=by
 obtain ⟨B,w,ρ,S,rfl,R,q⟩:=q;refine ⟨B,w,ρ,S,rfl,R,?_⟩;unfold eFn at q
 cases hf:zan fs ρ S with
 | bad=>rw [hf] at q;exact q
 | exc c S1=>rw [hf] at q;exact q
 | ok ds S1 =>
  rw [hf] at q;intro vs w1 R1 F1 h1;dsimp only [Out.bind] at q
  have hl:∀(fs:List Fe) (S S1:Sto) (ds:List D),zan fs ρ S=.ok ds S1->ds.length=fs.length:=by
   intro fs
   induction fs with
   | nil=>intro S S1 ds h;cases h;rfl
   | cons f fs ih =>
    intro S S1 ds h;unfold zan at h
    cases h1:f ρ S with
    | bad=>rw [h1] at h;cases h
    | exc c S2=>rw [h1] at h;cases h
    | ok d S2 =>
     rw [h1] at h;dsimp only [Out.bind] at h
     cases h2:zan fs ρ S2 with
     | bad=>rw [h2] at h;cases h
     | exc c S3=>rw [h2] at h;cases h
     | ok es S3=>rw [h2] at h;cases h;rw [List.length_cons,List.length_cons,ih S2 _ es h2]
  refine ⟨by rw [List.append_nil,h1.length,hl fs S S1 ds hf];exact hn,w1.base,w1.inn,ds,S1,rfl,R1.wd.enter,by rw [List.append_nil];exact h1.up (zct w1),?_⟩
  cases hg:G ds S1 with
  | bad=>rw [hg] at q;exact q
  | exc c S2 =>
   rw [hg] at q;intro w2 W2 F2;obtain ⟨R3,F3⟩:=R1.leave W2 F2;exact q (w1.back w2) R3 (F1.trans F3)
  | ok d S2 =>
   rw [hg] at q;intro v w2 W2 F2 r2;obtain ⟨R3,F3⟩:=R1.leave W2 F2;obtain ⟨a,o,i,rfl,k1,k2,t⟩:=r2;have hfr:w1.base.Fr a=none:=(W2.own a _ k1).elim (fun z=>by cases z) fun z=>z
   have k3:(w1.back w2).ow a=some .far:=by
    show (if (w1.base.Fr a).isSome=true then w1.ow a else Root.out (w2.ow a))=_;rw [hfr,k1];rfl
   have hb:B.Fr a=none:=by
    cases z:B.Fr a with
    | none=>rfl
    | some u=>rw [zdK R1.wd z] at hfr;cases hfr
   have hd:=zhx (w:=w1.back w2) (a:=a) (by rw [k3];exact Option.some_ne_none _);have:=q a o ((w1.back w2).del a) (R3.del k3 hb) (F1.trans (F3.trans hd)) (if_pos rfl) ((t.up (zdi W2)).up hd);rw [zjh (w:=w1.back w2) k2] at this;exact this
end
end S2
namespace S2
open PySem PySem.Spec PyProof.Rows L2
def frz1(ρ:Env)(i:Nat):Env:=match ρ[i]? with | some (some (true,d))=>ρ.set i (some (false,d)) | _=>ρ
def frz(is:List Nat)(ρ:Env):Env:=is.foldl frz1 ρ
def sFz(is:List Nat)(f:Fs):Fs:=fun ρ S=>f (frz is ρ) S
def sNx:Fs:=fun ρ S=>.nx ρ S
def sBk:Fs:=fun ρ S=>.bk ρ S
def zal(f g:Fs):Fs:=fun ρ S=>match f ρ S with | .nx ρ' S'=>g ρ' S' | o=>o
def zbT(i:Nat)(own:Bool)(f:Fe):Fs:=fun ρ S=>match f ρ S with | .ok d S'=>.nx (ρ.set i (some (own,d))) S' | .exc c S'=>.ex c ρ S' | .bad=>.bad
def zmS(f:Fe):Fs:=fun ρ S=>match f ρ S with | .ok _ S'=>.nx ρ S' | .exc c S'=>.ex c ρ S' | .bad=>.bad
def zbn(f:Fe):Fs:=fun ρ S=>match f ρ S with | .ok d S'=>.rt d S' | .exc c S'=>.ex c ρ S' | .bad=>.bad
def zlD:Fs:=fun _ S=>.rt .non S
def ziP(i:Nat):Fs:=fun ρ S=>match ρ[i]? with | some (some (true,d))=>.rt d S | _=>.bad
def sIf(c:Fe)(f g:Fs):Fs:=fun ρ S=>match c ρ S with | .ok d S'=>(match isB d with | some true=>f ρ S' | some false=>g ρ S' | none=>.bad) | .exc x S'=>.ex x ρ S' | .bad=>.bad
def zgm(cl:Cf)(E:St->XK)(own:Bool)(B:Base)(w:Wd)(De:Ends):Fo->Prop
 | .nx ρ' S'=>∀σ' w',Rel cl B σ' w' ρ' S'->Fut w w'->De.nx σ' w'.H
 | .bk ρ' S'=>∀σ' w',Rel cl B σ' w' ρ' S'->Fut w w'->De.bk σ' w'.H
 | .ct ρ' S'=>∀σ' w',Rel cl B σ' w' ρ' S'->Fut w w'->De.ct σ' w'.H
 | .rt d S'=>∀v w',World' cl B w' S'->Fut w w'->zvP cl w' own v d->De.rt v w'.H
 | .ex c ρ' S'=>∀σ' w',Rel cl B σ' w' ρ' S'->Fut w w'->E σ' (.ref (cl c)) none w'.H
 | .bad=>False
theorem zgm.up{cl:Cf}{E:St->XK}{own:Bool}{B:Base}{w w1:Wd}{De:Ends}(f:Fut w w1):∀{o:Fo},zgm cl E own B w De o->zgm cl E own B w1 De o
 | .nx _ _,h=>fun σ' w' R F=>h σ' w' R (f.trans F)
 | .bk _ _,h=>fun σ' w' R F=>h σ' w' R (f.trans F)
 | .ct _ _,h=>fun σ' w' R F=>h σ' w' R (f.trans F)
 | .rt _ _,h=>fun v w' R F=>h v w' R (f.trans F)
 | .ex _ _ _,h=>fun σ' w' R F=>h σ' w' R (f.trans F)
 | .bad,h=>h
def tS(cl:Cf)(E:St->XK)(own:Bool)(f:Fs):TS:=fun De σ H=>∃B w ρ S,w.H=H/\Rel cl B σ w ρ S/\zgm cl E own B w De (f ρ S)
theorem PS.imp{X:Cx}{st:Stmt}{t t':TS}(h:PS X st t)(i:∀De σ H,t' De σ H->t De σ H):PS X st t':=fun pins s σ H De I q=>h pins s σ H De I (i _ _ _ q)
theorem PSs.imp{X:Cx}{st:List Stmt}{t t':TS}(h:PSs X st t)(i:∀De σ H,t' De σ H->t De σ H):PSs X st t':=fun pins s σ H De I q=>h pins s σ H De I (i _ _ _ q)
section
variable{cl:Cf}{B:Base}{σ:St}{w:Wd}{ρ:Env}{S:Sto}
theorem Rel.put{i:Nat}{v:V}{d:D}(R:Rel cl B σ w ρ S)(h:Shd cl w v d):Rel cl B (σ.set i (some v)) w (ρ.set i (some (false,d))) S where
 wd:=R.wd
 len:=by rw [List.length_set,List.length_set];exact R.len
 slots:=fun j o e hj=>by
  by_cases hij:i=j
  ·subst hij
   have hlt:i<ρ.length:=by
    have:=(List.getElem?_eq_some_iff.mp hj).1;rw [List.length_set] at this;exact this
   rw [List.getElem?_set_self hlt] at hj;cases hj;exact ⟨v,by rw [List.getElem?_set_self (by rw [R.len];exact hlt)],h⟩
  ·rw [List.getElem?_set_ne hij] at hj ⊢;exact R.slots j o e hj
def Wd.addAs(w:Wd)(p:Addr)(o:HO)(r:Root):Wd:=⟨upd w.H p o,fun a=>if a=p then some r else if w.ow a=some r then some .far else w.ow a,w.mu⟩
theorem ze9{p:Addr}{o:HO}{r:Root}(h:w.H p=none):Fut w (w.addAs p o r) where
 keep:=fun a u ha hk=>by
  have n:a≠p:=zau ha h;refine ⟨?_,?_⟩
  ·show upd w.H p o a=_;rw [zar n];exact ha
  ·show (if a=p then some r else if w.ow a=some r then some Root.far else w.ow a)=none;rw [if_neg n,if_neg (by rw [hk];exact fun z=>by cases z)];exact hk
 mu:=fun _ _ h=>h
theorem Rel.own{i:Nat}{p:Addr}{o:HO}{d:D}(R:Rel cl B σ w ρ S)(hp:w.H p=none)(t:Top cl w o d):Rel cl B (σ.set i (some (.ref p))) (w.addAs p o (.slot i)) (ρ.set i (some (true,d))) S:=by
 have ff:=ze9 (w:=w) (p:=p) (o:=o) (r:=.slot i) hp
 have kp:∀a u,w.H a=some u->w.ow a≠some (.slot i)->(w.addAs p o (.slot i)).H a=some u/\(w.addAs p o (.slot i)).ow a=w.ow a:=fun a u ha hk=>by
  have n:a≠p:=zau ha hp;refine ⟨?_,?_⟩
  ·show upd w.H p o a=_;rw [zar n];exact ha
  ·show (if a=p then _ else if w.ow a=some (Root.slot i) then some Root.far else w.ow a)=_;rw [if_neg n,if_neg hk]
 have hBp:B.Fr p=none:=by
  cases z:B.Fr p with
  | none=>rfl
  | some u=>have:=(R.wd.fr p u z).1;rw [hp] at this;cases this
 refine ⟨⟨fun a u h=>?_,fun a r h=>?_,R.wd.len,fun n ob h=>?_⟩,by rw [List.length_set,List.length_set];exact R.len,fun j b e hj=>?_⟩
 ·have hne:w.ow a≠some (.slot i):=fun z=>by
   rcases R.wd.own a _ z with y | y
   ·cases y
   ·rw [h] at y;cases y
  have:=kp a u (R.wd.fr a u h).1 hne;exact ⟨this.1,this.2.trans (R.wd.fr a u h).2⟩
 ·have h':(if a=p then some (Root.slot i) else if w.ow a=some (Root.slot i) then some Root.far else w.ow a)=some r:=h;split at h'
  ·rename_i e;rw [e];exact .inr hBp
  ·split at h'
   ·cases h';exact .inl rfl
   ·exact R.wd.own a r h'
 ·obtain ⟨a,e,x⟩:=R.wd.obj n ob h;exact ⟨a,e,x.keep ff fun b u hb hn=>kp b u hb fun z=>by rw [z] at hn;exact hn⟩
 ·by_cases hij:i=j
  ·subst hij
   have hlt:i<ρ.length:=by
    have:=(List.getElem?_eq_some_iff.mp hj).1;rw [List.length_set] at this;exact this
   rw [List.getElem?_set_self hlt] at hj;cases hj;exact ⟨.ref p,by rw [List.getElem?_set_self (by rw [R.len];exact hlt)],p,o,rfl,if_pos rfl,zaO,t.up ff⟩
  ·rw [List.getElem?_set_ne hij] at hj ⊢;obtain ⟨v,e1,x⟩:=R.slots j b e hj;refine ⟨v,e1,x.keep ff fun a u ha hr=>?_⟩;have:=kp a u ha (by rw [hr];exact fun z=>hij (by cases z;rfl));exact ⟨this.1,this.2.trans hr⟩
def Wd.mut(w:Wd)(p:Addr)(o:HO):Wd:=⟨upd w.H p o,w.ow,w.mu⟩
theorem zgd{p:Addr}{o:HO}(h:w.ow p≠none):Fut w (w.mut p o) where
 keep:=fun a u ha hk=>⟨by
  show upd w.H p o a=_
  rw [zar (fun z=>h (by rw [<-z];exact hk))];exact ha,hk⟩
 mu:=fun _ _ h=>h
theorem Rel.mut{i:Nat}{p:Addr}{o:HO}{d d0:D}(R:Rel cl B σ w ρ S)(hs:σ[i]?=some (some (.ref p)))(hk:w.ow p=some (.slot i))(t:Top cl w o d):Rel cl B σ (w.mut p o) (ρ.set i (some (true,d))) S:=by
 have ff:=zgd (w:=w) (p:=p) (o:=o) (by rw [hk];exact Option.some_ne_none _)
 have kp:∀a u,w.H a=some u->w.ow a≠some (.slot i)->(w.mut p o).H a=some u/\(w.mut p o).ow a=w.ow a:=fun a u ha hn=>⟨by
  show upd w.H p o a=_
  rw [zar (fun z=>hn (by rw [z];exact hk))];exact ha,rfl⟩
 have hBp:B.Fr p=none:=(R.wd.own p _ hk).elim (fun z=>by cases z) fun z=>z
 refine ⟨⟨fun a u h=>?_,R.wd.own,R.wd.len,fun n ob h=>?_⟩,by rw [List.length_set];exact R.len,fun j b e hj=>?_⟩
 ·have hne:w.ow a≠some (.slot i):=fun z=>by
   rcases R.wd.own a _ z with y | y
   ·cases y
   ·rw [h] at y;cases y
  have:=kp a u (R.wd.fr a u h).1 hne;exact ⟨this.1,(R.wd.fr a u h).2⟩
 ·obtain ⟨a,e,x⟩:=R.wd.obj n ob h;exact ⟨a,e,x.keep ff fun b u hb hn=>kp b u hb fun z=>by rw [z] at hn;exact hn⟩
 ·by_cases hij:i=j
  ·subst hij
   have hlt:i<ρ.length:=by
    have:=(List.getElem?_eq_some_iff.mp hj).1;rw [List.length_set] at this;exact this
   rw [List.getElem?_set_self hlt] at hj;cases hj;exact ⟨.ref p,hs,p,o,rfl,hk,zaO,t.up ff⟩
  ·rw [List.getElem?_set_ne hij] at hj;obtain ⟨v,e1,x⟩:=R.slots j b e hj;refine ⟨v,e1,x.keep ff fun a u ha hr=>?_⟩;have:=kp a u ha (by rw [hr];exact fun z=>hij (by cases z;rfl));exact ⟨this.1,this.2.trans hr⟩
def Wd.free(w:Wd)(r:Root):Wd:=⟨w.H,fun a=>if w.ow a=some r then none else w.ow a,w.mu⟩
theorem zmn{r:Root}:Fut w (w.free r) where
 keep:=fun a u ha hk=>⟨ha,by
  show (if w.ow a=some r then none else w.ow a)=none
  rw [hk];rfl⟩
 mu:=fun _ _ h=>h
theorem Top.shd{o:HO}{d:D}{a:Addr}(h:w.H a=some o)(k:w.ow a=none):Top cl w o d->Shd cl w (.ref a) d
 | .lst t=>.lst h k t
 | .dicK t=>.dicK h k t
theorem Rel.frz1(R:Rel cl B σ w ρ S)(i:Nat):∃w',w'.H=w.H/\Fut w w'/\Rel cl B σ w' (frz1 ρ i) S:=by
 unfold S2.frz1;split
 ·rename_i d hd;have ff:=zmn (w:=w) (r:=.slot i);have kp:∀a u,w.H a=some u->w.ow a≠some (.slot i)->(w.free (.slot i)).H a=some u/\(w.free (.slot i)).ow a=w.ow a:=fun a u ha hn=>⟨ha,if_neg hn⟩
  refine ⟨w.free (.slot i),rfl,ff,⟨fun a u h=>?_,fun a r h=>?_,R.wd.len,fun n ob h=>?_⟩,by rw [List.length_set];exact R.len,fun j b e hj=>?_⟩
  ·have hne:w.ow a≠some (.slot i):=fun z=>by
    rcases R.wd.own a _ z with y | y
    ·cases y
    ·rw [h] at y;cases y
   have:=kp a u (R.wd.fr a u h).1 hne;exact ⟨this.1,this.2.trans (R.wd.fr a u h).2⟩
  ·have h':(if w.ow a=some (Root.slot i) then none else w.ow a)=some r:=h;split at h'
   ·cases h'
   ·exact R.wd.own a r h'
  ·obtain ⟨a,e,x⟩:=R.wd.obj n ob h;exact ⟨a,e,x.keep ff fun b u hb hn=>kp b u hb fun z=>by rw [z] at hn;exact hn⟩
  ·by_cases hij:i=j
   ·subst hij;have hlt:i<ρ.length:=(List.getElem?_eq_some_iff.mp hd).1;rw [List.getElem?_set_self hlt] at hj;cases hj;obtain ⟨v,e1,a,o,rfl,h1,h2,t⟩:=R.slots i true d hd;refine ⟨.ref a,e1,(t.up ff).shd h2 ?_⟩;show (if w.ow a=some (Root.slot i) then none else w.ow a)=none;rw [if_pos h1]
   ·rw [List.getElem?_set_ne hij] at hj;obtain ⟨v,e1,x⟩:=R.slots j b e hj;refine ⟨v,e1,x.keep ff fun a u ha hr=>?_⟩;have:=kp a u ha (by rw [hr];exact fun z=>hij (by cases z;rfl));exact ⟨this.1,this.2.trans hr⟩
 ·exact ⟨w,rfl,Fut.refl _,R⟩
theorem Rel.frz:∀(is:List Nat) {w:Wd} {ρ:Env},Rel cl B σ w ρ S->∃w',w'.H=w.H/\Fut w w'/\Rel cl B σ w' (frz is ρ) S
 | [],w,ρ,R=>⟨w,rfl,Fut.refl _,R⟩
 | i::is,w,ρ,R=>by
  obtain ⟨w1,e1,f1,R1⟩:=R.frz1 i;obtain ⟨w2,e2,f2,R2⟩:=Rel.frz is R1;exact ⟨w2,e2.trans e1,f1.trans f2,R2⟩
end
section
variable{X:Cx}{cl:Cf}{E:St->XK}{own:Bool}{st:Stmt}{zcf:List Stmt}{f g:Fs}{e:Expr}{fe:Fe}{pos pos':Pos}
theorem zsG(is:List Nat)(h:PS X st (tS cl E own f)):PS X st (tS cl E own (sFz is f)):=by
 refine PS.imp h ?_;rintro De σ H ⟨B,w,ρ,S,rfl,R,q⟩;obtain ⟨w',e',f',R'⟩:=R.frz is;exact ⟨B,w',frz is ρ,S,e',R',zgm.up f' q⟩
theorem zpG:PSs X [] (tS cl E own sNx):=by
 refine PSs.imp znY ?_;rintro De σ H ⟨B,w,ρ,S,rfl,R,q⟩;exact q σ w R (Fut.refl _)
theorem znF(h1:PS X st (tS cl E own f))(h2:PSs X zcf (tS cl E own g)):PSs X (st::zcf) (tS cl E own (zal f g)):=by
 refine PSs.imp (zlJ h1 h2) ?_;rintro De σ H ⟨B,w,ρ,S,rfl,R,q⟩;refine ⟨B,w,ρ,S,rfl,R,?_⟩;unfold zal at q
 cases hf:f ρ S with
 | nx ρ' S' =>
  rw [hf] at q;intro σ' w' R' F';exact ⟨B,w',ρ',S',rfl,R',zgm.up F' q⟩
 | bk ρ' S'=>rw [hf] at q;exact q
 | ct ρ' S'=>rw [hf] at q;exact q
 | rt d S'=>rw [hf] at q;exact q
 | ex c ρ' S'=>rw [hf] at q;exact q
 | bad=>rw [hf] at q;exact q
theorem znC:PS X (.Pass pos) (tS cl E own sNx):=by
 refine PS.imp zn0 ?_;rintro De σ H ⟨B,w,ρ,S,rfl,R,q⟩;exact q σ w R (Fut.refl _)
theorem zpI:PS X (.Break pos) (tS cl E own sBk):=by
 refine PS.imp zlM ?_;rintro De σ H ⟨B,w,ρ,S,rfl,R,q⟩;exact q σ w R (Fut.refl _)
theorem ztJ{i:Nat}{De:Ends}{σ:St}{H:Hp}(q:tS cl E own (zbT i false fe) De σ H):zpc (tE cl E fe) (zkJ i) De σ H:=by
 obtain ⟨B,w,ρ,S,rfl,R,q⟩:=q;refine ⟨B,w,ρ,S,rfl,R,?_⟩;unfold zbT at q
 cases hf:fe ρ S with
 | bad=>rw [hf] at q;exact q
 | exc c S1=>rw [hf] at q;exact fun w' R' F'=>q σ w' R' F'
 | ok d S1 =>
  rw [hf] at q;intro v w' R' F' h';exact q _ w' (R'.put h') F'
theorem zrJ{i:Nat}{De:Ends}{σ:St}{H:Hp}(q:tS cl E own (zbT i true fe) De σ H):zpc (tN cl E fe) (zkJ i) De σ H:=by
 obtain ⟨B,w,ρ,S,rfl,R,q⟩:=q;refine ⟨B,w,ρ,S,rfl,R,?_⟩;unfold zbT at q
 cases hf:fe ρ S with
 | bad=>rw [hf] at q;exact q
 | exc c S1=>rw [hf] at q;exact fun w' R' F'=>q σ w' R' F'
 | ok d S1 =>
  rw [hf] at q;intro p o w' R' F' hp t;exact q _ (w'.addAs p o (.slot i)) (R'.own hp t) (F'.trans (ze9 hp))
theorem zpK{i:Nat}{x:Str}(hN:X.N.Nodup)(hi:X.N[i]?=some x)(hx:Loc X.env.scope x)(he:PE X e (tE cl E fe))(hs:swapsWith e (some (.Name x pos')) pos.line X.env=pure false)(hf:X.fn x=true\/X.env.scope.names.lookup x=some .local):PS X (.Assign [.Name x pos'] e pos) (tS cl E own (zbT i false fe)) :=
 PS.imp (zmU hN hi hx he hs hf) fun _ _ _ q=>ztJ q
theorem zjA{i:Nat}{x:Str}(hN:X.N.Nodup)(hi:X.N[i]?=some x)(hx:Loc X.env.scope x)(he:PE X e (tN cl E fe))(hs:swapsWith e (some (.Name x pos')) pos.line X.env=pure false)(hf:X.fn x=true\/X.env.scope.names.lookup x=some .local):PS X (.Assign [.Name x pos'] e pos) (tS cl E own (zbT i true fe)) :=
 PS.imp (zmU hN hi hx he hs hf) fun _ _ _ q=>zrJ q
theorem zmP(he:PE X e (tE cl E fe))(hs:swapsWith e none pos.line X.env=pure false):PS X (.Expr e pos) (tS cl E own (zmS fe)):=by
 refine PS.imp (zjZ he hs) ?_;rintro De σ H ⟨B,w,ρ,S,rfl,R,q⟩;refine ⟨B,w,ρ,S,rfl,R,?_⟩;unfold zmS at q
 cases hf:fe ρ S with
 | bad=>rw [hf] at q;exact q
 | exc c S1=>rw [hf] at q;exact fun w' R' F'=>q σ w' R' F'
 | ok d S1=>rw [hf] at q;exact fun v w' R' F' _=>q σ w' R' F'
theorem zpF(he:PE X e (tE cl E fe)):PS X (.Return (some e) pos) (tS cl E false (zbn fe)):=by
 refine PS.imp (zjX he) ?_;rintro De σ H ⟨B,w,ρ,S,rfl,R,q⟩;refine ⟨B,w,ρ,S,rfl,R,?_⟩;unfold zbn at q
 cases hf:fe ρ S with
 | bad=>rw [hf] at q;exact q
 | exc c S1=>rw [hf] at q;exact fun w' R' F'=>q σ w' R' F'
 | ok d S1=>rw [hf] at q;exact fun v w' R' F' h'=>q v w' R'.wd F' h'
theorem znz(he:PE X e (tN cl E fe)):PS X (.Return (some e) pos) (tS cl E true (zbn fe)):=by
 refine PS.imp (zjX he) ?_;rintro De σ H ⟨B,w,ρ,S,rfl,R,q⟩;refine ⟨B,w,ρ,S,rfl,R,?_⟩;unfold zbn at q
 cases hf:fe ρ S with
 | bad=>rw [hf] at q;exact q
 | exc c S1=>rw [hf] at q;exact fun w' R' F'=>q σ w' R' F'
 | ok d S1 =>
  rw [hf] at q;intro p o w' R' F' hp t;have ff:=ze9 (w:=w') (p:=p) (o:=o) (r:=.slot 0) hp;exact q (.ref p) (w'.addAs p o (.slot 0)) (Rel.own (i:=0) R' hp t).wd (F'.trans ff) ⟨p,o,0,rfl,if_pos rfl,zaO,t.up ff⟩
theorem zny{i:Nat}{x:Str}(hN:X.N[i]?=some x)(hv:Vis X.env.scope x)(hd:(x == ("__debug__":Str))=false)(hcd:(x == ("__classdict__":Str))=false):PS X (.Return (some (.Name x pos')) pos) (tS cl E true (ziP i)):=by
 refine PS.imp (zjX (zeT hN hv hd hcd)) ?_;rintro De σ H ⟨B,w,ρ,S,rfl,R,q⟩;unfold ziP at q;split at q
 ·rename_i d hd;obtain ⟨v,e1,a,o,rfl,h1,h2,t⟩:=R.slots i true d hd;exact ⟨_,e1,q _ w R.wd (Fut.refl _) ⟨a,o,i,rfl,h1,h2,t⟩⟩
 ·exact q.elim
theorem znA:PS X (.Return none pos) (tS cl E false zlD):=by
 refine PS.imp znZ ?_;rintro De σ H ⟨B,w,ρ,S,rfl,R,q⟩;exact q .non w R.wd (Fut.refl _) .non
theorem zsF{c:Expr}{a b:List Stmt}{fc:Fe}(hc:PT X c (tTr cl E fc))(ha:PSs X a (tS cl E own f))(hb:PSs X b (tS cl E own g)):PS X (.If c a b pos) (tS cl E own (sIf fc f g)):=by
 refine PS.imp (zsV hc ha hb) ?_;rintro De σ H ⟨B,w,ρ,S,rfl,R,q⟩;refine ⟨B,w,ρ,S,rfl,R,?_⟩;unfold sIf at q
 cases hg:fc ρ S with
 | bad=>rw [hg] at q;exact q
 | exc c S1=>rw [hg] at q;exact fun w' R' F'=>q σ w' R' F'
 | ok d S1 =>
  rw [hg] at q;dsimp only at q ⊢
  cases hb:isB d with
  | none=>rw [hb] at q;exact q.elim
  | some b =>
   rw [hb] at q;intro w1 R1 F1
   cases b with
   | true=>exact zme ⟨B,w1,ρ,S1,rfl,R1,zgm.up F1 q⟩
   | false=>exact zmf ⟨B,w1,ρ,S1,rfl,R1,zgm.up F1 q⟩
end
def zjJ(i:Nat)(fe:Fe):Fs:=fun ρ S=>match ρ[i]? with
 | some (some (true,.lst l))=>(match fe ρ S with
  | .ok d S'=>if zbr l.length then .nx (ρ.set i (some (true,.lst (l++[d])))) S' else .bad
  | .exc c S'=>.ex c ρ S' | .bad=>.bad)
 | _=>.bad
section
variable{X:Cx}{cl:Cf}{E:St->XK}{own:Bool}{e:Expr}{fe:Fe}{pos pos':Pos}
theorem zlz{n:Nat}(h:zbr n=true):n<sizeLine:=Nat.lt_of_le_of_lt (of_decide_eq_true h) (by decide)
theorem Rel.list{B:Base}{σ:St}{w:Wd}{ρ:Env}{S:Sto}{i:Nat}{l:List D}(R:Rel cl B σ w ρ S)(h:ρ[i]?=some (some (true,.lst l))):∃a xs,σ[i]?=some (some (.ref a))/\w.ow a=some (.slot i)/\w.H a=some (.lst xs)/\Shds cl w xs l:=by
 obtain ⟨v,e1,a,o,rfl,h1,h2,t⟩:=R.slots i true _ h
 cases t with
 | lst t=>exact ⟨a,_,e1,h1,h2,t⟩
theorem zpL{i:Nat}{x:Str}{ap cp:Pos}(hN:X.N[i]?=some x)(hv:Vis X.env.scope x)(hd:(x == ("__debug__":Str))=false)(hcd:(x == ("__classdict__":Str))=false)(he:PE X e (tE cl E fe))
  (hpl:zc1 e=true) (hln:(ap.endLine == cp.line)=true):PS X (.Expr (.Call (.Attribute (.Name x pos') "append" ap) [e] [] cp) pos) (tS cl E own (zjJ i fe)):=by
 refine PS.imp (zjZ (zsY (es:=[]) PySem.F.plainAttrs_list PySem.F.slot_list_append PySem.F.type_list_append zkh (zeT hN hv hd hcd) (zd8 he zgM (zcr hpl)) (hfew:=zrm (by simp [hpl]) (by simp)) (hline:=hln) (hs:=zcr hpl) (hplain:=rfl))) ?_;rintro De σ H ⟨B,w,ρ,S,rfl,R,q⟩;unfold zjJ at q;split at q
 ·rename_i l hl;obtain ⟨a,xs,e1,h1,h2,t⟩:=R.list hl;refine ⟨_,e1,.inl ⟨rfl,_,SqL.of h2⟩,B,w,ρ,S,rfl,R,?_⟩
  cases hf:fe ρ S with
  | bad=>rw [hf] at q;exact q
  | exc c S1=>rw [hf] at q;exact fun w' R' F'=>q σ w' R' F'
  | ok d S1 =>
   rw [hf] at q;intro v w' R' F' h';dsimp only at q
   cases hz:zbr l.length with
   | false=>rw [hz,if_neg (by decide)] at q;exact q.elim
   | true =>
    rw [hz,if_pos rfl] at q;obtain ⟨a',xs',e1',h1',h2',t'⟩:=R'.list hl;rw [e1] at e1';cases e1';refine ⟨a,xs',v,rfl,rfl,h2',by rw [t'.length];exact zlz hz,?_⟩;exact q σ (w'.mut a (.lst (xs'++[v]))) (R'.mut (d0:=.non) e1 h1' (.lst (t'.append (.cons h' .nil)))) (F'.trans (zgd (by rw [h1'];exact Option.some_ne_none _)))
 ·exact q.elim
end
end S2
namespace L2
open PySem PySem.Spec PyProof.Rows
section
variable{prog:Program}{w:World}{A:Around}{E:Z5}{s:Shared}
theorem zlt{it t:Addr}{j:Nat}{vs:Array Value}{v:Value}{Q:Z5}(st:s.heap.IsTupleIter it t j)(tp:s.heap.IsTuple t vs)(e:vs[j]?=some v)
  (q:∀h',h'.IsTupleIter it t (j+1)->Heap.SameBut it s.heap h'->Q v { s with heap:=h' }):wpAny (model prog w) A (Builtin.SmallTypes.nextOf (.ref it)) Q E s:=by
 obtain ⟨o1,g1,c1,d1⟩:=id st;obtain ⟨o2,g2,_,n2,d2⟩:=tp;unfold Builtin.SmallTypes.nextOf;refine wpAny_bind (wpAny_callSpecial?_slot (name:=Str.ofString "__next__") st.typeIs F.slot_tuple_iterator_next (wpAny_call_entry F.slot_tuple_iterator_next st.typeIs F.entry_tuple_iterator_next ?_ (F.args_tuple_iterator_next_1 _)));show wpAny _ _ (field (.ref it) 0 >>= _) _ _ s;refine wpAny_bind (wpAny_field g1 d1 (x:=.ref t) rfl ?_);show wpAny _ _ (if (Value.ref t == Value.none)=true then _ else _) _ _ s;rw [if_neg (show ¬ ((Value.ref t == Value.none)=true) from fun z=>Bool.false_ne_true z)];show wpAny _ _ (field (.ref it) 1 >>= _) _ _ s;refine wpAny_bind (wpAny_field g1 d1 (x:=.int j 0) rfl ?_);show wpAny _ _ (seqItems? (.ref t) >>= _) _ _ s;refine wpAny_bind (wpAny_seqItems g2 d2 ?_);simp only [Int.toNat_natCast,e];refine wpAny_bind (wpAny_setField g1 d1 (by simp) (wpAny_pure ⟨v,rfl,wpAny_pure (q _ ?_ (Heap.SameBut.update ..))⟩));refine ⟨_,Heap.get?_update_self _ g1 (Obj.isFreed_of_fields (Obj.data_mapFields d1 _)),(Obj.cls_mapFields ..).trans c1,?_⟩;rw [Obj.data_mapFields d1];simp [rawInt]
theorem zno{it t:Addr}{j:Nat}{vs:Array Value}{Q:Z5}(hh:A.handled=none)(st:s.heap.IsTupleIter it t j)(tp:s.heap.IsTuple t vs)(e:vs[j]?=none)
  (q:∀h' x,Heap.ExtBut it s.heap h'->(∃o,h'.get? x=some o/\o.cls=.type "StopIteration")->E (.ref x) { s with heap:=h' }):wpAny (model prog w) A (Builtin.SmallTypes.nextOf (.ref it)) Q E s:=by
 obtain ⟨o1,g1,c1,d1⟩:=id st;obtain ⟨o2,g2,_,n2,d2⟩:=tp;unfold Builtin.SmallTypes.nextOf;refine wpAny_bind (wpAny_callSpecial?_slot (name:=Str.ofString "__next__") st.typeIs F.slot_tuple_iterator_next (wpAny_call_entry F.slot_tuple_iterator_next st.typeIs F.entry_tuple_iterator_next ?_ (F.args_tuple_iterator_next_1 _)));show wpAny _ _ (field (.ref it) 0 >>= _) _ _ s;refine wpAny_bind (wpAny_field g1 d1 (x:=.ref t) rfl ?_);show wpAny _ _ (if (Value.ref t == Value.none)=true then _ else _) _ _ s;rw [if_neg (show ¬ ((Value.ref t == Value.none)=true) from fun z=>Bool.false_ne_true z)];show wpAny _ _ (field (.ref it) 1 >>= _) _ _ s;refine wpAny_bind (wpAny_field g1 d1 (x:=.int j 0) rfl ?_);show wpAny _ _ (seqItems? (.ref t) >>= _) _ _ s;refine wpAny_bind (wpAny_seqItems g2 d2 ?_);simp only [Int.toNat_natCast,e];refine wpAny_bind (wpAny_rule (wpAny_bind (wpAny_setField g1 d1 (by simp) ?_)));show wpAny _ _ (newExc (.type "StopIteration") [] >>= _) _ _ _;refine wpAny_bind ?_;simp only [newExc,newTuple];refine wpAny_bind (wpAny_newObj_type ?_ (by size_fits));refine wpAny_bind (m:=firstArgMember _ _) (wpAny_of_eq (a:=Value.none) ?_ ?_)
 ·first | rfl | (simp only [firstArgMember];rfl)
 refine wpAny_newObj_type ?_ (by size_fits);simp only [raiseNew];refine wpAny_bind (wpAny_handled ?_)
 first | rw [show A.in1.handled=none from hh] | rw [hh]
 refine wpAny_bind (wpAny_pure (wpAny_throw (q _ _ (((Heap.SameBut.update ..).extBut.push _).push _) ⟨_,Heap.get?_push_size _ rfl,rfl⟩)))
theorem zkT(hh:A.handled=none)(it t:Addr)(ne:t≠it)(vs:Array Value):Draws prog w A it [it,t] vs.size (fun j v=>vs[j]?=some v) (fun j h=>h.IsTupleIter it t j/\h.IsTuple t vs) where
 live:=fun _ _ st=>by obtain ⟨⟨o,ho,_⟩,_⟩:=st;exact ⟨o,ho⟩
 frame:=fun _ _ _ st hk=>⟨st.1.at fun o e=>hk it (by simp) o e,by obtain ⟨o,ho,r⟩:=st.2;exact ⟨o,hk t (by simp) o ho,r⟩⟩
 item:=fun j s Q E hj st hQ=>zlt st.1 st.2 (v:=vs[j]) (by simp [hj]) fun h' st' sb=>hQ _ h' s.toks (by simp [hj]) ⟨st',by obtain ⟨o,ho,r⟩:=st.2;exact ⟨o,(sb.2 t ne).trans ho,r⟩⟩ sb
 done:=fun s Q E st hE=>zno hh st.1 st.2 (by simp) hE
end
section
variable{X:Cx}{pins:Z3}{σ:St}{H:Hp}{s:Shared}
theorem Inv.turnedL{t':Nat}{h':Heap}{ch:List Addr}(I:Inv X pins σ H s)(k:∀b o,b ∉ ch->s.heap.get? b=some o->h'.get? b=some o)(hf:∀b∈ch,zlp X pins H b):Inv X pins σ H { s with heap:=h',toks:=t' }:=by
 have nit:∀b u,H b=some u->b ∉ ch:=fun b u e z=>by rw [(hf b z).1] at e;cases e
 refine I.step (g':=s.gens) (d':=s.drawn) (ch:=ch) (fun b hb=>?_) (fun b o _ _ hc e _=>k b o hc e) (fun b o _ _ hc e _=>⟨o.slots,k b o hc e⟩) (fun _ _ _ _ n=>n) (fun b o hc e=>⟨o,k b o hc e⟩) (fun _ _ e=>e) (fun _ _ _ e=>e) (fun b ps e=>⟨#[],by rw [e];simp⟩) (fun m hm=>?_) (fun b u e=>?_) I.bare
 ·obtain ⟨f0,f1,f2,f3,f4,f5⟩:=hf b hb;exact ⟨f3,f1,f4,f5⟩
 ·obtain ⟨o,es,ep,ho,r⟩:=hm;exact ⟨o,es,ep,k _ o (fun z=>(hf _ z).2.1 rfl) ho,r⟩
 ·refine (I.hok b u e).stay (fun c v hc q=>k c v ?_ q) (fun _ q=>q) fun _ _ q=>q
  rcases hc with z | z
  ·rw [z];exact nit b u e
  ·exact nit c _ z
end
end L2
namespace S2
open PySem PySem.Spec PyProof.Rows L2
structure ItOk(cl:Cf)(w:Wd)(J:It)(ds:List D):Prop where
 go:∀w',Fut w w'->∀i,i<ds.length->J.go i w'.H
 stop:∀w',Fut w w'->J.stop ds.length w'.H
 yld:∀w',Fut w w'->∀i d x H',ds[i]?=some d->J.yld i w'.H x H'->∃w'',w''.H=H'/\Grow w' w''/\Shd cl w'' x d
abbrev Fi:=Env->Sto->Out (List D)
def tI(cl:Cf)(E:St->XK)(f:Fi):TI:=fun σ H R'=>∃B w ρ S,w.H=H/\Rel cl B σ w ρ S/\match f ρ S with
 | .ok ds S'=>∀J w',Rel cl B σ w' ρ S'->Fut w w'->ItOk cl w' J ds->R' J w'.H
 | .exc c S'=>∀w',Rel cl B σ w' ρ S'->Fut w w'->E σ (.ref (cl c)) none w'.H
 | .bad=>False
theorem PI.imp{X:Cx}{tg it:Expr}{t t':TI}(h:PI X tg it t)(i:∀σ H Q,t' σ H Q->t σ H Q):PI X tg it t':=fun pins s σ H Q I q=>h pins s σ H Q I (i _ _ _ q)
inductive Tg where | one (i:Nat) | tup (is:List Nat)
def zep:List Nat->List D->Env->Option Env
 | [],[],ρ=>some ρ
 | i::is,d::ds,ρ=>zep is ds (ρ.set i (some (false,d)))
 | _,_,_=>none
def Tg.put:Tg->Env->D->Option Env
 | .one i,ρ,d=>some (ρ.set i (some (false,d)))
 | .tup is,ρ,.tup ds=>zep is ds ρ
 | .tup _,_,_=>none
def tG(cl:Cf)(n:Nat)(tg:Tg):TG:=fun v σ H Q=>∃B w ρ S d ρ',w.H=H/\Rel cl B σ w ρ S/\Shd cl w v d/\tg.put ρ d=some ρ'/\∀σ',σ'.length=σ.length->σ'.drop n=σ.drop n->Rel cl B σ' w ρ' S->Q σ' w.H
theorem PG.imp{X:Cx}{tg:Expr}{t t':TG}(h:PG X tg t)(i:∀v σ H Q,t' v σ H Q->t v σ H Q):PG X tg t':=fun pins s σ H v u Q I r q=>h pins s σ H v u Q I r (i _ _ _ _ q)
def zef(tg:Tg)(body:Fs):List D->Env->Sto->Fo
 | [],ρ,S=>.nx ρ S
 | d::ds,ρ,S=>match tg.put ρ d with
  | none=>.bad
  | some ρ1=>match body ρ1 S with
   | .nx ρ' S'=>zef tg body ds ρ' S'
   | .ct ρ' S'=>zef tg body ds ρ' S'
   | .bk ρ' S'=>.nx ρ' S'
   | o=>o
def zhZ(tg:Tg)(it:Fi)(body:Fs):Fs:=fun ρ S=>match it ρ S with
 | .ok ds S'=>zef tg body ds ρ S'
 | .exc c S'=>.ex c ρ S'
 | .bad=>.bad
def zcT(c:Fe)(body:Fs):Nat->Env->Sto->Fo
 | 0,_,_=>.bad
 | n+1,ρ,S=>match c ρ S with
  | .ok d S'=>(match isB d with
   | some true=>(match body ρ S' with
    | .nx ρ' S'=>zcT c body n ρ' S'
    | .ct ρ' S'=>zcT c body n ρ' S'
    | .bk ρ' S'=>.nx ρ' S'
    | o=>o)
   | some false=>.nx ρ S'
   | none=>.bad)
  | .exc x S'=>.ex x ρ S'
  | .bad=>.bad
section
variable{X:Cx}{cl:Cf}{E:St->XK}{own:Bool}{e iter tg:Expr}{body:List Stmt}{fb:Fs}{fi:Fi}{fc:Fe}{t:Tg}{pos:Pos}
theorem ziv{α:Type}{n i:Nat}{l:List α}{a:α}(h:i<n):(l.set i a).drop n=l.drop n:=by
 refine List.ext_getElem? fun k=>?_
 rw [List.getElem?_drop,List.getElem?_drop,List.getElem?_set_ne (by omega)]
theorem zpT{n i:Nat}{x:Str}(hin:i<n)(hN:X.N.Nodup)(hi:X.N[i]?=some x)(hx:Loc X.env.scope x)(hf:X.fn x=true\/X.env.scope.names.lookup x=some .local):PG X (.Name x pos) (tG cl n (.one i)):=by
 refine PG.imp (zj5 hN hi hx hf) ?_;rintro v σ H Q ⟨B,w,ρ,S,d,ρ',rfl,R,h,hp,q⟩;cases hp;exact q _ (List.length_set ..) (ziv hin) (R.put h)
def tGs(cl:Cf)(n:Nat)(is:List Nat):TGs:=fun vs σ H Q=>∃B w ρ S ds ρ',w.H=H/\Rel cl B σ w ρ S/\Shds cl w vs ds/\zep is ds ρ=some ρ'/\∀σ',σ'.length=σ.length->σ'.drop n=σ.drop n->Rel cl B σ' w ρ' S->Q σ' w.H
theorem znK{n:Nat}:PGs X [] (tGs cl n []):=by
 intro pins s σ H vs us Q I r h;obtain ⟨B,w,ρ,S,ds,ρ',rfl,R,hs,hp,q⟩:=h
 cases hs with
 | nil =>
  cases hp;exact zn7 pins s σ w.H [] us Q I r ⟨rfl,q σ rfl rfl R⟩
 | cons _ _=>cases hp
theorem zlB{n i:Nat}{is:List Nat}{x:Str}{es:List Expr}(hin:i<n)(hN:X.N.Nodup)(hi:X.N[i]?=some x)(hx:Loc X.env.scope x)(hf:X.fn x=true\/X.env.scope.names.lookup x=some .local)(h2:PGs X es (tGs cl n is)):PGs X (.Name x pos::es) (tGs cl n (i::is)):=by
 intro pins s σ H vs us Q I r h;obtain ⟨B,w,ρ,S,ds,ρ',rfl,R,hs,hp,q⟩:=h;refine zlP (zj5 hN hi hx hf) h2 rfl pins s σ w.H vs us Q I r ?_
 cases hs with
 | nil=>cases hp
 | cons h t =>
  rename_i v d vs ds;exact ⟨v,vs,rfl,B,w,_,S,ds,ρ',rfl,R.put h,t,hp,fun σ' e1 e2=>q σ' (e1.trans (List.length_set ..)) (e2.trans (ziv hin))⟩
theorem zpS{es:List Expr}{n k:Nat}{is:List Nat}(hc:X.calm=true)(h:PGs X es (tGs cl n is))(hn:(assignEach es X.env).length=is.length)(hst:(assignEach es X.env).findIdx? (·.1)=none):PG X (.Tuple es k pos) (tG cl n (.tup is)):=by
 refine PG.imp (zqk hc h hn hst) ?_;rintro v σ H Q ⟨B,w,ρ,S,d,ρ',rfl,R,h,hp,q⟩
 cases h with
 | tup e k r =>
  have hl:∀(is:List Nat) (ds:List D) (ρ ρ':Env),zep is ds ρ=some ρ'->ds.length=is.length:=by
   intro is
   induction is with
   | nil=>intro ds ρ ρ' h;cases ds with
    | nil=>rfl
    | cons _ _=>cases h
   | cons i is ih=>intro ds ρ ρ' h;cases ds with
    | nil=>cases h
    | cons d ds=>rw [List.length_cons,List.length_cons,ih ds _ _ h]
  rename_i a xs ds;refine ⟨a,xs,rfl,SqT.of e,by rw [r.length];exact hl is ds ρ ρ' hp,B,w,ρ,S,ds,ρ',rfl,R,r,hp,q⟩
 | _=>cases hp
theorem zpH{n:Nat}(hp:PassesOwn (model X.prog X.w) X.A X.env X.xe)(hc:X.calm=true)(hi:PI X tg iter (tI cl E fi))(hg:PG X tg (tG cl n t))(hb:PSs X body (tS cl E own fb))(hs:∀x,foldedSetIterable iter X.env x=pure x):PS X (.For tg iter body [] pos) (tS cl E own (zhZ t fi fb)):=by
 refine PS.imp (zqg hp hc hi hg hb hs) ?_;rintro De σ H ⟨B,w,ρ,S,rfl,R,q⟩;refine ⟨B,w,ρ,S,rfl,R,?_⟩;unfold zhZ at q
 cases hf:fi ρ S with
 | bad=>rw [hf] at q;exact q
 | exc c S1=>rw [hf] at q;exact fun w' R' F'=>q σ w' R' F'
 | ok ds S1 =>
  rw [hf] at q;intro J w0 R0 F0 hJ;dsimp only at q;refine ⟨fun i m σ' H'=>m=ds.length-i/\i<=ds.length/\∃w1 ρ1 S2,w1.H=H'/\Fut w0 w1/\Rel cl B σ' w1 ρ1 S2/\zgm cl E own B w1 De (zef t fb (ds.drop i) ρ1 S2),⟨ds.length,by simp,Nat.zero_le _,w0,ρ,S1,rfl,Fut.refl _,R0,by rw [List.drop_zero];exact zgm.up F0 q⟩,?_⟩;rintro i m σ1 H1 ⟨rfl,hi,w1,ρ1,S2,rfl,F1,R1,q1⟩
  by_cases hlt:i<ds.length
  ·obtain ⟨d,hd⟩:∃d,ds[i]?=some d:=⟨ds[i],List.getElem?_eq_getElem hlt⟩
   have hdr:ds.drop i=d::ds.drop (i+1):=by
    rw [List.drop_eq_getElem_cons hlt];rw [List.getElem?_eq_getElem hlt] at hd;cases hd;rfl
   rw [hdr] at q1;unfold zef at q1
   cases hp1:t.put ρ1 d with
   | none=>rw [hp1] at q1;exact q1.elim
   | some ρ2 =>
    rw [hp1] at q1;dsimp only at q1;refine .inr ⟨hJ.go w1 F1 i hlt,fun σ' H'=>i+1<=ds.length/\∃w1 ρ1 S2,w1.H=H'/\Fut w0 w1/\Rel cl B σ' w1 ρ1 S2/\zgm cl E own B w1 De (zef t fb (ds.drop (i+1)) ρ1 S2),fun σ' H' h'=>⟨ds.length-(i+1),by omega,rfl,h'.1,h'.2⟩,fun x H' y=>?_⟩;obtain ⟨w2,rfl,g2,s2⟩:=hJ.yld w1 F1 i d x H' hd y;refine ⟨B,w2,ρ1,S2,d,ρ2,rfl,R1.grow g2,s2,hp1,fun σ2 _ _ R2=>⟨B,w2,ρ2,S2,rfl,R2,?_⟩⟩;have q2:=zgm.up g2.fut q1
    cases hb:fb ρ2 S2 with
    | bad=>rw [hb] at q2;exact q2
    | rt d S3=>rw [hb] at q2;exact q2
    | ex c ρ3 S3=>rw [hb] at q2;exact q2
    | bk ρ3 S3=>rw [hb] at q2;exact fun σ3 w3 R3 F3=>q2 σ3 w3 R3 F3
    | nx ρ3 S3=>rw [hb] at q2;exact fun σ3 w3 R3 F3=>⟨hlt,w3,ρ3,S3,rfl,F1.trans (g2.fut.trans F3),R3,zgm.up F3 q2⟩
    | ct ρ3 S3=>rw [hb] at q2;exact fun σ3 w3 R3 F3=>⟨hlt,w3,ρ3,S3,rfl,F1.trans (g2.fut.trans F3),R3,zgm.up F3 q2⟩
  ·have e:i=ds.length:=by omega
   subst e;rw [List.drop_length] at q1;exact .inl ⟨hJ.stop w1 F1,q1 σ1 w1 R1 (Fut.refl _)⟩
def zgC(n:Nat)(c:Fe)(body:Fs):Fs:=zcT c body n
theorem zlx{c:Expr}(n:Nat)(hp:PassesOwn (model X.prog X.w) X.A X.env X.xe)(hc:PT X c (tTr cl E fc))(hb:PSs X body (tS cl E own fb)):PS X (.While c body [] pos) (tS cl E own (zgC n fc fb)):=by
 refine PS.imp (zlK hp hc hb) ?_;rintro De σ H ⟨B,w,ρ,S,rfl,R,q⟩;refine ⟨fun m σ' H'=>∃w1 ρ1 S2,w1.H=H'/\Fut w w1/\Rel cl B σ' w1 ρ1 S2/\zgm cl E own B w1 De (zcT fc fb m ρ1 S2),⟨n,w,ρ,S,rfl,Fut.refl _,R,q⟩,?_⟩;rintro m σ1 H1 ⟨w1,ρ1,S1,rfl,F1,R1,q1⟩
 cases m with
 | zero=>exact q1.elim
 | succ m =>
  unfold zcT at q1;refine ⟨B,w1,ρ1,S1,rfl,R1,?_⟩
  cases hg:fc ρ1 S1 with
  | bad=>rw [hg] at q1;exact q1
  | exc c S2=>rw [hg] at q1;exact fun w' R' F'=>q1 σ1 w' R' F'
  | ok d S2 =>
   rw [hg] at q1;dsimp only at q1 ⊢
   cases hb:isB d with
   | none=>rw [hb] at q1;exact q1.elim
   | some b =>
    rw [hb] at q1;intro w2 R2 F2
    cases b with
    | false=>exact zmf (q1 σ1 w2 R2 F2)
    | true =>
     refine zme ⟨fun σ' H'=>∃w1 ρ1 S2,w1.H=H'/\Fut w w1/\Rel cl B σ' w1 ρ1 S2/\zgm cl E own B w1 De (zcT fc fb m ρ1 S2),fun σ' H' h'=>⟨m,Nat.lt_succ_self _,h'⟩,B,w2,ρ1,S2,rfl,R2,?_⟩;have q2:=zgm.up F2 q1;dsimp only at q2
     cases hx:fb ρ1 S2 with
     | bad=>rw [hx] at q2;exact q2
     | rt d S3=>rw [hx] at q2;exact q2
     | ex c ρ3 S3=>rw [hx] at q2;exact q2
     | bk ρ3 S3=>rw [hx] at q2;exact fun σ3 w3 R3 F3=>q2 σ3 w3 R3 F3
     | nx ρ3 S3=>rw [hx] at q2;exact fun σ3 w3 R3 F3=>⟨w3,ρ3,S3,rfl,F1.trans (F2.trans F3),R3,zgm.up F3 q2⟩
     | ct ρ3 S3=>rw [hx] at q2;exact fun σ3 w3 R3 F3=>⟨w3,ρ3,S3,rfl,F1.trans (F2.trans F3),R3,zgm.up F3 q2⟩
def zit(f:Fe):Fi:=fun ρ S=>(f ρ S).bind fun d S1=>match d with | .lst l=>.ok l S1 | _=>.bad
def zhB(f:Fe):Fi:=fun ρ S=>(f ρ S).bind fun d S1=>match d with | .tup l=>.ok l S1 | _=>.bad
theorem zjC(he:PE X e (tE cl E fc)):PI X tg e (tI cl E (zit fc)):=by
 refine PI.imp (zn6 he) ?_;rintro σ H Q ⟨B,w,ρ,S,rfl,R,q⟩;refine ⟨B,w,ρ,S,rfl,R,?_⟩;unfold zit at q
 cases hf:fc ρ S with
 | bad=>rw [hf] at q;exact q
 | exc c S1=>rw [hf] at q;exact q
 | ok d S1 =>
  rw [hf] at q;intro v w' R' F' h';dsimp only [Out.bind] at q
  cases h' with
  | lst e k r =>
   rename_i a xs ds;refine ⟨a,rfl,⟨xs,SqL.of e⟩,q _ w' R' F' ?_⟩;have hl:=r.length;refine ⟨fun w1 F1 i hi=>⟨xs,xs[i]'(by omega),SqL.of (F1.keep _ _ e k).1,List.getElem?_eq_getElem (by omega)⟩,fun w1 F1=>⟨xs,SqL.of (F1.keep _ _ e k).1,by omega⟩,fun w1 F1 i d x H1 hd y=>?_⟩;obtain ⟨rfl,hy⟩:=y;have hx:=hy xs (SqL.of (F1.keep _ _ e k).1);obtain ⟨d',e1,e2⟩:=r.get hx;rw [hd] at e1;cases e1;exact ⟨w1,rfl,Grow.refl _,e2.up F1⟩
  | _=>exact q.elim
theorem zpP(he:PE X e (tE cl E fc)):PI X tg e (tI cl E (zhB fc)):=by
 refine PI.imp (zqj he) ?_;rintro σ H Q ⟨B,w,ρ,S,rfl,R,q⟩;refine ⟨B,w,ρ,S,rfl,R,?_⟩;unfold zhB at q
 cases hf:fc ρ S with
 | bad=>rw [hf] at q;exact q
 | exc c S1=>rw [hf] at q;exact q
 | ok d S1 =>
  rw [hf] at q;intro v w' R' F' h';dsimp only [Out.bind] at q
  cases h' with
  | tup e k r =>
   rename_i a xs ds;refine ⟨a,rfl,⟨xs,SqT.of e⟩,q _ w' R' F' ?_⟩;have hl:=r.length;refine ⟨fun w1 F1 i hi=>⟨xs,xs[i]'(by omega),SqT.of (F1.keep _ _ e k).1,List.getElem?_eq_getElem (by omega)⟩,fun w1 F1=>⟨xs,SqT.of (F1.keep _ _ e k).1,by omega⟩,fun w1 F1 i d x H1 hd y=>?_⟩;obtain ⟨rfl,hy⟩:=y;have hx:=hy xs (SqT.of (F1.keep _ _ e k).1);obtain ⟨d',e1,e2⟩:=r.get hx;rw [hd] at e1;cases e1;exact ⟨w1,rfl,Grow.refl _,e2.up F1⟩
  | _=>exact q.elim
def zaC(lo hi:Int):List D:=(List.range (hi-lo).toNat).map fun (i:Nat)=>.int (lo+i)
def zdp(f:Fe):Fi:=fun ρ S=>(zan [f] ρ S).bind fun ds S1=>match ds with | [.int j]=>if -1000000<=j/\j<=1000000 then .ok (zaC 0 j) S1 else .bad | _=>.bad
def zkR(f g:Fe):Fi:=fun ρ S=>(zan [f,g] ρ S).bind fun ds S1=>match ds with | [.int i,.int j]=>if (-1000000<=i/\i<=1000000)/\-1000000<=j/\j<=1000000 then .ok (zaC i j) S1 else .bad | _=>.bad
theorem zm5{w:Wd}{lo hi:Int}{n:Nat}(hn:n=(hi-lo).toNat):ItOk cl w (Itr lo n) (zaC lo hi):=by
 subst hn
 have hl:(zaC lo hi).length=(hi-lo).toNat:=by unfold zaC;rw [List.length_map,List.length_range]
 refine ⟨fun w1 F1 i h=>by rw [hl] at h;exact h,fun w1 F1=>by rw [hl];exact Nat.le_refl _,fun w1 F1 i d x H1 hd y=>?_⟩;obtain ⟨rfl,rfl⟩:=y;unfold zaC at hd;rw [List.getElem?_map] at hd
 cases hr:(List.range (hi-lo).toNat)[i]? with
 | none=>rw [hr] at hd;cases hd
 | some j =>
  rw [hr] at hd;have:=(List.getElem?_eq_some_iff.mp hr).2;rw [List.getElem_range] at this;subst this;cases hd;exact ⟨w1,rfl,Grow.refl _,.int _⟩
theorem znI{p:Pos}(hg:Gl X "range")(hm:X.mg "range" = none)(ha:PA X [e] (tAs cl E [fc]))(hs:starEach [e] X.env=[(false,eval e X.env)]):PI X tg (.Call (.Name "range" p) [e] [] pos) (tI cl E (zdp fc)):=by
 refine PI.imp (zj4 hg hm ha hs) ?_;rintro σ H Q ⟨B,w,ρ,S,rfl,R,q⟩;refine ⟨B,w,ρ,S,rfl,R,?_⟩;unfold zdp at q
 cases hf:zan [fc] ρ S with
 | bad=>rw [hf] at q;exact q
 | exc c S1=>rw [hf] at q;exact q
 | ok ds S1 =>
  rw [hf] at q;intro vs w' R' F' h';dsimp only [Out.bind] at q;split at q
  ·rename_i ds' S' hm';split at hm'
   ·rename_i j;split at hm'
    ·rename_i hb;cases hm'
     cases h' with
     | cons h1 h2 =>
      cases h1;cases h2;exact ⟨j,rfl,by omega,by omega,q _ w' R' F' (zm5 (by omega))⟩
    ·cases hm'
   ·cases hm'
  ·rename_i hm';split at hm'<;>first | (split at hm'<;>cases hm') | cases hm'
  ·exact q.elim
theorem znH{a:Expr}{fa:Fe}{p:Pos}(hg:Gl X "range")(hm:X.mg "range" = none)(ha:PA X [a,e] (tAs cl E [fa,fc]))(hs:starEach [a,e] X.env=[(false,eval a X.env),(false,eval e X.env)])(hs2:starEach [e] X.env=[(false,eval e X.env)]):PI X tg (.Call (.Name "range" p) [a,e] [] pos) (tI cl E (zkR fa fc)):=by
 refine PI.imp (zj3 hg hm ha hs hs2) ?_;rintro σ H Q ⟨B,w,ρ,S,rfl,R,q⟩;refine ⟨B,w,ρ,S,rfl,R,?_⟩;unfold zkR at q
 cases hf:zan [fa,fc] ρ S with
 | bad=>rw [hf] at q;exact q
 | exc c S1=>rw [hf] at q;exact q
 | ok ds S1 =>
  rw [hf] at q;intro vs w' R' F' h';dsimp only [Out.bind] at q;split at q
  ·rename_i ds' S' hm';split at hm'
   ·rename_i i j;split at hm'
    ·rename_i hb;cases hm'
     cases h' with
     | cons h1 h2 =>
      cases h1
      cases h2 with
      | cons h2 h3 =>
       cases h2;cases h3;exact ⟨i,j,rfl,by omega,q _ w' R' F' (zm5 rfl)⟩
    ·cases hm'
   ·cases hm'
  ·rename_i hm';split at hm'<;>first | (split at hm'<;>cases hm') | cases hm'
  ·exact q.elim
end
end S2
namespace S2
open PySem PySem.Spec PyProof.Rows L2
def zrB(ρ:Env)(i:Nat):Option (Bool×D):=match ρ[i]? with | some (some (false,d))=>some (false,d) | _=>none
def zbX(n:Nat)(caps:List Nat)(ρ:Env):Env:=List.replicate n none++caps.map (zrB ρ)
def zet:Fe:=zaj (.bl true)
def zbY(tg:Tg)(c elt:Fe)(ρ0:Env):List D->Sto->Out (List D)
 | [],S=>.ok [] S
 | d::ds,S=>match tg.put ρ0 d with
  | none=>.bad
  | some ρ1=>(c ρ1 S).bind fun b S1=>match isB b with
   | some true=>(elt ρ1 S1).bind fun y S2=>(zbY tg c elt ρ0 ds S2).bind fun ys S3=>.ok (y::ys) S3
   | some false=>zbY tg c elt ρ0 ds S1
   | none=>.bad
def zcv(n:Nat)(tg:Tg)(it:Fi)(c elt:Fe)(caps:List Nat):Fe:=fun ρ S=>(it ρ S).bind fun ds S1=>match zbY tg c elt (zbX n caps ρ) ds S1 with
 | .ok ys S2=>if zbr ys.length then .ok (.lst ys) S2 else .bad
 | _=>.bad
abbrev noE:St->XK:=fun _ _ _ _=>False
section
variable{cl:Cf}
theorem zkC{B:Base}{σ:St}{w w1:Wd}{ρ:Env}{S S1:Sto}{n:Nat}{caps:List (Str×Nat)}(R:Rel cl B σ w ρ S){B1:Base}(W1:World' cl B1 w1 S1)(F1:Fut w w1){σ':St}(hσ:σ'.length=n+caps.length)(hc:σ'.drop n=caps.map fun p=>(σ[p.2]?).join) :
  Rel cl B1 σ' w1 (zbX n (caps.map (·.2)) ρ) S1 where
 wd:=W1
 len:=by unfold zbX;rw [hσ,List.length_append,List.length_replicate,List.length_map,List.length_map]
 slots:=fun i o d h=>by
  unfold zbX at h
  by_cases hi:i<n
  ·rw [List.getElem?_append_left (by rw [List.length_replicate];exact hi),List.getElem?_replicate] at h
   split at h<;>cases h
  ·rw [List.getElem?_append_right (by rw [List.length_replicate];omega),List.length_replicate,List.map_map,List.getElem?_map] at h
   cases hp:caps[i-n]? with
   | none=>rw [hp] at h;cases h
   | some p =>
    rw [hp] at h;have h':zrB ρ p.2=some (o,d):=Option.some.inj h;unfold zrB at h';split at h'
    ·rename_i d' hd;cases h';obtain ⟨v,e,x⟩:=R.slots p.2 false d hd;refine ⟨v,?_,Shd.up F1 x⟩;have:=congrArg (fun l=>l[i-n]?) hc;rw [List.getElem?_drop,List.getElem?_map,hp] at this;rw [show n+(i-n)=i by omega] at this;rw [this];show some ((σ[p.2]?).join)=_;rw [e];rfl
    ·cases h'
end
section
variable{X:Cx}{cl:Cf}{E:St->XK}
theorem znh{fi:Fi}{t:Tg}{fc fe:Fe}{n:Nat}{caps:List (Str×Nat)}{σ:St}{H:Hp}{Q:VK}(q:tN cl E (zcv n t fi fc fe (caps.map (·.2))) σ H Q) :
  zhU (tI cl E fi) (tG cl n t) (tTr cl noE fc) (tE cl noE fe) n caps σ H Q:=by
 obtain ⟨B,w,ρ,S,rfl,R,q⟩:=q;refine ⟨B,w,ρ,S,rfl,R,?_⟩;unfold zcv at q
 cases hf:fi ρ S with
 | bad=>rw [hf] at q;exact q
 | exc c S1=>rw [hf] at q;exact q
 | ok ds S1 =>
  rw [hf] at q;dsimp only [Out.bind] at q;intro J w0 R0 F0 hJ
  cases hcd:zbY t fc fe (zbX n (caps.map (·.2)) ρ) ds S1 with
  | bad=>rw [hcd] at q;exact q.elim
  | exc _ _=>rw [hcd] at q;exact q.elim
  | ok all Sf =>
   rw [hcd] at q;dsimp only at q
   cases hz:zbr all.length with
   | false=>rw [hz,if_neg (by decide)] at q;exact q.elim
   | true =>
    rw [hz,if_pos rfl] at q;dsimp only at q;refine ⟨fun i m ys σ' H'=>m=ds.length-i/\i<=ds.length/\σ'.length=n+caps.length/\σ'.drop n=(caps.map fun p=>(σ[p.2]?).join)/\∃w1 S2 es zcf,w1.H=H'/\Fut w0.inn w1/\World' cl w0.base w1 S2/\Shds cl w1 ys es/\zbY t fc fe (zbX n (caps.map (·.2)) ρ) (ds.drop i) S2=.ok zcf Sf/\es++zcf=all,⟨ds.length,by simp,Nat.zero_le _,by simp [capσ],by simp [capσ],w0.inn,S1,[],all,rfl,Fut.refl _,R0.wd.enter,.nil,by rw [List.drop_zero];exact hcd,rfl⟩,?_⟩;rintro i m ys σ1 H1 ⟨rfl,hi,hl1,hd1,w1,S2,es,zcf,rfl,F1,W1,sh,hrest,hall⟩;refine ⟨?_,?_⟩
    ·rw [sh.length];refine Nat.le_trans ?_ (zbj hz);rw [<-hall,List.length_append];omega
    have F1':Fut w0 w1:=(zct w0).trans F1
    by_cases hlt:i<ds.length
    ·obtain ⟨d,hdi⟩:∃d,ds[i]?=some d:=⟨ds[i],List.getElem?_eq_getElem hlt⟩
     have hdr:ds.drop i=d::ds.drop (i+1):=by
      rw [List.drop_eq_getElem_cons hlt];rw [List.getElem?_eq_getElem hlt] at hdi;cases hdi;rfl
     rw [hdr] at hrest;unfold zbY at hrest;refine .inr ⟨hJ.go w1 F1' i hlt,fun x H' y=>?_⟩;obtain ⟨w2,rfl,g2,s2⟩:=hJ.yld w1 F1' i d x H' hdi y;have R1:Rel cl w0.base σ1 w2 (zbX n (caps.map (·.2)) ρ) S2:=zkC R0 (W1.grow g2) (F1'.trans g2.fut) hl1 hd1
     cases hp:t.put (zbX n (caps.map (·.2)) ρ) d with
     | none=>rw [hp] at hrest;cases hrest
     | some ρ1 =>
      rw [hp] at hrest;dsimp only at hrest;refine ⟨w0.base,w2,_,S2,d,ρ1,rfl,R1,s2,hp,fun σ2 hk1 hk2 R2=>⟨w0.base,w2,ρ1,S2,rfl,R2,?_⟩⟩
      cases hc:fc ρ1 S2 with
      | bad=>rw [hc] at hrest;cases hrest
      | exc _ _=>rw [hc] at hrest;cases hrest
      | ok b S3 =>
       rw [hc] at hrest;dsimp only [Out.bind] at hrest ⊢
       cases hb:isB b with
       | none=>rw [hb] at hrest;cases hrest
       | some bb =>
        rw [hb] at hrest;intro w3 R3 F3
        cases bb with
        | false=>exact zmf ⟨ds.length-(i+1),by omega,rfl,hlt,hk1.trans hl1,hk2.trans hd1,w3,S3,es,zcf,rfl,F1.trans (g2.fut.trans F3),R3.wd,sh.up (g2.fut.trans F3),hrest,hall⟩
        | true =>
         refine zme ⟨w0.base,w3,ρ1,S3,rfl,R3,?_⟩;dsimp only at hrest
         cases he:fe ρ1 S3 with
         | bad=>rw [he] at hrest;cases hrest
         | exc _ _=>rw [he] at hrest;cases hrest
         | ok yv S4 =>
          rw [he] at hrest;dsimp only at hrest
          cases hr:zbY t fc fe (zbX n (caps.map (·.2)) ρ) (ds.drop (i+1)) S4 with
          | bad=>rw [hr] at hrest;cases hrest
          | exc _ _=>rw [hr] at hrest;cases hrest
          | ok zs S5 =>
           rw [hr] at hrest;cases hrest;intro v w4 R4 F4 h4;have ff:=g2.fut.trans (F3.trans F4);exact ⟨ds.length-(i+1),by omega,rfl,hlt,hk1.trans hl1,hk2.trans hd1,w4,S4,es++[yv],zs,rfl,F1.trans ff,R4.wd,(sh.up ff).append (.cons h4 .nil),hr,by rw [<-hall,List.append_assoc];rfl⟩
    ·have e:i=ds.length:=by omega
     subst e;rw [List.drop_length] at hrest;cases hrest;rw [List.append_nil] at hall;subst hall;refine .inl ⟨hJ.stop w1 F1',fun p hp=>?_⟩;obtain ⟨Rb,Fb⟩:=R0.leave W1 F1;exact q p (.lst ys) (w0.back w1) Rb (F0.trans Fb) hp (.lst (sh.up (zdi W1)))
end
end S2
namespace L2
open PySem PySem.Spec PyProof.Rows
section
variable{X:Cx}
end
end L2
namespace L2
open PySem PySem.Spec PyProof.Rows
def CXE(P:Program)(w:World):CXT:=fun outer H s E e s'=>∃(a:Addr) (cls a0:Value) (H':Hp) (B:Heap),e=.ref a/\Heap.FlyingW B outer a cls a0 s'.heap ∧
 (∀b o,s'.heap.get? b=some o->H' b≠none->B.get? b=some o)/\(∀b o,s.heap.get? b=some o->H b=none->b ∉ frs outer->B.get? b=some o) ∧
 (∀b o,s.heap.get? b=some o->b ∉ frs outer->∃o',B.get? b=some o') ∧
 s'.os=s.os/\AllBare s'.gens/\Un (frs outer) [] H H' s.heap s'.heap/\HOk P w H' s'.heap/\E cls none H'
theorem zbZ.has{P:Program}{w:World}{H:Hp}{h:Heap}{a:Addr}{o:HO}(x:zbZ P w H h a o):∃ob,h.get? a=some ob:=by
 cases o with
 | lst xs=>obtain ⟨_,_,_,_,e⟩:=x;exact ⟨_,e⟩
 | tup xs=>obtain ⟨_,_,_,ob,e,_⟩:=x;exact ⟨_,e⟩
 | dK kvs=>obtain ⟨_,_,_,_,o,_,_,e,_⟩:=x;exact ⟨_,e⟩
 | dT kvs=>obtain ⟨_,_,_,_,o,_,_,e,_⟩:=x;exact ⟨_,e⟩
 | set S n=>obtain ⟨o,_,_,_,e,_⟩:=x;exact ⟨_,e⟩
 | ins C dx fs=>obtain ⟨_,_,_,e,_⟩:=x;exact ⟨_,e⟩
 | own y=>exact x
 | xd fs=>obtain ⟨_,⟨_,_,_,e,_⟩,_⟩:=x;exact ⟨_,e⟩
 | rng lo hi=>obtain ⟨_,_,_,e⟩:=x;exact ⟨_,e⟩
 | frz ob u=>obtain ⟨e,_⟩:=x;exact ⟨_,e⟩
 | tbl ps=>exact ⟨_,(show h.get? a=some _ from x)⟩
 | met f y=>exact ⟨_,(show h.get? a=some _ from x)⟩
 | ext φ=>obtain ⟨_,e,_⟩:=x;exact e
theorem HOk.same{P:Program}{w:World}{H:Hp}{h h':Heap}(x:HOk P w H h)(k:∀b u,h.get? b=some u->H b≠none->h'.get? b=some u):HOk P w H h':=fun a o e =>
 (x a o e).stay (fun b u hb q=>k b u q (hb.elim (fun z=>by rw [z,e];exact Option.some_ne_none _) (fun z=>by rw [z];exact Option.some_ne_none _))) (fun _ q=>q) fun _ _ q=>q
section
variable{X:Cx}{pins:Z3}{σ:St}{H:Hp}{s:Shared}{M:Model}
theorem zmo(l:List Env):∀env∈l,∀b,env.frame=some b->b∈frs l:=fun env he b hb=>List.mem_filterMap.mpr ⟨env,he,hb⟩
theorem ziZ{h':Heap}{e:Addr}{cls:Value}{vs:List Value}{E:XK}{Er:Z5}(I:Inv X pins σ H s)(hx:X.ex=[])(hs:X.stack=X.env::X.outer)(hf:X.env.frame=some X.env.locals)(mk:Heap.MadeExcOf s.heap h' e cls vs)(q:E cls none H) :
  wpAny M X.A (leaving X.env (.ref e)) (fun _ s''=>CXE X.prog X.w X.outer X.H₀ X.s₀ E (.ref e) s'') Er { s with heap:=h' }:=by
 have hfr:X.A.frames=some (X.env::X.outer):=by rw [<-hs];exact I.ok.frames
 have hst:s.heap.FunFrames X.base (X.env::X.outer):=by rw [<-hs];exact I.stack
 refine wpAny_leaves_madeW (base:=PySem.W.hideAll s.heap (frs (X.env::X.outer))) hfr hf (fun b o z=>PySem.W.of_hideAll _ z) (PySem.W.funFrames_hide hst (zmo _)) mk fun h2 t fl tup _ up=>?_
 have inB:∀b o,s.heap.get? b=some o->b ∉ frs (X.env::X.outer)->(PySem.W.hideAll s.heap (frs (X.env::X.outer))).get? b=some o:=fun b o z n=>PySem.W.hideAll_get _ z n
 have sub:∀b,b∈frs (X.env::X.outer)->b=X.env.locals\/b∈X.fs:=fun b hb=>by
  rw [<-hs] at hb;exact List.mem_cons.mp (I.stkSub b hb)
 have fre:∀b,b∈frs (X.env::X.outer)->H b=none:=fun b hb=>by rw [<-hs] at hb;exact I.stkFree b hb
 have old:∀b o,X.s₀.heap.get? b=some o->b ∉ frs X.outer->b ∉ frs (X.env::X.outer):=fun b o z n hb=>by
  rcases sub b hb with r | r
  ·exact absurd (Nat.lt_of_lt_of_le (Heap.lt_size z) I.ok.above) (by rw [r];exact Nat.lt_irrefl _)
  ·exact n r
 have nx:∀b:Addr,b ∉ X.ex:=fun b z=>by rw [hx] at z;cases z
 have trk:∀b o,s.heap.get? b=some o->H b≠none->h2.get? b=some o:=fun b o z n=>fl.1 b o (inB b o z fun hb=>n (fre b hb))
 have hok2:HOk X.prog X.w H h2:=I.hok.same trk
 have slt:∀b o,s.heap.get? b=some o->b∈frs X.stack->∃sl,h2.get? b=some { o with slots:=sl }:=fun b o z hb=>by
  obtain ⟨_,o',z',hd⟩:=I.stack.mem hb;rw [z] at z';cases z';exact up b o (mk.keeps b o z) hd
 have un2:Un (frs X.stack) [] H H s.heap h2:=⟨fun b o z n hb _=>fl.1 b o (inB b o z (by rw [<-hs];exact hb)),fun b o z n hb _=>slt b o z hb,fun b o z n _=>n,
  fun b o z _=>by
   by_cases hb:b∈frs X.stack
   ·obtain ⟨sl,r⟩:=slt b o z hb;exact ⟨_,r⟩
   ·exact ⟨o,fl.1 b o (inB b o z (by rw [<-hs];exact hb))⟩,
  fun _ _ z=>z,fun _ _ _ z=>z,fun _ ps z=>⟨#[],by rw [z,Array.append_empty]⟩⟩
 have J:=I.call (g':=s.gens) (t':=s.toks) (d':=s.drawn) (ch:=[]) un2 hok2 I.bare (fun b z=>absurd z (by simp));refine ⟨e,cls,.ref t,H,_,rfl,fl,fun b o z n=>?_,fun b o z n hb=>?_,fun b o z hb=>?_,J.os,J.bare,?_,J.hok,q⟩
 ·cases k:H b with
  | none=>exact absurd k n
  | some u =>
   obtain ⟨o',z'⟩:=(I.hok b u k).has;have:=trk b o' z' n;rw [show h2.get? b=some o from z] at this;cases this;exact inB b o z' fun hb=>n (fre b hb)
 ·exact inB b o (I.base.keep b o z n hb (nx b)) (old b o z hb)
 ·obtain ⟨o',z'⟩:=I.base.there b o z (nx b);exact ⟨o',inB b o' z' (old b o z hb)⟩
 ·have:=J.base;rw [hx] at this;exact this
theorem zl7{e:Value}{s':Shared}{E:XK}{Er:Z5}(I:Inv X pins σ H s)(hx:X.ex=[])(hs:X.stack=X.env::X.outer)(hf:X.env.frame=some X.env.locals)(q:CXE X.prog X.w X.stack H s E e s') :
  wpAny M X.A (leaving X.env e) (fun _ s''=>CXE X.prog X.w X.outer X.H₀ X.s₀ E e s'') Er s':=by
 have hfr:X.A.frames=some (X.env::X.outer):=by rw [<-hs];exact I.ok.frames
 obtain ⟨a,cls,a0,H',B,rfl,fl,c1,c2,c3,os,bare,un,hok,q⟩:=q
 have fl':Heap.FlyingW B (X.env::X.outer) a cls a0 s'.heap:=by rw [<-hs];exact fl
 refine wpAny_leaves_onW hfr hf fl' fun h2 fl2 up=>?_
 have sub:∀b,b∈frs X.stack->b=X.env.locals\/b∈X.fs:=fun b hb=>List.mem_cons.mp (I.stkSub b hb)
 have old:∀b o,X.s₀.heap.get? b=some o->b ∉ frs X.outer->b ∉ frs X.stack:=fun b o z n hb=>by
  rcases sub b hb with r | r
  ·exact absurd (Nat.lt_of_lt_of_le (Heap.lt_size z) I.ok.above) (by rw [r];exact Nat.lt_irrefl _)
  ·exact n r
 have nx:∀b:Addr,b ∉ X.ex:=fun b z=>by rw [hx] at z;cases z
 have trk:∀b o,s'.heap.get? b=some o->H' b≠none->h2.get? b=some o:=fun b o z n=>fl2.1 b o (c1 b o z n)
 have hok2:HOk X.prog X.w H' h2:=hok.same trk
 have slt:∀b o,s.heap.get? b=some o->H b=none->b∈frs X.stack->∃sl,h2.get? b=some { o with slots:=sl }:=fun b o z n hb=>by
  obtain ⟨_,o',z',hd⟩:=I.stack.mem hb;rw [z] at z';cases z';obtain ⟨sl,r⟩:=un.slot b o z n hb (by simp);obtain ⟨sl',r'⟩:=up b ({ o with slots:=sl }:Obj) r hd;exact ⟨sl',r'⟩
 have un2:Un (frs X.stack) [] H H' s.heap h2:=⟨fun b o z n hb _=>fl2.1 b o (c2 b o z n hb),fun b o z n hb _=>slt b o z n hb,un.free,
  fun b o z _=>by
   by_cases hb:b∈frs X.stack
   ·obtain ⟨sl,r⟩:=slt b o z (I.stkFree b hb) hb;exact ⟨_,r⟩
   ·obtain ⟨o',r⟩:=c3 b o z hb
    exact ⟨o',fl2.1 b o' r⟩,
  un.tups,un.frzs,un.tbls⟩
 have J:=I.call (g':=s'.gens) (t':=s'.toks) (d':=s'.drawn) (ch:=[]) un2 hok2 bare (fun b z=>absurd z (by simp));refine ⟨a,cls,a0,H',B,rfl,fl2,fun b o z n=>?_,fun b o z n hb=>?_,fun b o z hb=>?_,os.trans I.os,bare,?_,J.hok,q⟩
 ·cases k:H' b with
  | none=>exact absurd k n
  | some u =>
   obtain ⟨o',z'⟩:=(hok b u k).has;have:=trk b o' z' n;rw [show h2.get? b=some o from z] at this;cases this;exact c1 b o z' n
 ·exact c2 b o (I.base.keep b o z n hb (nx b)) (I.base.free b o z n (nx b)) (old b o z hb)
 ·obtain ⟨o',z'⟩:=I.base.there b o z (nx b);exact c3 b o' z' (old b o z hb)
 ·have:=J.base;rw [hx] at this;exact this
end
theorem zqx{P:Program}{w:World}{K:PySem.W.Frag}{mg:Z6}{base:Heap}{N:List Str}{qual:Str}{scope:Scope}{f:Addr}{cd:Value}{A:Around}{outer:List Env}{s:Shared}{H:Hp}{E:XK} :
  zrM (CXE P w) (zkU (CXE P w) P w K mg base N qual scope f cd A outer s H E) E:=fun pins σ H1 s1 e s' I q =>
 zl7 (X:=zkU (CXE P w) P w K mg base N qual scope f cd A outer s H E) I rfl rfl rfl q
theorem zoK{K:PySem.W.Frag}{h:Heap}{C:Addr}{bmB:List Value}{nid:String}(k:K.In h)(z:PySem.W.excIn K C bmB nid=true) :
  ∃bm N nm qn bs hd sn sub ab col dd c0 c1 c2 c3 c5 mN,h.get? C=some (excClassObj nm qn C N bs bm hd sn sub ab col dd c0 c1 c2 c3 c5 nid)/\h.Ns N mN/\mN "__init__" = none/\OwnTail h bmB bm:=by
 unfold PySem.W.excIn at z;split at z
 case h_2=>cases z
 case h_1 dd cd sl ho =>
  split at z
  case h_2=>cases z
  case h_1 D bm c0 c1 c2 c3 n c5 e1 e2 =>
   simp only [Bool.and_eq_true,beq_iff_eq,Bool.not_eq_true'] at z;obtain ⟨⟨⟨⟨⟨z1,z2⟩,z3⟩,z4⟩,z5⟩,z6⟩:=z;subst z1 z2
   have hsl:sl=#[c0,c1,c2,c3,some (.builtin n),c5]:=by
    cases sl with
    | mk l=>exact congrArg Array.mk e2
   have hcd:cd={ cd with mro:=.ref D::bm,hasDel:=false }:=by
    cases cd;simp only at e1 z3;simp only [e1,z3]
   rw [hsl,hcd] at ho;exact ⟨bm,cd.ns,cd.name,_,cd.bases,_,_,_,_,_,dd,c0,c1,c2,c3,c5,_,k _ _ ho,.of_isNs (PySem.W.isNs_of_in k z5),PySem.W.nsMap_none_of_in k z5 z6,PySem.W.tail_of_in k z4⟩
def zrL(X:Cx)(E:XK):Prop:=∀(C:Addr) (pins:Z3) (σ:St) (H:Hp) (s:Shared) (e:Addr) (h':Heap) (vs:List Value),Inv X pins σ H s->Heap.MadeExcOf s.heap h' e (.ref C) vs->E (.ref C) none H->X.xe (.ref e) { s with heap:=h' }
theorem zjT{P:Program}{w:World}{K:PySem.W.Frag}{mg:Z6}{base:Heap}{N:List Str}{qual:Str}{scope:Scope}{f:Addr}{cd:Value}{A:Around}{outer:List Env}{s:Shared}{H:Hp}{E:XK} :
  zrL (zkU (CXE P w) P w K mg base N qual scope f cd A outer s H E) E:=fun C pins σ H1 s1 e h' vs I mk q =>
 ziZ (X:=zkU (CXE P w) P w K mg base N qual scope f cd A outer s H E) I rfl rfl rfl mk q
end L2
namespace L2
open PySem PySem.Spec PyProof.Rows
def XP(X:Cx)(pins:Z3)(σ:St)(E:XK)(e:Value)(s':Shared):Prop:=∃H1 s1,Inv X pins σ H1 s1/\CXE X.prog X.w X.stack H1 s1 E e s'
section
variable{X:Cx}{k:Nat}{f C:Addr}{fd:FuncData}{ps:List Str}{sp:Sp}{dvs:List V}{ds:List Value}{x m:Str}{p pos apos:Pos}{e o:Expr}{es:List Expr}{ta:TE}{t:TA}
end
end L2
namespace L2
open PySem PySem.Spec PyProof.Rows
section
variable{X:Cx}{pins:Z3}{σ:St}{H:Hp}{s:Shared}
end
end L2
namespace L2
open PySem PySem.Spec PyProof.Rows
section
variable{X:Cx}{pins:Z3}{σ:St}{H H':Hp}{s s':Shared}{B h2:Heap}{a:Addr}{cls a0:Value}
abbrev Cx.inH(X:Cx)(a:Addr):Cx:={ X with A:=X.A.mark (some (.ref a)),calm:=false,xe:=fun _ _=>False }
end
def zo9(K:PySem.W.Frag)(C D:Addr):Prop:=(∃bC iC,PySem.W.excIn K C bC iC=true)/\∃cd d cl sl,K.lookup C=some ⟨cl,d,.cls cd,sl⟩/\cd.mro.contains (.ref D)=true
def Ends.goes(D:Ends)(i:Nat):Ends:={ nx:=fun σ H=>D.nx (σ.set i none) H,rt:=D.rt,bk:=fun σ H=>D.bk (σ.set i none) H,ct:=fun σ H=>D.ct (σ.set i none) H }
end L2
namespace PySem.W
open PySem
structure ExcCls(K:Frag)(C:Addr):Prop where
 ga:findIn K (.ref C) "__getattribute__" = some (some (.builtin "BaseException.__getattribute__"))
 gt:findIn K (.ref C) "__getattr__" = some none
 cl:findIn K (.ref C) "__class__" = some (some (.builtin "object.__class__"))
 ob:subIn K (.ref C) (.type "object")=some true
 be:subIn K (.ref C) (.type "BaseException")=some true
 is:∃c d cd sl,K.lookup C=some ⟨c,d,.cls cd,sl⟩
section
variable{prog:Program}{w:World}{A:Around}{E:Z5}{h:Heap}{g:Array GenState}{d:Drawn}{t:Nat}{os:OsState}{a C:Addr}{o:Obj}{K:Frag}
end
end PySem.W
namespace PySem.W
open PySem
section
variable{prog:Program}{w:World}{A:Around}{E:Z5}{h:Heap}{g:Array GenState}{d:Drawn}{t:Nat}{os:OsState}{a C:Addr}{o:Obj}{K:Frag}
end
end PySem.W
namespace L2
open PySem PySem.Spec PyProof.Rows
end L2
namespace L2
open PySem PySem.Spec PyProof.Rows PySem.SeqAt
section
variable{X:Cx}
end
end L2
namespace L2
open PySem PySem.Spec PyProof.Rows
theorem zh4(ns:List Int):∀j,j<=ns.length->preSum (fun i=>ns.getD i 0) j=(ns.take j).sum
 | 0,_=>by rw [List.take_zero];rfl
 | j+1,h=>by
  have ih:=zh4 ns j (by omega);show preSum _ j+ns.getD j 0=_
  have e:ns.take (j+1)=ns.take j++[ns[j]]:=by rw [List.take_add_one,List.getElem?_eq_getElem (by omega)];rfl
  have e2:ns.getD j 0=ns[j]:=by simp [List.getD,show j<ns.length by omega]
  rw [ih,e,e2,List.sum_append];simp
theorem zgH(ns:List Int)(h:∀n∈ns,0<=n/\n<=1000000):∀j,j<=ns.length->0<=preSum (fun i=>ns.getD i 0) j/\preSum (fun i=>ns.getD i 0) j<=1000000*(j:Int)
 | 0,_=>⟨Int.le_refl _,Int.le_refl _⟩
 | j+1,hj=>by
  have ih:=zgH ns h j (by omega)
  have e:ns.getD j 0=ns[j]:=by simp [List.getD,show j<ns.length by omega]
  have hb:=h ns[j] (List.getElem_mem (by omega));show 0<=preSum _ j+ns.getD j 0/\preSum _ j+ns.getD j 0<=_;rw [e]
  push_cast
  omega
section
variable{X:Cx}
theorem zmB(hc:X.calm=true):zd4 X (.builtin "sum") (fun xs H Q=>∃(p:Addr) (ns:List Int),xs=[.ref p]/\SqL X.K H p (ns.map V.int)/\ns.length<=1000/\(∀n∈ns,0<=n/\n<=1000000)/\Q (.int ns.sum) H):=by
 intro pins s σ H xs us Q I r h;obtain ⟨p,ns,rfl,hq,hl1000,hb,q⟩:=h;obtain ⟨u,rfl,rx⟩:=zgq r;cases rx;obtain ⟨its,rv,pl,hz⟩:=I.list hq;have hl:=pl.isList
 have hlt:p<s.heap.objs.size:=by obtain ⟨_,e,_⟩:=hl;exact Heap.lt_size e
 have hn:its.length=ns.length:=by have:=rv.length;rw [List.length_map] at this;exact this.symm
 refine call_sum_walk (wpAny_pyIter_list hl ?_);refine ⟨s.heap.objs.size,[s.heap.objs.size,p],[s.heap.objs.size],its.toArray.size,_,_,fun i=>ns.getD i 0,rfl,Walks.list (A:=X.A.in1) (I.ok.hd hc) _ p (Nat.ne_of_lt hlt) its.toArray,⟨⟨_,Heap.get?_push_size _ rfl,rfl,rfl⟩,hl.push _⟩,fun b hm=>?_,fun i v hP=>?_,fun j hj=>?_,fun h' tk t' hk=>?_⟩
 ·show b<(s.heap.push _).objs.size;rw [Heap.size_push];simp only [List.mem_cons,List.not_mem_nil,or_false] at hm
  rcases hm with z | z
  ·rw [z];exact Nat.lt_succ_self _
  ·rw [z];exact Nat.lt_succ_of_lt hlt
 ·have hv:its[i]?=some v:=by simpa using hP
  have hi:i<ns.length:=by rw [<-hn];exact (List.getElem?_eq_some_iff.mp hv).1
  obtain ⟨u,hu,ru⟩:=rv.get (i:=i) (x:=.int ns[i]) (by rw [List.getElem?_map,List.getElem?_eq_getElem hi];rfl);rw [hv] at hu;cases hu;obtain ⟨t,rfl⟩:=ru;exact ⟨t,by simp [List.getD,hi]⟩
 ·rw [List.size_toArray,hn] at hj;have h1:=zgH ns hb (j+1) hj
  have e:ns.getD j 0=ns[j]:=by simp [List.getD,hj]
  have h2:=hb ns[j] (List.getElem_mem hj);refine ⟨?_,?_⟩
  ·show InLong (ns.getD j 0);rw [e];exact ⟨by omega,by omega⟩
  ·have:((j+1:Nat):Int)<=1000:=by omega
   exact ⟨by omega,by omega⟩
 ·rw [List.size_toArray,hn,zh4 ns ns.length (Nat.le_refl _),List.take_length];refine ⟨.int _,H,I.kept (t':=tk) fun b o e=>?_,⟨t',rfl⟩,q⟩;exact hk b o (fun hm=>by rw [List.mem_singleton.mp hm] at e;exact Nat.lt_irrefl _ (Heap.lt_size e)) (Heap.get?_push_of_some _ e)
end
end L2
namespace S2
open PySem PySem.Spec PyProof.Rows L2
mutual
def D.py:D->PyData
 | .non=>.none
 | .bl b=>.bool b
 | .int i=>.int i
 | .str x=>.str x
 | .tup l=>.tuple (D.pys l)
 | .lst l=>.list (D.pys l)
 | .scr l=>.list (l.map PyData.int)
 | .dic _=>.none
 | .ref _=>.none
 | .exc _=>.none
def D.pys:List D->List PyData
 | []=>[]
 | d::l=>d.py::D.pys l
end
mutual
def D.fit:Nat->D->Bool
 | _,.non=>true
 | _,.bl _=>true
 | _,.int _=>true
 | _,.str x=>PyData.strOk x
 | 0,.tup _=>false
 | n+1,.tup l=>D.fits n l
 | 0,.lst _=>false
 | n+1,.lst l=>D.fits n l
 | 0,.scr _=>false
 | _+1,.scr _=>true
 | _,.dic _=>false
 | _,.ref _=>false
 | _,.exc _=>false
def D.fits:Nat->List D->Bool
 | _,[]=>true
 | n,d::l=>d.fit n&&D.fits n l
end
theorem D.fits_iff{n:Nat}:∀{l:List D},D.fits n l=true↔∀d∈l,d.fit n=true
 | []=>by simp [D.fits]
 | d::l=>by simp [D.fits,D.fits_iff (l:=l)]
theorem zil:∀(l:List Int),PyData.canLayAll0 (l.map PyData.int)=true/\PyData.depthAll (l.map PyData.int)=0
 | []=>⟨rfl,rfl⟩
 | i::l=>by
  obtain ⟨a,b⟩:=zil l;exact ⟨by simp [PyData.canLayAll0,PyData.canLay0,a],by simp [PyData.depthAll,PyData.depth,b]⟩
mutual
theorem D.lay:∀{n:Nat} {d:D},d.fit n=true->d.py.canLay0=true/\d.py.depth<=n
 | _,.non,_=>⟨rfl,Nat.zero_le _⟩
 | _,.bl _,h=>⟨rfl,Nat.zero_le _⟩
 | _,.int _,_=>⟨rfl,Nat.zero_le _⟩
 | _,.str x,h=>⟨by simpa [D.fit,D.py,PyData.canLay0] using h,Nat.zero_le _⟩
 | 0,.tup _,h=>by simp [D.fit] at h
 | 0,.lst _,h=>by simp [D.fit] at h
 | 0,.scr _,h=>by simp [D.fit] at h
 | n+1,.scr l,h=>by
  obtain ⟨a,b⟩:=zil l;exact ⟨by simpa [D.py,PyData.canLay0] using a,by simp only [D.py,PyData.depth];omega⟩
 | _,.dic _,h=>by simp [D.fit] at h
 | _,.ref _,h=>by simp [D.fit] at h
 | _,.exc _,h=>by simp [D.fit] at h
 | n+1,.tup l,h=>by
  have h':D.fits n l=true:=by simpa [D.fit] using h
  obtain ⟨a,b⟩:=D.lays h';exact ⟨by simpa [D.py,PyData.canLay0] using a,by simp only [D.py,PyData.depth];omega⟩
 | n+1,.lst l,h=>by
  have h':D.fits n l=true:=by simpa [D.fit] using h
  obtain ⟨a,b⟩:=D.lays h';exact ⟨by simpa [D.py,PyData.canLay0] using a,by simp only [D.py,PyData.depth];omega⟩
theorem D.lays:∀{n:Nat} {l:List D},D.fits n l=true->PyData.canLayAll0 (D.pys l)=true/\PyData.depthAll (D.pys l)<=n
 | _,[],_=>⟨rfl,Nat.zero_le _⟩
 | n,d::l,h=>by
  simp only [D.fits,Bool.and_eq_true] at h;obtain ⟨a,b⟩:=D.lay h.1;obtain ⟨c,e⟩:=D.lays h.2;exact ⟨by simp [D.pys,PyData.canLayAll0,a,c],by simp only [D.pys,PyData.depthAll];omega⟩
end
section
variable{X:Cx}{cl:Cf}{w:Wd}
theorem TopV.lstI{v:V}{ds:List D}(h:TopV cl w v (.lst ds)):∃a xs,v=.ref a/\w.H a=some (.lst xs)/\Shds cl w xs ds:=by
 cases h with
 | sh h=>cases h with
  | lst e k r=>exact ⟨_,_,rfl,e,r⟩
 | ow e t=>cases t with
  | lst r=>exact ⟨_,_,rfl,e,r⟩
theorem TopV.tupI{v:V}{ds:List D}(h:TopV cl w v (.tup ds)):∃a xs,v=.ref a/\w.H a=some (.tup xs)/\w.ow a=none/\Shds cl w xs ds:=by
 cases h with
 | sh h=>cases h with
  | tup e k r=>exact ⟨_,_,rfl,e,k,r⟩
 | ow e t=>cases t
theorem TopV.intI{v:V}{i:Int}(h:TopV cl w v (.int i)):v=.int i:=by
 cases h with
 | sh h=>cases h;rfl
 | ow e t=>cases t
theorem TopV.strI{v:V}{i:Str}(h:TopV cl w v (.str i)):v=.str i:=by
 cases h with
 | sh h=>cases h;rfl
 | ow e t=>cases t
theorem TopV.blI{v:V}{i:Bool}(h:TopV cl w v (.bl i)):v=.bl i:=by
 cases h with
 | sh h=>cases h;rfl
 | ow e t=>cases t
theorem TopV.nonI{v:V}(h:TopV cl w v .non):v=.non:=by
 cases h with
 | sh h=>cases h;rfl
 | ow e t=>cases t
theorem Shd.scrI{v:V}{l:List Int}(hK:X.K=cl.K)(h:Shd cl w v (.scr l)):∃a,v=.ref a/\SqL X.K w.H a (l.map V.int):=by
 cases h with
 | scr e k=>exact ⟨_,rfl,.inl (.inr ⟨_,e⟩)⟩
 | scrK h=>exact ⟨_,rfl,by rw [hK];exact h _⟩
theorem TopV.scrI{v:V}{l:List Int}(hK:X.K=cl.K)(h:TopV cl w v (.scr l)):∃a,v=.ref a/\SqL X.K w.H a (l.map V.int):=by
 cases h with
 | sh h=>exact h.scrI hK
 | ow e t=>cases t
theorem zh1{pins:Z3}{σ:St}{s:Shared}(I:Inv X pins σ w.H s)(hK:X.K=cl.K){v:V}{l:List Int}(h:Shd cl w v (.scr l)){u:Value}(r:zbp v u):∃as,Reads s.heap u (D.scr l).py as:=by
  obtain ⟨a,rfl,hq⟩:=h.scrI hK;cases r;obtain ⟨its,rv,p,_⟩:=I.list hq;obtain ⟨o,ho,hc,n,hd⟩:=id p.isList
  have go:∀{l:List Int} {us:List Value},Vals (l.map V.int) us->∃as,ReadsAll s.heap us (l.map PyData.int) as:=by
   intro l
   induction l with
   | nil=>intro us h;cases h;exact ⟨_,.nil⟩
   | cons i l ih =>
    intro us h
    cases h with
    | cons h1 h2 =>
     obtain ⟨t,rfl⟩:=h1;obtain ⟨as,ra⟩:=ih h2;exact ⟨_,.cons (.int i t) ra⟩
  obtain ⟨as,ra⟩:=go rv;exact ⟨_,.list ho hc hd (by simpa using ra)⟩
mutual
theorem zp8{pins:Z3}{σ:St}{s:Shared}(I:Inv X pins σ w.H s)(hK:X.K=cl.K):∀{v:V} {d:D} {n:Nat},Shd cl w v d->d.fit n=true->∀{u:Value},zbp v u->∃as,Reads s.heap u d.py as
 | _,_,_,.non,_,_,r=>by cases r;exact ⟨_,.none⟩
 | _,_,_,.bl b,_,_,r=>by cases r;exact ⟨_,.bool b⟩
 | _,_,_,.int i,_,_,r=>by obtain ⟨t,rfl⟩:=r;exact ⟨_,.int i t⟩
 | _,_,_,.str x,_,_,r=>by obtain ⟨t,rfl⟩:=r;exact ⟨_,.str x t⟩
 | _,_,0,.tup _ _ _,h,_,_=>by simp [D.fit] at h
 | _,_,0,.lst _ _ _,h,_,_=>by simp [D.fit] at h
 | _,_,n+1,.tup (a:=a) e _ rs,h,_,r=>by
  cases r;obtain ⟨its,rv,p,_⟩:=I.tuple (SqT.of (K:=X.K) e);obtain ⟨o,ho,hc,n,hd⟩:=id p;obtain ⟨as,ra⟩:=zeo I hK rs (by simpa [D.fit] using h) rv;exact ⟨_,.tuple ho hc hd (by simpa using ra)⟩
 | _,_,n+1,.lst (a:=a) e _ rs,h,_,r=>by
  cases r;obtain ⟨its,rv,p,_⟩:=I.list (SqL.of (K:=X.K) e);obtain ⟨o,ho,hc,n,hd⟩:=id p.isList;obtain ⟨as,ra⟩:=zeo I hK rs (by simpa [D.fit] using h) rv;exact ⟨_,.list ho hc hd (by simpa using ra)⟩
 | _,_,n,.scr e k,h,_,r=>zh1 I hK (.scr e k) r
 | _,_,n,.scrK e,h,_,r=>zh1 I hK (.scrK e) r
 | _,_,n,.dicK _ _ _,h,_,_=>by simp [D.fit] at h
 | _,_,n,.ref _,h,_,_=>by simp [D.fit] at h
 | _,_,n,.exc _ _ _,h,_,_=>by simp [D.fit] at h
theorem zeo{pins:Z3}{σ:St}{s:Shared}(I:Inv X pins σ w.H s)(hK:X.K=cl.K):∀{vs:List V} {ds:List D} {n:Nat},Shds cl w vs ds->D.fits n ds=true->∀{us:List Value},Vals vs us->∃as,ReadsAll s.heap us (D.pys ds) as
 | _,_,_,.nil,_,_,r=>by cases r;exact ⟨_,.nil⟩
 | _,_,n,.cons h t,f,_,r=>by
  simp only [D.fits,Bool.and_eq_true] at f
  cases r with
  | cons r1 r2 =>
   obtain ⟨as,a⟩:=zp8 I hK h f.1 r1;obtain ⟨bs,b⟩:=zeo I hK t f.2 r2;exact ⟨_,.cons a b⟩
end
theorem ziR{pins:Z3}{σ:St}{s:Shared}(I:Inv X pins σ w.H s)(hK:X.K=cl.K){v:V}{d:D}{n:Nat}(h:TopV cl w v d)(f:d.fit n=true){u:Value}(r:zbp v u):∃as,Reads s.heap u d.py as:=by
 cases h with
 | sh h=>exact zp8 I hK h f r
 | ow e t =>
  cases t with
  | lst rs =>
   cases n with
   | zero=>simp [D.fit] at f
   | succ n =>
    cases r;obtain ⟨its,rv,p,_⟩:=I.list (SqL.of (K:=X.K) e);obtain ⟨o,ho,hc,n,hd⟩:=id p.isList;obtain ⟨as,ra⟩:=zeo I hK rs (by simpa [D.fit] using f) rv;exact ⟨_,.list ho hc hd (by simpa using ra)⟩
  | dicK _=>simp [D.fit] at f
def zjU(d e:D):Bool:=d.py.eqv e.py
def eqD(d e:D):Option D:=if d.fit 9&&e.fit 9 then some (.bl (zjU d e)) else none
def neD(d e:D):Option D:=if d.fit 9&&e.fit 9 then some (.bl (!zjU d e)) else none
theorem zs6(hK:X.K=cl.K)(hu:X.A.units+64<cLine):OpD X cl (compareOp .Eq) eqD:=by
 intro pins s σ H x y v u Q I rx ry h;obtain ⟨w,d,e,r,rfl,hx,hy,hg,q⟩:=h;unfold eqD at hg;split at hg
 ·rename_i hf;cases hg;rw [Bool.and_eq_true] at hf;obtain ⟨as,ra⟩:=ziR I hK hx hf.1 rx;obtain ⟨bs,rb⟩:=ziR I hK hy hf.2 ry;obtain ⟨l1,d1⟩:=D.lay hf.1;obtain ⟨l2,d2⟩:=D.lay hf.2;exact SeqAt.compareEq_reads ra rb l1 l2 (by omega) ⟨.bl _,w.H,I,rfl,q _ w (Grow.refl _) (.bl _)⟩
 ·cases hg
theorem zs4(hK:X.K=cl.K)(hu:X.A.units+64<cLine):OpD X cl (compareOp .NotEq) neD:=by
 intro pins s σ H x y v u Q I rx ry h;obtain ⟨w,d,e,r,rfl,hx,hy,hg,q⟩:=h;unfold neD at hg;split at hg
 ·rename_i hf;cases hg;rw [Bool.and_eq_true] at hf;obtain ⟨as,ra⟩:=ziR I hK hx hf.1 rx;obtain ⟨bs,rb⟩:=ziR I hK hy hf.2 ry;obtain ⟨l1,d1⟩:=D.lay hf.1;obtain ⟨l2,d2⟩:=D.lay hf.2;exact SeqAt.compareNe_reads ra rb l1 l2 (by omega) ⟨.bl _,w.H,I,rfl,q _ w (Grow.refl _) (.bl _)⟩
 ·cases hg
def zjE:D->Option (List D) | .lst l=>some l | .tup l=>some l | _=>none
def zkl(d:D)(l:List D):Bool:=l.any fun e=>zjU e d
def inD(d e:D):Option D:=match zjE e with | some l=>if d.fit 8&&D.fits 8 l then some (.bl (zkl d l)) else none | none=>none
def zom(d e:D):Option D:=match zjE e with | some l=>if d.fit 8&&D.fits 8 l then some (.bl (!zkl d l)) else none | none=>none
theorem zdm{s:Shared}{its:List Value}{ds:List D}{as:List Addr}{d:D}(ra:ReadsAll s.heap its (D.pys ds) as)(f:D.fits 8 ds=true):(its.toArray.any fun y=>(SeqAt.readOf s.heap y).eqv d.py)=zkl d ds:=by
 rw [SeqAt.any_by_data (vs:=its.toArray) (xs:=D.pys ds) (as:=as) (by simpa using ra) (D.lays f).1]
 have:∀{l:List D},((D.pys l).any fun y=>y.eqv d.py)=zkl d l:=by
  intro l
  induction l with
  | nil=>rfl
  | cons e l ih =>
   show (e.py.eqv d.py||(D.pys l).any fun y=>y.eqv d.py)=(zjU e d||zkl d l);rw [ih];rfl
 exact this
theorem zc3{A:Around}{s:Shared}{x:Value}{d:D}{bs:List Addr}(hu:A.units+64<cLine)(rx:Reads s.heap x d.py bs)(fd:d.fit 8=true):∀{its:List Value} {ds:List D} {as:List Addr},ReadsAll s.heap its (D.pys ds) as->D.fits 8 ds=true->∀y,y∈its.toArray->SeqAt.EqAt A.in1 s y x ((SeqAt.readOf s.heap y).eqv d.py)
 | [],[],_,_,_,y,hy=>by simp at hy
 | [],_::_,_,h,_,_,_=>by cases h
 | _::_,[],_,h,_,_,_=>by cases h
 | v::its,e::ds,_,h,f,y,hy=>by
  simp only [D.fits,Bool.and_eq_true] at f
  cases h with
  | cons h1 h2 =>
   simp at hy
   rcases hy with rfl | hy
   ·rw [znV (D.lay f.1).1 h1];refine SeqAt.eqAt_reads _ _ _ _ _ _ _ _ h1 rx (D.lay f.1).1 (D.lay fd).1 ?_;have:=(D.lay f.1).2;show A.units+1+_<cLine;omega
   ·exact zc3 hu rx fd h2 f.2 y (by simpa using hy)
theorem zjD{e:D}{l:List D}(h:zjE e=some l):e=.lst l\/e=.tup l:=by
 cases e<;>simp [zjE] at h
 ·exact .inr (by rw [h])
 ·exact .inl (by rw [h])
theorem zs5(hK:X.K=cl.K)(hu:X.A.units+64<cLine):OpD X cl (compareOp .In) inD:=by
 intro pins s σ H x y v u Q I rx ry h;obtain ⟨w,d,e,r,rfl,hx,hy,hg,q⟩:=h;unfold inD at hg;split at hg
 ·rename_i l hl;split at hg
  ·rename_i hf;cases hg;rw [Bool.and_eq_true] at hf;obtain ⟨bs,rb⟩:=ziR I hK hx hf.1 rx
   rcases zjD hl with rfl | rfl
   ·obtain ⟨a,xs,rfl,e,rs⟩:=hy.lstI;cases ry;obtain ⟨its,rv,p,_⟩:=I.list (SqL.of (K:=X.K) e);obtain ⟨as,ra⟩:=zeo I hK rs hf.2 rv;refine SeqAt.in_listAt _ p.isList (zc3 hu rb hf.1 ra hf.2) ?_;rw [zdm ra hf.2];exact ⟨.bl _,w.H,I,rfl,q _ w (Grow.refl _) (.bl _)⟩
   ·obtain ⟨a,xs,rfl,e,_,rs⟩:=hy.tupI;cases ry;obtain ⟨its,rv,p,_⟩:=I.tuple (SqT.of (K:=X.K) e);obtain ⟨as,ra⟩:=zeo I hK rs hf.2 rv;refine SeqAt.in_tupleAt _ p (zc3 hu rb hf.1 ra hf.2) ?_;rw [zdm ra hf.2];exact ⟨.bl _,w.H,I,rfl,q _ w (Grow.refl _) (.bl _)⟩
  ·cases hg
 ·cases hg
theorem zqI(hK:X.K=cl.K)(hu:X.A.units+64<cLine):OpD X cl (compareOp .NotIn) zom:=by
 intro pins s σ H x y v u Q I rx ry h;obtain ⟨w,d,e,r,rfl,hx,hy,hg,q⟩:=h;unfold zom at hg;split at hg
 ·rename_i l hl;split at hg
  ·rename_i hf;cases hg;rw [Bool.and_eq_true] at hf;obtain ⟨bs,rb⟩:=ziR I hK hx hf.1 rx
   rcases zjD hl with rfl | rfl
   ·obtain ⟨a,xs,rfl,e,rs⟩:=hy.lstI;cases ry;obtain ⟨its,rv,p,_⟩:=I.list (SqL.of (K:=X.K) e);obtain ⟨as,ra⟩:=zeo I hK rs hf.2 rv;refine SeqAt.notIn_listAt _ p.isList (zc3 hu rb hf.1 ra hf.2) ?_;rw [zdm ra hf.2];exact ⟨.bl _,w.H,I,rfl,q _ w (Grow.refl _) (.bl _)⟩
   ·obtain ⟨a,xs,rfl,e,_,rs⟩:=hy.tupI;cases ry;obtain ⟨its,rv,p,_⟩:=I.tuple (SqT.of (K:=X.K) e);obtain ⟨as,ra⟩:=zeo I hK rs hf.2 rv;refine SeqAt.notIn_tupleAt _ p (zc3 hu rb hf.1 ra hf.2) ?_;rw [zdm ra hf.2];exact ⟨.bl _,w.H,I,rfl,q _ w (Grow.refl _) (.bl _)⟩
  ·cases hg
 ·cases hg
def zcg:D->D->Option D
 | .int i,.int j=>some (.int (i+j))
 | .tup a,.tup b=>if zbr (a.length+b.length) then some (.tup (a++b)) else none
 | .lst a,.lst b=>if zbr (a.length+b.length) then some (.lst (a++b)) else none
 | .str a,.str b=>if zbr (a.length+b.length) then some (.str (a++b)) else none
 | _,_=>none
theorem zqO:OpD X cl (binaryOp .Add) zcg:=by
 intro pins s σ H x y v u Q I rx ry h;obtain ⟨w,d,e,r,rfl,hx,hy,hg,q⟩:=h;unfold zcg at hg;split at hg
 ·cases hg;rename_i i j;obtain rfl:=hx.intI;obtain rfl:=hy.intI;exact zqD pins s σ w.H _ _ v u Q I rx ry ⟨i,j,rfl,rfl,q _ w (Grow.refl _) (.int _)⟩
 ·rename_i a b;split at hg
  ·rename_i hz;cases hg;obtain ⟨p,xs,rfl,ep,kp,rs⟩:=hx.tupI;obtain ⟨p2,ys,rfl,ep2,kp2,rs2⟩:=hy.tupI
   by_cases hxe:xs=[]
   ·subst hxe;cases rs;exact zlY pins s σ w.H _ _ v u Q I rx ry ⟨p,p2,ys,rfl,rfl,SqT.of ep,SqT.of ep2,q _ w (Grow.refl _) (.tup ep2 kp2 rs2)⟩
   ·refine zoe pins s σ w.H _ _ v u Q I rx ry ⟨p,p2,xs,ys,rfl,rfl,SqT.of ep,SqT.of ep2,hxe,by rw [rs.length,rs2.length];exact zbj hz,fun z=>?_,fun z l hl=>?_⟩
    ·subst z;cases rs2;rw [List.append_nil] at q;exact q _ w (Grow.refl _) (.tup ep kp rs)
    ·exact q _ (w.add l _) (zaI hl _) (Shd.newT hl (rs.append rs2))
  ·cases hg
 ·rename_i a b;split at hg
  ·rename_i hz;cases hg;obtain ⟨p,xs,rfl,ep,rs⟩:=hx.lstI;obtain ⟨p2,ys,rfl,ep2,rs2⟩:=hy.lstI;exact zqC pins s σ w.H _ _ v u Q I rx ry ⟨p,p2,xs,ys,rfl,rfl,ep,ep2,by rw [rs.length,rs2.length];exact zbj hz,fun l hl=>q _ (w.add l _) (zaI hl _) (Shd.newL hl (rs.append rs2))⟩
  ·cases hg
 ·rename_i a b;split at hg
  ·rename_i hz;cases hg;obtain rfl:=hx.strI;obtain rfl:=hy.strI;exact ziT pins s σ w.H _ _ v u Q I rx ry ⟨a,b,rfl,rfl,zbj hz,q _ w (Grow.refl _) (.str _)⟩
  ·cases hg
 ·cases hg
def zrT:D->D->Option D | .int i,.int j=>some (.int (i-j)) | _,_=>none
theorem zqH:OpD X cl (binaryOp .Sub) zrT:=by
 intro pins s σ H x y v u Q I rx ry h;obtain ⟨w,d,e,r,rfl,hx,hy,hg,q⟩:=h;unfold zrT at hg;split at hg
 ·cases hg;rename_i i j;obtain rfl:=hx.intI;obtain rfl:=hy.intI;exact zqy pins s σ w.H _ _ v u Q I rx ry ⟨i,j,rfl,rfl,q _ w (Grow.refl _) (.int _)⟩
 ·cases hg
def zb8(i:Int):Bool:=decide (-(2 ^ 64)<i/\i<2 ^ 64)
def zfv:D->D->Option D
 | .int i,.int j=>if zb8 i||zb8 j then some (.int (i*j)) else none
 | .tup a,.int j=>if decide (1<=j/\j<=1000/\a≠[]/\a.length<=1000) then some (.tup (List.replicate j.toNat a).flatten) else none
 | .lst a,.int j=>if decide (0<=j/\j<=1000/\a.length<=1000) then some (.lst (List.replicate j.toNat a).flatten) else none
 | _,_=>none
theorem zqJ:OpD X cl (binaryOp .Mult) zfv:=by
 intro pins s σ H x y v u Q I rx ry h;obtain ⟨w,d,e,r,rfl,hx,hy,hg,q⟩:=h;unfold zfv at hg;split at hg
 ·rename_i i j;split at hg
  ·rename_i hz;cases hg;obtain rfl:=hx.intI;obtain rfl:=hy.intI;refine zqz pins s σ w.H _ _ v u Q I rx ry ⟨i,j,rfl,rfl,?_,q _ w (Grow.refl _) (.int _)⟩;rw [Bool.or_eq_true] at hz;exact hz.imp (fun z=>of_decide_eq_true z) fun z=>of_decide_eq_true z
  ·cases hg
 ·rename_i a j;split at hg
  ·rename_i hz;cases hg;have hz':=of_decide_eq_true hz;obtain ⟨p,xs,rfl,ep,kp,rs⟩:=hx.tupI;obtain rfl:=hy.intI;have hl:=rs.length;obtain ⟨k,rfl⟩:∃k:Nat,j=(k:Int):=⟨j.toNat,by omega⟩;have hne:xs≠[]:=fun z=>hz'.2.2.1 (by cases a with | nil=>rfl | cons _ _=>rw [z] at hl;cases hl)
   by_cases hk:k=1
   ·subst hk;cases rx;obtain ⟨t,rfl⟩:=ry;obtain ⟨its,rv,⟨o,ho,hc,n,hd⟩,_⟩:=I.tuple (SqT.of (K:=X.K) ep);refine PySem.zl2 ho hc hd ⟨.ref p,w.H,I,rfl,q _ w (Grow.refl _) (.tup ep kp ?_)⟩;simpa using rs
   ·refine zob pins s σ w.H _ _ v u Q I rx ry ⟨p,k,xs,rfl,rfl,SqT.of ep,hne,by omega,by omega,by omega,fun l hl=>q _ (w.add l _) (zaI hl _) (Shd.newT hl (rs.flat _))⟩
  ·cases hg
 ·rename_i a j;split at hg
  ·rename_i hz;cases hg;have hz':=of_decide_eq_true hz;obtain ⟨p,xs,rfl,ep,rs⟩:=hx.lstI;obtain rfl:=hy.intI;have hl:=rs.length;refine zmX pins s σ w.H _ _ v u Q I rx ry ⟨p,j,xs,rfl,rfl,ep,by omega,by omega,?_,fun l hl=>q _ (w.add l _) (zaI hl _) (Shd.newL hl (rs.flat _))⟩;refine Nat.le_trans (Nat.mul_le_mul (show xs.length<=1000 by omega) (show j.toNat<=1000 by omega)) (by decide)
  ·cases hg
 ·cases hg
def zll:D->D->Option D | .int i,.int j=>if 0<j then some (.int (i % j)) else none | _,_=>none
def zrq:D->D->Option D | .int i,.int j=>if 0<j/\j<1073741824 then some (.int (i / j)) else none | _,_=>none
theorem zqK:OpD X cl (binaryOp .Mod) zll:=by
 intro pins s σ H x y v u Q I rx ry h;obtain ⟨w,d,e,r,rfl,hx,hy,hg,q⟩:=h;unfold zll at hg;split at hg
 ·rename_i i j;split at hg
  ·rename_i hz;cases hg;obtain rfl:=hx.intI;obtain rfl:=hy.intI;exact zqA pins s σ w.H _ _ v u Q I rx ry ⟨i,j,rfl,rfl,hz,q _ w (Grow.refl _) (.int _)⟩
  ·cases hg
 ·cases hg
theorem zqN:OpD X cl (binaryOp .FloorDiv) zrq:=by
 intro pins s σ H x y v u Q I rx ry h;obtain ⟨w,d,e,r,rfl,hx,hy,hg,q⟩:=h;unfold zrq at hg;split at hg
 ·rename_i i j;split at hg
  ·rename_i hz;cases hg;obtain rfl:=hx.intI;obtain rfl:=hy.intI;exact zod pins s σ w.H _ _ v u Q I rx ry ⟨i,j,rfl,rfl,hz,q _ w (Grow.refl _) (.int _)⟩
  ·cases hg
 ·cases hg
def zon:D->Option D | .int i=>some (.int (-i)) | _=>none
theorem zpo:UnD X cl (unaryOp .USub) zon:=by
 intro pins s σ H x v Q I rx h;obtain ⟨w,d,r,rfl,hx,hg,q⟩:=h;unfold zon at hg;split at hg
 ·cases hg;rename_i i;obtain rfl:=hx.intI;exact zpn pins s σ w.H _ v Q I rx ⟨i,rfl,q _ w (Grow.refl _) (.int _)⟩
 ·cases hg
def zpe(p:Int->Int->Bool):D->D->Option D | .int i,.int j=>some (.bl (p i j)) | _,_=>none
theorem zf5{op:CmpOp}{p:Int->Int->Bool}(ho:OpR X (compareOp op) (rI0 fun i j=>.bl (p i j))):OpD X cl (compareOp op) (zpe p):=by
 intro pins s σ H x y v u Q I rx ry h;obtain ⟨w,d,e,r,rfl,hx,hy,hg,q⟩:=h;unfold zpe at hg;split at hg
 ·cases hg;rename_i i j;obtain rfl:=hx.intI;obtain rfl:=hy.intI;exact ho pins s σ w.H _ _ v u Q I rx ry ⟨i,j,rfl,rfl,q _ w (Grow.refl _) (.bl _)⟩
 ·cases hg
def zc4:D->Bool | .non=>true | _=>false
def zmg(d e:D):Option D:=if zc4 e then some (.bl (zc4 d)) else none
def zdo(d e:D):Option D:=if zc4 e then some (.bl (!zc4 d)) else none
theorem TopV.non_iff{v:V}{d:D}(h:TopV cl w v d):decide (v=.non)=zc4 d:=by
 cases h with
 | sh h=>cases h<;>simp [zc4]
 | ow e t=>cases t<;>simp [zc4]
theorem zgV{d:D}(h:zc4 d=true):d=.non:=by cases d<;>simp [zc4] at h;rfl
theorem zqL:OpD X cl (compareOp .Is) zmg:=by
 intro pins s σ H x y v u Q I rx ry h;obtain ⟨w,d,e,r,rfl,hx,hy,hg,q⟩:=h;unfold zmg at hg;split at hg
 ·rename_i hz;cases hg;rw [zgV hz] at hy;obtain rfl:=hy.nonI;refine zqB pins s σ w.H _ _ v u Q I rx ry ⟨rfl,?_⟩;rw [hx.non_iff];exact q _ w (Grow.refl _) (.bl _)
 ·cases hg
theorem zoj:OpD X cl (compareOp .IsNot) zdo:=by
 intro pins s σ H x y v u Q I rx ry h;obtain ⟨w,d,e,r,rfl,hx,hy,hg,q⟩:=h;unfold zdo at hg;split at hg
 ·rename_i hz;cases hg;rw [zgV hz] at hy;obtain rfl:=hy.nonI;refine zoc pins s σ w.H _ _ v u Q I rx ry ⟨rfl,?_⟩;rw [hx.non_iff];exact q _ w (Grow.refl _) (.bl _)
 ·cases hg
def zlZ:D->D->Option D | .bl a,.bl b=>some (.bl (!decide (a=b))) | _,_=>none
theorem zok:OpD X cl (compareOp .IsNot) zlZ:=by
 intro pins s σ H x y v u Q I rx ry h;obtain ⟨w,d,e,r,rfl,hx,hy,hg,q⟩:=h;unfold zlZ at hg;split at hg
 ·cases hg;obtain rfl:=hx.blI;obtain rfl:=hy.blI;exact zhq pins s σ w.H _ _ v u Q I rx ry ⟨_,_,rfl,rfl,q _ w (Grow.refl _) (.bl _)⟩
 ·cases hg
def ixD:D->D->Option D
 | .lst l,.int i=>atI l i
 | .tup l,.int i=>atI l i
 | .scr l,.int i=>(atI l i).map D.int
 | _,_=>none
theorem zhW{xs:List V}{ds:List D}(r:Shds cl w xs ds){i:Int}{d:D}(h:atI ds i=some d):∃v,atI xs i=some v/\Shd cl w v d:=by
 unfold atI at h ⊢;rw [r.length]
 cases e:ixN ds.length i with
 | none=>rw [e] at h;cases h
 | some j =>
  rw [e] at h;exact r.at h
theorem zts(hK:X.K=cl.K):IxD X cl ixD:=by
 intro value slice pins s σ H x y v u Q I rx ry h hsub;obtain ⟨w,d,e,r,rfl,hx,hy,hg,q⟩:=h;unfold ixD at hg;split at hg
 ·rename_i l i;obtain ⟨p,xs,rfl,ep,rs⟩:=hx.lstI;obtain rfl:=hy.intI;obtain ⟨z,e1,e2⟩:=zhW rs hg;exact zkw value slice pins s σ w.H _ _ v u Q I rx ry ⟨p,xs,i,z,rfl,rfl,SqL.of ep,e1,q _ w (Grow.refl _) e2⟩ hsub
 ·rename_i l i;obtain ⟨p,xs,rfl,ep,_,rs⟩:=hx.tupI;obtain rfl:=hy.intI;obtain ⟨z,e1,e2⟩:=zhW rs hg;exact zq9 value slice pins s σ w.H _ _ v u Q I rx ry ⟨p,xs,i,z,rfl,rfl,SqT.of ep,e1,q _ w (Grow.refl _) e2⟩ hsub
 ·rename_i l i;obtain ⟨p,rfl,ep⟩:=hx.scrI hK;obtain rfl:=hy.intI
  cases hl:atI l i with
  | none=>rw [hl] at hg;cases hg
  | some k =>
   rw [hl] at hg;cases hg
   have e1:atI (l.map V.int) i=some (.int k):=by
    unfold atI at hl ⊢;rw [List.length_map]
    cases e:ixN l.length i with
    | none=>rw [e] at hl;cases hl
    | some j =>
     rw [e] at hl;have hl':l[j]?=some k:=hl;show (l.map V.int)[j]?=_;rw [List.getElem?_map,hl'];rfl
   exact zkw value slice pins s σ w.H _ _ v u Q I rx ry ⟨p,_,i,_,rfl,rfl,ep,e1,q _ w (Grow.refl _) (.int _)⟩ hsub
 ·cases hg
def zeD:List D->Option D
 | [.lst l]=>some (.int l.length)
 | [.tup l]=>some (.int l.length)
 | [.scr l]=>some (.int l.length)
 | [.str x]=>if zbr x.length then some (.int x.length) else none
 | _=>none
theorem zrz(hK:X.K=cl.K):zhd X cl (.builtin "len") zeD:=by
 intro pins s σ H xs us Q I r h;obtain ⟨w,ds,d,rfl,hx,hg,q⟩:=h;unfold zeD at hg;split at hg
 ·rename_i l;cases hg
  cases hx with
  | cons h1 h2 =>
   cases h2;obtain ⟨p,ys,rfl,ep,rs⟩:=h1.lstI;refine zda pins s σ w.H _ us Q I r ⟨p,ys,rfl,.inl (SqL.of ep),?_⟩;rw [rs.length];exact q _ w (Grow.refl _) (.int _)
 ·rename_i l;cases hg
  cases hx with
  | cons h1 h2 =>
   cases h2;obtain ⟨p,ys,rfl,ep,_,rs⟩:=h1.tupI;refine zda pins s σ w.H _ us Q I r ⟨p,ys,rfl,.inr (SqT.of ep),?_⟩;rw [rs.length];exact q _ w (Grow.refl _) (.int _)
 ·rename_i l;cases hg
  cases hx with
  | cons h1 h2 =>
   cases h2;obtain ⟨p,rfl,ep⟩:=h1.scrI hK;refine zda pins s σ w.H _ us Q I r ⟨p,l.map V.int,rfl,.inl ep,?_⟩;rw [List.length_map];exact q _ w (Grow.refl _) (.int _)
 ·rename_i x;split at hg
  ·rename_i hz;cases hg
   cases hx with
   | cons h1 h2 =>
    cases h2;obtain rfl:=h1.strI;exact zg5 pins s σ w.H _ us Q I r ⟨x,rfl,zbj hz,q _ w (Grow.refl _) (.int _)⟩
  ·cases hg
 ·cases hg
def zch:List D->Option D
 | [.lst l]=>some (.tup l)
 | [.tup l]=>some (.tup l)
 | _=>none
theorem zmA:zhd X cl (.type "tuple") zch:=by
 intro pins s σ H xs us Q I r h;obtain ⟨w,ds,d,rfl,hx,hg,q⟩:=h;unfold zch at hg;split at hg
 ·rename_i l;cases hg
  cases hx with
  | cons h1 h2 =>
   cases h2;obtain ⟨p,ys,rfl,ep,rs⟩:=h1.lstI;exact zd0 pins s σ w.H _ us Q I r ⟨p,ys,rfl,.inl ⟨SqL.of ep,fun l hl=>q _ (w.add l _) (zaI hl _) (Shd.newT hl rs)⟩⟩
 ·rename_i l;cases hg
  cases hx with
  | cons h1 h2 =>
   cases h2;obtain ⟨p,ys,rfl,ep,kp,rs⟩:=h1.tupI;exact zd0 pins s σ w.H _ us Q I r ⟨p,ys,rfl,.inr ⟨SqT.of ep,q _ w (Grow.refl _) (.tup ep kp rs)⟩⟩
 ·cases hg
def zkn:List D->Option D
 | [.lst l]=>some (.lst l)
 | [.tup l]=>some (.lst l)
 | _=>none
theorem zoT:zrO X cl (.type "list") zkn:=by
 intro pins s σ H xs us Q I r h;obtain ⟨w,ds,d,rfl,hx,hg,q⟩:=h;unfold zkn at hg;split at hg
 ·rename_i l;cases hg
  cases hx with
  | cons h1 h2 =>
   cases h2;obtain ⟨p,ys,rfl,ep,rs⟩:=h1.lstI;exact zeu pins s σ w.H _ us Q I r ⟨p,ys,rfl,.inl (SqL.of ep),fun l hl=>q _ _ w (Grow.refl _) hl (.lst rs)⟩
 ·rename_i l;cases hg
  cases hx with
  | cons h1 h2 =>
   cases h2;obtain ⟨p,ys,rfl,ep,_,rs⟩:=h1.tupI;exact zeu pins s σ w.H _ us Q I r ⟨p,ys,rfl,.inr (SqT.of ep),fun l hl=>q _ _ w (Grow.refl _) hl (.lst rs)⟩
 ·cases hg
def zgj:List D->Option (List Bool)
 | []=>some []
 | .bl b::l=>(zgj l).map (b::·)
 | _=>none
theorem zmH{bs:List Bool}{ds:List D}:∀{xs:List V},Shds cl w xs ds->zgj ds=some bs->xs=bs.map V.bl:=by
 induction ds generalizing bs with
 | nil=>intro xs r h;cases r;cases h;rfl
 | cons d ds ih =>
  intro xs r e
  cases r with
  | cons h t =>
   cases d with
   | bl b =>
    cases h;unfold zgj at e
    cases hr:zgj ds with
    | none=>rw [hr] at e;cases e
    | some cs=>rw [hr] at e;cases e;rw [ih t hr];rfl
   | _=>cases e
def zph:List D->Option D
 | [.lst l]=>(zgj l).map fun bs=>.bl (bs.all id)
 | _=>none
theorem zrA(hc:X.calm=true):zhd X cl (.builtin "all") zph:=by
 intro pins s σ H xs us Q I r h;obtain ⟨w,ds,d,rfl,hx,hg,q⟩:=h;unfold zph at hg;split at hg
 ·rename_i l
  cases hb:zgj l with
  | none=>rw [hb] at hg;cases hg
  | some bs =>
   rw [hb] at hg;cases hg
   cases hx with
   | cons h1 h2 =>
    cases h2;obtain ⟨p,ys,rfl,ep,rs⟩:=h1.lstI;obtain rfl:=zmH rs hb;exact zhH hc pins s σ w.H _ us Q I r ⟨p,bs,rfl,SqL.of ep,q _ w (Grow.refl _) (.bl _)⟩
 ·cases hg
def zbH:List D->Option (List Int)
 | []=>some []
 | .int b::l=>(zbH l).map (b::·)
 | _=>none
theorem zgX{bs:List Int}{ds:List D}:∀{xs:List V},Shds cl w xs ds->zbH ds=some bs->xs=bs.map V.int:=by
 induction ds generalizing bs with
 | nil=>intro xs r h;cases r;cases h;rfl
 | cons d ds ih =>
  intro xs r e
  cases r with
  | cons h t =>
   cases d with
   | int b =>
    cases h;unfold zbH at e
    cases hr:zbH ds with
    | none=>rw [hr] at e;cases e
    | some cs=>rw [hr] at e;cases e;rw [ih t hr];rfl
   | _=>cases e
def znw:List D->Option D
 | [.lst l]=>(zbH l).bind fun ns=>if decide (ns.length<=1000)&&ns.all (fun n=>decide (0<=n/\n<=1000000)) then some (.int ns.sum) else none
 | _=>none
theorem zrx(hc:X.calm=true):zhd X cl (.builtin "sum") znw:=by
 intro pins s σ H xs us Q I r h;obtain ⟨w,ds,d,rfl,hx,hg,q⟩:=h;unfold znw at hg;split at hg
 ·rename_i l
  cases hb:zbH l with
  | none=>rw [hb] at hg;cases hg
  | some ns =>
   rw [hb] at hg;dsimp only [Option.bind] at hg;split at hg
   ·rename_i hz;cases hg;rw [Bool.and_eq_true,List.all_eq_true] at hz
    cases hx with
    | cons h1 h2 =>
     cases h2;obtain ⟨p,ys,rfl,ep,rs⟩:=h1.lstI;obtain rfl:=zgX rs hb;exact zmB hc pins s σ w.H _ us Q I r ⟨p,ns,rfl,SqL.of ep,of_decide_eq_true hz.1,fun n hn=>of_decide_eq_true (hz.2 n hn),q _ w (Grow.refl _) (.int _)⟩
   ·cases hg
 ·cases hg
end
end S2
namespace L2
open PySem PySem.Spec PyProof.Rows
section
variable{X:Cx}{e st:Expr}{te ts:TE}{pos p2:Pos}
end
end L2
namespace S2
open PySem PySem.Spec PyProof.Rows L2
def zdz(g g':D->D->Option D)(f h k:Fe):Fe:=fun ρ S=>(f ρ S).bind fun a S1=>(h ρ S1).bind fun b S2=>match (g a b).bind isB with
 | some true=>(k ρ S2).bind fun c S3=>Out.of (g' b c) S3
 | some false=>.ok (.bl false) S2
 | none=>.bad
section
variable{X:Cx}{cl:Cf}{E:St->XK}{a b c e:Expr}{f h k:Fe}{pos:Pos}
theorem zhT{g g':D->D->Option D}{r r':R2}(hr:∀x y H Q,(∃w d e r,w.H=H/\TopV cl w x d/\TopV cl w y e/\g d e=some r/\∀v w',Grow w w'->Shd cl w' v r->Q v w'.H)->r x y H Q)
  (hr':∀x y H Q,(∃w d e r,w.H=H/\TopV cl w x d/\TopV cl w y e/\g' d e=some r/\∀v w',Grow w w'->Shd cl w' v r->Q v w'.H)->r' x y H Q) {σ:St} {H:Hp} {Q:VK} (q:tE cl E (zdz g g' f h k) σ H Q):zjw r r' (tH cl E f) (tH cl E h) (tH cl E k) σ H Q:=by
 obtain ⟨B,w,ρ,S,rfl,R,q⟩:=q;refine ⟨B,w,ρ,S,rfl,R,?_⟩;unfold zdz at q
 cases hf:f ρ S with
 | bad=>rw [hf] at q;exact q
 | exc c S1=>rw [hf] at q;exact q
 | ok d S1 =>
  rw [hf] at q;intro v w1 R1 F1 h1;refine ⟨B,w1,ρ,S1,rfl,R1,?_⟩;dsimp only [Out.bind] at q
  cases hh:h ρ S1 with
  | bad=>rw [hh] at q;exact q
  | exc c S2=>rw [hh] at q;exact fun w2 R2 F2=>q w2 R2 (F1.trans F2)
  | ok e S2 =>
   rw [hh] at q;intro y w2 R2 F2 h2;dsimp only at q
   cases hg:g d e with
   | none=>rw [hg] at q;exact q.elim
   | some z =>
    rw [hg] at q;dsimp only [Option.bind] at q
    cases hb:isB z with
    | none=>rw [hb] at q;exact q.elim
    | some bb =>
     rw [hb] at q;rw [zdh hb] at hg;refine hr _ _ _ _ ⟨w2,d,e,_,rfl,(h1.up F2).top R2,h2.top R2,hg,fun v' w3 gr sh=>⟨bb,zgA sh,?_⟩⟩;have R3:=R2.grow gr
     cases bb with
     | false=>exact zmf (q _ w3 R3 (F1.trans (F2.trans gr.fut)) (.bl _))
     | true =>
      refine zme ⟨B,w3,ρ,S2,rfl,R3,?_⟩;dsimp only at q
      cases hk:k ρ S2 with
      | bad=>rw [hk] at q;exact q
      | exc c S3=>rw [hk] at q;exact fun w4 R4 F4=>q w4 R4 (F1.trans (F2.trans (gr.fut.trans F4)))
      | ok c S3 =>
       rw [hk] at q;intro z' w4 R4 F4 h4;dsimp only at q
       cases hg':g' e c with
       | none=>rw [hg'] at q;exact q.elim
       | some r2 =>
        rw [hg'] at q;exact hr' _ _ _ _ ⟨w4,e,c,r2,rfl,(h2.up (gr.fut.trans F4)).top R4,h4.top R4,hg',fun v' w5 gr5 sh5=>q v' w5 (R4.grow gr5) (F1.trans (F2.trans (gr.fut.trans (F4.trans gr5.fut)))) sh5⟩
theorem zlC{op op':CmpOp}{g g':D->D->Option D}(ho:OpD X cl (compareOp op) g)(ho':OpD X cl (compareOp op') g')(ha:PE X a (tH cl E f))(hb:PE X b (tH cl E h))(hc:PE X c (tH cl E k))(hm:lastMarks [op,op'] [b,c]=false):PE X (.Compare a [op,op'] [b,c] pos) (tE cl E (zdz g g' f h k)) :=
 PE.imp (zlU ho ho' ha hb hc hm) fun _ _ _ q=>zhT (fun _ _ _ _ z=>z) (fun _ _ _ _ z=>z) q
theorem zlw{op op':CmpOp}{g g':D->D->Option D}(ho:OpD X cl (compareOp op) g)(ho':OpD X cl (compareOp op') g')(ha:PE X a (tH cl E f))(hb:PE X b (tH cl E h))(hc:PE X c (tH cl E k))(hm:lastMarks [op,op'] [b,c]=false):PT X (.Compare a [op,op'] [b,c] pos) (tTr cl E (zdz g g' f h k)) :=
 PT.imp (zlI ho ho' ha hb hc hm) fun _ _ _ q=>zhT (fun _ _ _ _ z=>z) (fun _ _ _ _ z=>z) (zhS q)
def zex{α:Type}(l:List α)(lo hi:Option Int):List α:=(l.drop (HT.sIx l.length 0 lo)).take (HT.sIx l.length l.length hi-HT.sIx l.length 0 lo)
def slD(d:D)(lo hi:Option Int):Option D:=match d with
 | .lst l=>some (.lst (zex l lo hi))
 | .tup l=>some (.tup (zex l lo hi))
 | _=>none
def zcS(o:Option Fe)(ρ:Env)(S:Sto):Out (Option Int):=match o with
 | none=>.ok none S
 | some f=>(f ρ S).bind fun d S1=>match d with | .int i=>.ok (some i) S1 | _=>.bad
def eSl(f:Fe)(lo hi:Option Fe):Fe:=fun ρ S=>(f ρ S).bind fun d S1=>(zcS lo ρ S1).bind fun l S2=>(zcS hi ρ S2).bind fun u S3=>Out.of (slD d l u) S3
theorem zg2{w:Wd}{xs:List V}{ds:List D}(r:Shds cl w xs ds)(lo hi:Option Int):Shds cl w (znf xs lo hi) (zex ds lo hi):=by
 unfold znf zex;rw [r.length];exact (r.drop _).take _
def SlD(X:Cx)(cl:Cf):Prop:=SlR X fun x lo hi H Q=>∃w d r,w.H=H/\TopV cl w x d/\slD d lo hi=some r/\∀v w',Grow w w'->Shd cl w' v r->Q v w'.H
theorem zsO:SlD X cl:=by
 intro pins s σ H x v vl vu lo hi sl Q I rx hs pl pu h;obtain ⟨w,d,r,rfl,hx,hg,q⟩:=h;unfold slD at hg;split at hg
 ·rename_i l;cases hg;obtain ⟨p,xs,rfl,ep,rs⟩:=hx.lstI;exact znG pins s σ w.H _ v vl vu lo hi sl Q I rx hs pl pu ⟨p,xs,rfl,SqL.of ep,fun p' hp=>q _ (w.add p' _) (zaI hp _) (Shd.newL hp (zg2 rs lo hi))⟩
 ·rename_i l;cases hg;obtain ⟨p,xs,rfl,ep,kp,rs⟩:=hx.tupI
  by_cases hw:HT.sIx xs.length 0 lo=0/\HT.sIx xs.length xs.length hi=xs.length
  ·refine ziN pins s σ w.H _ v vl vu lo hi sl Q I rx hs pl pu ⟨p,xs,rfl,SqT.of ep,hw.1,hw.2,q _ w (Grow.refl _) (.tup ep kp ?_)⟩
   have:zex l lo hi=l:=by
    unfold zex;rw [<-rs.length,hw.1,hw.2,List.drop_zero,Nat.sub_zero,List.take_of_length_le (by rw [rs.length];exact Nat.le_refl _)]
   rw [this];exact rs
  ·exact zpN pins s σ w.H _ v vl vu lo hi sl Q I rx hs pl pu ⟨p,xs,rfl,SqT.of ep,hw,fun p' hp=>q _ (w.add p' _) (zaI hp _) (Shd.newT hp (zg2 rs lo hi))⟩
 ·cases hg
def zrS(cl:Cf)(E:St->XK)(o:Option Fe):TO:=match o with | none=>zjv | some f=>zpt (tH cl E f)
theorem zpX{lo hi:Option Expr}{fl fh:Option Fe}{p2:Pos}(he:PE X e (tH cl E f))(hl:PO X lo (zrS cl E fl))(hu:PO X hi (zrS cl E fh)):PE X (.Subscript e (.Slice lo hi none p2) pos) (tE cl E (eSl f fl fh)):=by
 refine PE.imp (zlQ (zsO (cl:=cl)) he hl hu) ?_;rintro σ H Q ⟨B,w,ρ,S,rfl,R,q⟩;refine ⟨B,w,ρ,S,rfl,R,?_⟩;unfold eSl at q
 cases hf:f ρ S with
 | bad=>rw [hf] at q;exact q
 | exc c S1=>rw [hf] at q;exact q
 | ok d S1 =>
  rw [hf] at q;intro v w1 R1 F1 h1;dsimp only [Out.bind] at q
  have last:∀(l u:Option Int) (w3:Wd) (S3:Sto),Rel cl B σ w3 ρ S3->Fut w1 w3->(match Out.of (slD d l u) S3 with
    | .ok d S'=>∀v w',Rel cl B σ w' ρ S'->Fut w w'->Shd cl w' v d->Q v w'.H
    | .exc c S'=>∀w',Rel cl B σ w' ρ S'->Fut w w'->E σ (.ref (cl c)) none w'.H
    | .bad=>False)->∃w d r,w.H=w3.H/\TopV cl w v d/\slD d l u=some r/\∀v w',Grow w w'->Shd cl w' v r->Q v w'.H:=by
   intro l u w3 S3 R3 F3 q3
   cases hg:slD d l u with
   | none=>rw [hg] at q3;exact q3.elim
   | some r =>
    rw [hg] at q3;exact ⟨w3,d,r,rfl,(h1.up F3).top R3,hg,fun v' w' gr sh=>q3 v' w' (R3.grow gr) (F1.trans (F3.trans gr.fut)) sh⟩
  have second:∀(l:Option Int) (w2:Wd) (S2:Sto),Rel cl B σ w2 ρ S2->Fut w1 w2->(match (zcS fh ρ S2).bind fun u S3=>Out.of (slD d l u) S3 with
    | .ok d S'=>∀v w',Rel cl B σ w' ρ S'->Fut w w'->Shd cl w' v d->Q v w'.H
    | .exc c S'=>∀w',Rel cl B σ w' ρ S'->Fut w w'->E σ (.ref (cl c)) none w'.H
    | .bad=>False)->zrS cl E fh σ w2.H fun u H3=>∃w d r,w.H=H3/\TopV cl w v d/\slD d l u=some r/\∀v w',Grow w w'->Shd cl w' v r->Q v w'.H:=by
   intro l w2 S2 R2 F2 q2
   cases fh with
   | none=>exact last l none w2 S2 R2 F2 q2
   | some fh =>
    refine ⟨B,w2,ρ,S2,rfl,R2,?_⟩;unfold zcS at q2;dsimp only at q2
    cases hh:fh ρ S2 with
    | bad=>rw [hh] at q2;exact q2
    | exc c S3=>rw [hh] at q2;exact fun w3 R3 F3=>q2 w3 R3 (F1.trans (F2.trans F3))
    | ok dh S3 =>
     rw [hh] at q2;intro y w3 R3 F3 h3;dsimp only [Out.bind] at q2
     cases dh with
     | int i =>
      refine ⟨i,(h3.top R3).intI,?_⟩;exact last l (some i) w3 S3 R3 (F2.trans F3) q2
     | _=>exact q2.elim
  cases fl with
  | none=>exact second none w1 S1 R1 (Fut.refl _) q
  | some fl =>
   refine ⟨B,w1,ρ,S1,rfl,R1,?_⟩;unfold zcS at q;dsimp only at q
   cases hh:fl ρ S1 with
   | bad=>rw [hh] at q;exact q
   | exc c S3=>rw [hh] at q;exact fun w3 R3 F3=>q w3 R3 (F1.trans F3)
   | ok dl S2 =>
    rw [hh] at q;intro y w2 R2 F2 h2;dsimp only [Out.bind] at q
    cases dl with
    | int i =>
     refine ⟨i,(h2.top R2).intI,?_⟩;exact second (some i) w2 S2 R2 F2 q
    | _=>exact q.elim
def zew(T:String)(d:D):Option D :=
 if T = "int" then (match d with | .int _=>some (.bl true) | .bl _=>some (.bl true) | .non=>some (.bl false) | .str _=>some (.bl false) | .tup _=>some (.bl false) | .lst _=>some (.bl false) | _=>none)
 else if T = "bool" then (match d with | .int _=>some (.bl false) | .bl _=>some (.bl true) | .non=>some (.bl false) | .str _=>some (.bl false) | .tup _=>some (.bl false) | .lst _=>some (.bl false) | _=>none)
 else if T = "tuple" then (match d with | .int _=>some (.bl false) | .bl _=>some (.bl false) | .non=>some (.bl false) | .str _=>some (.bl false) | .tup _=>some (.bl true) | .lst _=>some (.bl false) | _=>none)
 else if T = "str" then (match d with | .int _=>some (.bl false) | .bl _=>some (.bl false) | .non=>some (.bl false) | .str _=>some (.bl true) | .tup _=>some (.bl false) | .lst _=>some (.bl false) | _=>none)
 else if T = "list" then (match d with | .int _=>some (.bl false) | .bl _=>some (.bl false) | .non=>some (.bl false) | .str _=>some (.bl false) | .tup _=>some (.bl false) | .lst _=>some (.bl true) | _=>none)
 else none
theorem zoC{K:PySem.W.Frag}{w:Wd}{v:V}{d r:D}{T:String}(h:TopV cl w v d)(hg:zew T d=some r):∃t b,TyOf K w.H v t/\PySem.W.kitOne K t (.type T)=some b/\r=.bl b:=by
 unfold zew at hg;split at hg
 ·rename_i hT;subst hT
  split at hg<;>cases hg
  ·obtain rfl:=h.intI;exact ⟨_,_,.int _,by with_unfolding_all rfl,rfl⟩
  ·obtain rfl:=h.blI;exact ⟨_,_,.bl _,by with_unfolding_all rfl,rfl⟩
  ·obtain rfl:=h.nonI;exact ⟨_,_,.non,by with_unfolding_all rfl,rfl⟩
  ·obtain rfl:=h.strI;exact ⟨_,_,.str _,by with_unfolding_all rfl,rfl⟩
  ·obtain ⟨_,_,rfl,e,_⟩:=h.tupI;exact ⟨_,_,.tup e,by with_unfolding_all rfl,rfl⟩
  ·obtain ⟨_,_,rfl,e,_⟩:=h.lstI;exact ⟨_,_,.lst e,by with_unfolding_all rfl,rfl⟩
 split at hg
 ·rename_i hT;subst hT
  split at hg<;>cases hg
  ·obtain rfl:=h.intI;exact ⟨_,_,.int _,by with_unfolding_all rfl,rfl⟩
  ·obtain rfl:=h.blI;exact ⟨_,_,.bl _,by with_unfolding_all rfl,rfl⟩
  ·obtain rfl:=h.nonI;exact ⟨_,_,.non,by with_unfolding_all rfl,rfl⟩
  ·obtain rfl:=h.strI;exact ⟨_,_,.str _,by with_unfolding_all rfl,rfl⟩
  ·obtain ⟨_,_,rfl,e,_⟩:=h.tupI;exact ⟨_,_,.tup e,by with_unfolding_all rfl,rfl⟩
  ·obtain ⟨_,_,rfl,e,_⟩:=h.lstI;exact ⟨_,_,.lst e,by with_unfolding_all rfl,rfl⟩
 split at hg
 ·rename_i hT;subst hT
  split at hg<;>cases hg
  ·obtain rfl:=h.intI;exact ⟨_,_,.int _,by with_unfolding_all rfl,rfl⟩
  ·obtain rfl:=h.blI;exact ⟨_,_,.bl _,by with_unfolding_all rfl,rfl⟩
  ·obtain rfl:=h.nonI;exact ⟨_,_,.non,by with_unfolding_all rfl,rfl⟩
  ·obtain rfl:=h.strI;exact ⟨_,_,.str _,by with_unfolding_all rfl,rfl⟩
  ·obtain ⟨_,_,rfl,e,_⟩:=h.tupI;exact ⟨_,_,.tup e,by with_unfolding_all rfl,rfl⟩
  ·obtain ⟨_,_,rfl,e,_⟩:=h.lstI;exact ⟨_,_,.lst e,by with_unfolding_all rfl,rfl⟩
 split at hg
 ·rename_i hT;subst hT
  split at hg<;>cases hg
  ·obtain rfl:=h.intI;exact ⟨_,_,.int _,by with_unfolding_all rfl,rfl⟩
  ·obtain rfl:=h.blI;exact ⟨_,_,.bl _,by with_unfolding_all rfl,rfl⟩
  ·obtain rfl:=h.nonI;exact ⟨_,_,.non,by with_unfolding_all rfl,rfl⟩
  ·obtain rfl:=h.strI;exact ⟨_,_,.str _,by with_unfolding_all rfl,rfl⟩
  ·obtain ⟨_,_,rfl,e,_⟩:=h.tupI;exact ⟨_,_,.tup e,by with_unfolding_all rfl,rfl⟩
  ·obtain ⟨_,_,rfl,e,_⟩:=h.lstI;exact ⟨_,_,.lst e,by with_unfolding_all rfl,rfl⟩
 split at hg
 ·rename_i hT;subst hT
  split at hg<;>cases hg
  ·obtain rfl:=h.intI;exact ⟨_,_,.int _,by with_unfolding_all rfl,rfl⟩
  ·obtain rfl:=h.blI;exact ⟨_,_,.bl _,by with_unfolding_all rfl,rfl⟩
  ·obtain rfl:=h.nonI;exact ⟨_,_,.non,by with_unfolding_all rfl,rfl⟩
  ·obtain rfl:=h.strI;exact ⟨_,_,.str _,by with_unfolding_all rfl,rfl⟩
  ·obtain ⟨_,_,rfl,e,_⟩:=h.tupI;exact ⟨_,_,.tup e,by with_unfolding_all rfl,rfl⟩
  ·obtain ⟨_,_,rfl,e,_⟩:=h.lstI;exact ⟨_,_,.lst e,by with_unfolding_all rfl,rfl⟩
 ·cases hg
theorem zk6:bootBuiltins "isinstance" = some (.builtin "isinstance"):=by decide +kernel
theorem znO{T:String}{x:Str}{p p2:Pos}(hg:Gl X "isinstance")(hm:X.mg "isinstance" = none)(hgT:Gl X x)(hmT:X.mg x=none)(hvT:bootBuiltins x=some (.type T))(hn:x ≠ "__name__")(hdb:(x == ("__debug__":Str))=false)(hp:zc1 e=true)(he:PE X e (tH cl E f)) :
  PE X (.Call (.Name "isinstance" p) [e,.Name x p2] [] pos) (tE cl E (eUn (zew T) f)):=by
 refine PE.imp (zh6 zhG hg hm zk6 (zd8 he (zd8 (zoa (v:=.ty T) hgT hmT hvT rfl hn hdb) zgM rfl) (zcr hp)) (he:=zcr hp) (hpl:=rfl)) ?_;rintro σ H Q ⟨B,w,ρ,S,rfl,R,q⟩;refine ⟨B,w,ρ,S,rfl,R,?_⟩;unfold eUn at q
 cases hf:f ρ S with
 | bad=>rw [hf] at q;exact q
 | exc c S1=>rw [hf] at q;exact q
 | ok d S1 =>
  rw [hf] at q;intro v w1 R1 F1 h1;dsimp only [Out.bind] at q
  cases hg:zew T d with
  | none=>rw [hg] at q;exact q.elim
  | some r =>
   rw [hg] at q;obtain ⟨t,b,h2,h3,rfl⟩:=zoC (K:=X.K) (h1.top R1) hg;exact ⟨v,t,T,b,rfl,h2,h3,q _ w1 R1 F1 (.bl _)⟩
def zaX(f:Fe):Fi:=fun ρ S=>(f ρ S).bind fun d S1=>match d with | .lst l=>.ok l S1 | .tup l=>.ok l S1 | _=>.bad
theorem zpQ{tg:Expr}(hK:X.K=cl.K)(he:PE X e (tE cl E f)):PI X tg e (tI cl E (zaX f)):=by
 intro pins s σ H R' I q;obtain ⟨B,w,ρ,S,rfl,R,q⟩:=q;unfold zaX at q
 cases hf:f ρ S with
 | bad=>rw [hf] at q;exact q.elim
 | exc c S1 =>
  refine zjC he pins s σ w.H R' I ⟨B,w,ρ,S,rfl,R,?_⟩;unfold zit;rw [hf] at q ⊢;exact q
 | ok d S1 =>
  rw [hf] at q;dsimp only [Out.bind] at q
  cases d with
  | lst l =>
   refine zjC he pins s σ w.H R' I ⟨B,w,ρ,S,rfl,R,?_⟩;unfold zit;rw [hf];exact q
  | tup l =>
   refine zpP he pins s σ w.H R' I ⟨B,w,ρ,S,rfl,R,?_⟩;unfold zhB;rw [hf];exact q
  | _=>exact q.elim
end
end S2
namespace L2
open PySem PySem.Spec PyProof.Rows
def zje(b:Bool)(h:Heap)(a:Addr)(vs:Array Value):Prop:=match b with | true=>h.IsList a vs | false=>h.IsTuple a vs
def zlj(b:Bool)(h:Heap)(it a:Addr)(j:Nat):Prop:=match b with | true=>h.IsListIter it a j | false=>h.IsTupleIter it a j
def itN(b:Bool):String:=match b with | true=>"list_iterator" | false=>"tuple_iterator"
theorem zje.keep{b:Bool}{h h':Heap}{a:Addr}{vs:Array Value}(p:zje b h a vs)(k:∀o,h.get? a=some o->h'.get? a=some o):zje b h' a vs:=by
 cases b with
 | true=>exact Heap.IsList.at p k
 | false=>obtain ⟨o,ho,r⟩:=p;exact ⟨o,k o ho,r⟩
theorem zlj.keep{b:Bool}{h h':Heap}{it a:Addr}{j:Nat}(p:zlj b h it a j)(k:∀o,h.get? it=some o->h'.get? it=some o):zlj b h' it a j:=by
 cases b with
 | true=>exact Heap.IsListIter.at p k
 | false=>exact Heap.IsTupleIter.at p k
theorem zlj.live{b:Bool}{h:Heap}{it a:Addr}{j:Nat}(p:zlj b h it a j):∃o,h.get? it=some o/\∀v,o.data≠.cell v:=by
 cases b with
 | true=>obtain ⟨o,ho,c,d⟩:=p;exact ⟨o,ho,fun v z=>by rw [d] at z;cases z⟩
 | false=>obtain ⟨o,ho,c,d⟩:=p;exact ⟨o,ho,fun v z=>by rw [d] at z;cases z⟩
section
variable{prog:Program}{w:World}{A:Around}{E:Z5}{s:Shared}
theorem zeF(hh:A.handled=none)(b:Bool)(it t:Addr)(ne:t≠it)(vs:Array Value):Draws prog w A it [it,t] vs.size (fun j v=>vs[j]?=some v) (fun j h=>zlj b h it t j/\zje b h t vs):=by
 cases b with
 | false=>exact zkT hh it t ne vs
 | true =>
  exact {
   live:=fun _ _ st=>by obtain ⟨⟨o,ho,_⟩,_⟩:=st;exact ⟨o,ho⟩
   frame:=fun _ _ _ st hk=>⟨st.1.keep fun o e=>hk it (by simp) o e,st.2.keep fun o e=>hk t (by simp) o e⟩
   item:=fun j s Q E hj st hQ=>wpAny_nextOf_list_item (x:=vs[j]) st.1 st.2 (by simp [hj]) fun h' st' sb=>hQ _ h' s.toks (by simp [hj]) ⟨st',st.2.keep fun o e=>(sb.2 t ne).trans e⟩ sb
   done:=fun s Q E st hE=>wpAny_nextOf_list_end hh st.1 st.2 (by simp) fun h' e sb he=>hE h' e sb he }
theorem zgG{b:Bool}{l:Addr}{vs:Array Value}{Q:Z5}(p:zje b s.heap l vs)(h:Q (.ref s.heap.objs.size) { s with heap:=s.heap.push { cls:=.type (itN b),data:=.fields #[.ref l,.int 0 0] } }):wpAny (model prog w) A (pyIter (.ref l)) Q E s:=by
 cases b with
 | true=>exact wpAny_pyIter_list p h
 | false=>exact wpAny_pyIter_tuple p h
structure ZipD(z TI TO i1 i2:Addr)(f1 f2:List Addr):Prop where
 TIz:TI≠z
 TOz:TO≠z
 i1z:i1≠z
 i2z:i2≠z
 TITO:TI≠TO
 TIi1:TI≠i1
 TIi2:TI≠i2
 TOi1:TO≠i1
 TOi2:TO≠i2
 i12:i1≠i2
 z1:z ∉ f1
 z2:z ∉ f2
 O1:TO ∉ f1
 O2:TO ∉ f2
 i1f:i1 ∉ f2
 i2f:i2 ∉ f1
theorem nin{a:Addr}{f:List Addr}{b:Addr}(h:a ∉ f)(hb:b∈f):b≠a:=fun z=>h (z ▸ hb)
theorem zfk{z TI TO i1 i2:Addr}{f1 f2:List Addr}{n1 n2:Nat}{P1 P2:Nat->Value->Prop}{S1 S2:Nat->Heap->Prop}{k1 k2:Nat}{a b:Value}{Q:Z5}(D:ZipD z TI TO i1 i2 f1 f2)
  (D1:Draws prog w A i1 f1 n1 P1 S1) (D2:Draws prog w A i2 f2 n2 P2 S2)
  (hz:IsZip s.heap z TI TO .none) (hTI:IsPair s.heap TI (.ref i1) (.ref i2)) (hTO:IsPair s.heap TO a b)
  (h1:S1 k1 s.heap) (h2:S2 k2 s.heap) (hx:k1<n1) (hy:k2<n2)
  (hQ:∀x y h' tk,P1 k1 x->P2 k2 y->IsZip h' z TI TO (rawInt s.heap.objs.size)->IsPair h' TO x y->S1 (k1+1) h'->S2 (k2+1) h'->IsPair h' s.heap.objs.size x y->h'.objs.size=s.heap.objs.size+1 →
   (∀c o,c≠z->c≠TO->c≠i1->c≠i2->s.heap.get? c=some o->h'.get? c=some o)->Q (.ref s.heap.objs.size) { s with heap:=h',toks:=tk }) :
  wpAny (model prog w) A (Builtin.«zip.__next__» ⟨[.ref z],[]⟩) (fun fin s'=>∃v,fin=.done (.ret v)/\Q v s') E s:=by
 show wpAny _ _ (field (.ref z) 2 >>= _) _ _ _;refine wpAny_bind (wpAny_field hz rfl (x:=.bool false) rfl ?_);show wpAny _ _ (field (.ref z) 3 >>= _) _ _ _;refine wpAny_bind (wpAny_field hz rfl (x:=.ref TI) rfl ?_);refine wpAny_bind (wpAny_seqItems hTI rfl ?_);show wpAny _ _ (Builtin.SmallTypes.ownedTupleIsFree (.ref z) >>= _) _ _ _;refine wpAny_bind ?_;unfold Builtin.SmallTypes.ownedTupleIsFree;refine wpAny_bind (wpAny_field hz rfl (x:=.none) rfl (wpAny_pure ?_));simp only [if_true];refine wpAny_bind (wpAny_rule ?_);refine wpAny_bind (wpAny_field hz rfl (x:=.ref TO) rfl ?_);refine wpAny_bind (wpAny_setField_rec hz (by simp) fun h₁ hz₁ hs₁=>?_);replace hz₁:IsZip h₁ z TI TO .ellipsis:=hz₁;refine wpAny_bind ?_;simp only [List.zipIdx_cons,List.zipIdx_nil,List.forIn_cons,List.forIn_nil];refine wpAny_bind (wpAny_bind (wpAny_onRaise ?_));show wpAny _ _ (Builtin.SmallTypes.nextOf (.ref i1) >>= _) _ _ _;refine wpAny_bind (D1.item k1 _ _ _ hx (D1.frame _ _ _ h1 fun c hc o e=>hs₁.extBut _ _ (nin D.z1 hc) e) fun x h₂ tk₂ px h1₂ hs₂=>wpAny_pure ?_);have hTO₂:IsPair h₂ TO a b:=hs₂.extBut _ _ D.TOi1 (hs₁.extBut _ _ D.TOz hTO);refine wpAny_bind (wpAny_seqItems hTO₂ rfl ?_);refine wpAny_bind (wpAny_updateSeq_pair hTO₂ fun h₃ hTO₃ hs₃=>?_);replace hTO₃:IsPair h₃ TO x b:=hTO₃;refine wpAny_bind (wpAny_letGo (wpAny_pure ?_));refine wpAny_bind (wpAny_bind (wpAny_onRaise ?_));show wpAny _ _ (Builtin.SmallTypes.nextOf (.ref i2) >>= _) _ _ _;refine wpAny_bind (D2.item k2 _ _ _ hy (D2.frame _ _ _ h2 fun c hc o e=>hs₃.extBut _ _ (nin D.O2 hc) (hs₂.extBut _ _ (nin D.i1f hc) (hs₁.extBut _ _ (nin D.z2 hc) e))) fun y h₄ tk₄ py h2₄ hs₄=>wpAny_pure ?_);have hTO₄:IsPair h₄ TO x b:=hs₄.extBut _ _ D.TOi2 hTO₃;refine wpAny_bind (wpAny_seqItems hTO₄ rfl ?_);refine wpAny_bind (wpAny_updateSeq_pair hTO₄ fun h₅ hTO₅ hs₅=>?_);replace hTO₅:IsPair h₅ TO x y:=hTO₅;refine wpAny_bind (wpAny_letGo (wpAny_pure (wpAny_pure ?_)));refine wpAny_bind (wpAny_seqItems hTO₅ rfl ?_);refine wpAny_bind (wpAny_newTuple ?_)
 have hsz:h₅.objs.size=s.heap.objs.size:=by rw [hs₅.1,hs₄.1,hs₃.1,hs₂.1,hs₁.1]
 have hz₅:IsZip h₅ z TI TO .ellipsis:=hs₅.extBut _ _ D.TOz.symm (hs₄.extBut _ _ D.i2z.symm (hs₃.extBut _ _ D.TOz.symm (hs₂.extBut _ _ D.i1z.symm hz₁)))
 have hk₅:∀c o,c≠z->c≠TO->c≠i1->c≠i2->s.heap.get? c=some o->h₅.get? c=some o:=fun c o c1 c2 c3 c4 e =>
  hs₅.extBut _ _ c2 (hs₄.extBut _ _ c4 (hs₃.extBut _ _ c2 (hs₂.extBut _ _ c3 (hs₁.extBut _ _ c1 e))))
 have h1₅:S1 (k1+1) h₅:=D1.frame _ _ _ h1₂ fun c hc o e=>hs₅.extBut _ _ (nin D.O1 hc) (hs₄.extBut _ _ (nin D.i2f hc) (hs₃.extBut _ _ (nin D.O1 hc) e))
 have h2₅:S2 (k2+1) h₅:=D2.frame _ _ _ h2₄ fun c hc o e=>hs₅.extBut _ _ (nin D.O2 hc) e
 have hzlt:z<h₅.objs.size:=Heap.lt_size hz₅;have hTOlt:TO<h₅.objs.size:=Heap.lt_size hTO₅;show wpAny _ _ (Builtin.SmallTypes.ownedTupleHandOut (.ref z) (.ref h₅.objs.size) >>= _) _ _ _;refine wpAny_bind ?_;unfold Builtin.SmallTypes.ownedTupleHandOut;have hz₆:IsZip (h₅.push { cls:=.type "tuple",data:=.seq #[x,y] }) z TI TO .ellipsis:=Heap.get?_push_of_some _ hz₅;refine wpAny_bind (wpAny_setField_rec hz₆ (by simp) fun h₇ hz₇ hs₇=>?_);replace hz₇:IsZip h₇ z TI TO (rawInt h₅.objs.size):=hz₇;refine wpAny_setField_rec hz₇ (by simp) fun h₈ hz₈ hs₈=>?_
 replace hz₈:IsZip h₈ z TI TO (rawInt h₅.objs.size):=hz₈;have up:∀c o,c≠z->h₅.get? c=some o->h₈.get? c=some o:=fun c o c1 e=>hs₈.extBut _ _ c1 (hs₇.extBut _ _ c1 (Heap.get?_push_of_some _ e))
 have hT₈:IsPair h₈ h₅.objs.size x y:=hs₈.extBut _ _ (Nat.ne_of_gt hzlt) (hs₇.extBut _ _ (Nat.ne_of_gt hzlt) (Heap.get?_push_size _ rfl))
 have hz8:h₈.objs.size=h₅.objs.size+1:=by rw [hs₈.1,hs₇.1,Heap.size_push]
 rw [hsz] at hz₈ hT₈ hz8;refine wpAny_pure ⟨_,rfl,?_⟩;show Q (.ref h₅.objs.size) _;rw [hsz];exact hQ x y h₈ tk₄ px py hz₈ (up _ _ D.TOz hTO₅) (D1.frame _ _ _ h1₅ fun c hc o e=>up _ o (nin D.z1 hc) e) (D2.frame _ _ _ h2₅ fun c hc o e=>up _ o (nin D.z2 hc) e) hT₈ hz8 fun c o c1 c2 c3 c4 e=>up c o c1 (hk₅ c o c1 c2 c3 c4 e)
theorem zfL{z TI TO i1 i2:Addr}{f1 f2:List Addr}{n1 n2:Nat}{P1 P2:Nat->Value->Prop}{S1 S2:Nat->Heap->Prop}{k1 k2:Nat}{a b:Value}{Q:Fin->Shared->Prop}(D:ZipD z TI TO i1 i2 f1 f2)
  (D1:Draws prog w A i1 f1 n1 P1 S1) (D2:Draws prog w A i2 f2 n2 P2 S2)
  (hz:IsZip s.heap z TI TO .none) (hTI:IsPair s.heap TI (.ref i1) (.ref i2)) (hTO:IsPair s.heap TO a b)
  (h1:S1 k1 s.heap) (h2:S2 k2 s.heap) (hend:k1=n1\/(k1<n1/\k2=n2))
  (hE:∀h' e tk,(∀c o,c≠z->c≠TO->c≠i1->c≠i2->s.heap.get? c=some o->h'.get? c=some o)->(∃o,h'.get? e=some o/\o.cls=.type "StopIteration")->E (.ref e) { s with heap:=h',toks:=tk }) :
  wpAny (model prog w) A (Builtin.«zip.__next__» ⟨[.ref z],[]⟩) Q E s:=by
 show wpAny _ _ (field (.ref z) 2 >>= _) _ _ _;refine wpAny_bind (wpAny_field hz rfl (x:=.bool false) rfl ?_);show wpAny _ _ (field (.ref z) 3 >>= _) _ _ _;refine wpAny_bind (wpAny_field hz rfl (x:=.ref TI) rfl ?_);refine wpAny_bind (wpAny_seqItems hTI rfl ?_);show wpAny _ _ (Builtin.SmallTypes.ownedTupleIsFree (.ref z) >>= _) _ _ _;refine wpAny_bind ?_;unfold Builtin.SmallTypes.ownedTupleIsFree;refine wpAny_bind (wpAny_field hz rfl (x:=.none) rfl (wpAny_pure ?_));simp only [if_true];refine wpAny_bind (wpAny_rule ?_);refine wpAny_bind (wpAny_field hz rfl (x:=.ref TO) rfl ?_);refine wpAny_bind (wpAny_setField_rec hz (by simp) fun h₁ hz₁ hs₁=>?_);replace hz₁:IsZip h₁ z TI TO .ellipsis:=hz₁;refine wpAny_bind ?_;simp only [List.zipIdx_cons,List.zipIdx_nil,List.forIn_cons,List.forIn_nil];refine wpAny_bind (wpAny_bind (wpAny_onRaise ?_));show wpAny _ _ (Builtin.SmallTypes.nextOf (.ref i1) >>= _) _ _ _;have h1₁:S1 k1 h₁:=D1.frame _ _ _ h1 fun c hc o e=>hs₁.extBut _ _ (nin D.z1 hc) e
 rcases hend with rfl | ⟨hx,rfl⟩
 ·refine wpAny_bind (D1.done _ _ _ h1₁ fun h₂ e hs₂ he=>?_);obtain ⟨oe,hoe,hce⟩:=he;have hz₂:IsZip h₂ z TI TO .ellipsis:=hs₂ _ _ D.i1z.symm hz₁
  have hez:e≠z:=fun x=>by subst x;rw [hz₂] at hoe;cases hoe;simp at hce
  refine wpAny_setField_rec hz₂ (by simp) fun h₃ _ hs₃=>hE h₃ e _ (fun c o c1 _ c3 _ x=>hs₃.extBut _ _ c1 (hs₂ _ _ c3 (hs₁.extBut _ _ c1 x))) ⟨oe,hs₃.extBut _ _ hez hoe,hce⟩
 ·refine wpAny_bind (D1.item k1 _ _ _ hx h1₁ fun x h₂ tk₂ px h1₂ hs₂=>wpAny_pure ?_);have hTO₂:IsPair h₂ TO a b:=hs₂.extBut _ _ D.TOi1 (hs₁.extBut _ _ D.TOz hTO);refine wpAny_bind (wpAny_seqItems hTO₂ rfl ?_);refine wpAny_bind (wpAny_updateSeq_pair hTO₂ fun h₃ hTO₃ hs₃=>?_);refine wpAny_bind (wpAny_letGo (wpAny_pure ?_));refine wpAny_bind (wpAny_bind (wpAny_onRaise ?_));show wpAny _ _ (Builtin.SmallTypes.nextOf (.ref i2) >>= _) _ _ _;refine wpAny_bind (D2.done _ _ _ (D2.frame _ _ _ h2 fun c hc o e=>hs₃.extBut _ _ (nin D.O2 hc) (hs₂.extBut _ _ (nin D.i1f hc) (hs₁.extBut _ _ (nin D.z2 hc) e))) fun h₄ e hs₄ he=>?_);obtain ⟨oe,hoe,hce⟩:=he;have hz₄:IsZip h₄ z TI TO .ellipsis:=hs₄ _ _ D.i2z.symm (hs₃.extBut _ _ D.TOz.symm (hs₂.extBut _ _ D.i1z.symm hz₁))
  have hez:e≠z:=fun x=>by subst x;rw [hz₄] at hoe;cases hoe;simp at hce
  refine wpAny_setField_rec hz₄ (by simp) fun h₅ _ hs₅=>hE h₅ e _ (fun c o c1 c2 c3 c4 x=>hs₅.extBut _ _ c1 (hs₄ _ _ c4 (hs₃.extBut _ _ c2 (hs₂.extBut _ _ c3 (hs₁.extBut _ _ c1 x))))) ⟨oe,hs₅.extBut _ _ hez hoe,hce⟩
abbrev zG1(b1:Bool)(h:Heap)(l1:Addr):Heap:=h.push { cls:=.type (itN b1),data:=.fields #[.ref l1,.int 0 0] }
abbrev zG2(b1 b2:Bool)(h:Heap)(l1 l2:Addr):Heap:=(zG1 b1 h l1).push { cls:=.type (itN b2),data:=.fields #[.ref l2,.int 0 0] }
abbrev zG3(b1 b2:Bool)(h:Heap)(l1 l2:Addr):Heap:=(zG2 b1 b2 h l1 l2).push { cls:=.type "tuple",data:=.seq #[.ref h.objs.size,.ref (zG1 b1 h l1).objs.size] }
abbrev zG4(b1 b2:Bool)(h:Heap)(l1 l2:Addr):Heap:=(zG3 b1 b2 h l1 l2).push { cls:=.type "tuple",data:=.seq #[.none,.none] }
abbrev zG5(b1 b2:Bool)(h:Heap)(l1 l2:Addr):Heap:=(zG4 b1 b2 h l1 l2).push { cls:=.type "zip",data:=.fields #[.none,.bool false,.bool false,.ref (zG2 b1 b2 h l1 l2).objs.size,.ref (zG3 b1 b2 h l1 l2).objs.size] }
theorem zfm(b1 b2:Bool)(l1 l2:Addr)(xs ys:Array Value) :
  Meets (Builtin.«zip.__new__» ⟨[.type "zip",.ref l1,.ref l2],[]⟩) (fun _ R s=>zje b1 s.heap l1 xs/\zje b2 s.heap l2 ys ∧
   R (.ok (.ret (.ref (zG4 b1 b2 s.heap l1 l2).objs.size))) { s with heap:=zG5 b1 b2 s.heap l1 l2 }) :=
 .of_wp fun prog w A R s h=>by
  obtain ⟨hp,g,d,tk,os⟩:=s;obtain ⟨hl1,hl2,h⟩:=h;have hsub:=sub_zip;have hL1:zje b1 (Shared.heap ⟨hp,g,d,tk,os⟩) l1 xs:=hl1;have hL2:zje b2 (Shared.heap ⟨hp.push { cls:=.type (itN b1),data:=.fields #[.ref l1,.int 0 0] },g,d,tk,os⟩) l2 ys:=hl2.keep fun o e=>Heap.get?_push_of_some _ e
  wp_walk using zgG hL1,zgG hL2
  exact ⟨_,rfl,h⟩
theorem zm6{b:Bool}{h:Heap}{it a:Addr}(g:h.get? it=some { cls:=.type (itN b),data:=.fields #[.ref a,.int 0 0] }):zlj b h it a 0:=by
 cases b with
 | true=>exact ⟨_,g,rfl,rfl⟩
 | false=>exact ⟨_,g,rfl,rfl⟩
theorem zk3{b1 b2:Bool}{l1 l2:Addr}{xs ys:Array Value}{Q:Z5}(hl1:zje b1 s.heap l1 xs)(hl2:zje b2 s.heap l2 ys)
  (h:∀h',IsZip h' (s.heap.objs.size+4) (s.heap.objs.size+2) (s.heap.objs.size+3) .none->IsPair h' (s.heap.objs.size+2) (.ref s.heap.objs.size) (.ref (s.heap.objs.size+1)) →
   IsPair h' (s.heap.objs.size+3) .none .none->zlj b1 h' s.heap.objs.size l1 0->zlj b2 h' (s.heap.objs.size+1) l2 0->h'.objs.size=s.heap.objs.size+5 →
   (∀c o,s.heap.get? c=some o->h'.get? c=some o)->Q (.ref (s.heap.objs.size+4)) { s with heap:=h' }) :
  wpAny (model prog w) A (call (.type "zip") [.ref l1,.ref l2]) Q E s:=by
 refine callType_new F.called_zip (by decide) (F.typeCall_zip_2 _ _) (F.newCall_zip_2 _ _) (fun obj=>F.args_object_init_3 obj _ _) F.entry_zip_new
  (zfm b1 b2 l1 l2 xs ys) ⟨hl1,hl2,?_⟩
 have z1:(zG1 b1 s.heap l1).objs.size=s.heap.objs.size+1:=Heap.size_push ..
 have z2:(zG2 b1 b2 s.heap l1 l2).objs.size=s.heap.objs.size+2:=by rw [Heap.size_push,z1]
 have z3:(zG3 b1 b2 s.heap l1 l2).objs.size=s.heap.objs.size+3:=by rw [Heap.size_push,z2]
 have z4:(zG4 b1 b2 s.heap l1 l2).objs.size=s.heap.objs.size+4:=by rw [Heap.size_push,z3]
 have z5:(zG5 b1 b2 s.heap l1 l2).objs.size=s.heap.objs.size+5:=by rw [Heap.size_push,z4]
 have g5:(zG5 b1 b2 s.heap l1 l2).get? (zG4 b1 b2 s.heap l1 l2).objs.size=some _:=Heap.get?_push_size _ rfl;have g4:(zG5 b1 b2 s.heap l1 l2).get? (zG3 b1 b2 s.heap l1 l2).objs.size=some _:=Heap.get?_push_of_some _ (Heap.get?_push_size _ rfl);have g3:(zG5 b1 b2 s.heap l1 l2).get? (zG2 b1 b2 s.heap l1 l2).objs.size=some _:=Heap.get?_push_of_some _ (Heap.get?_push_of_some _ (Heap.get?_push_size _ rfl));have g2:(zG5 b1 b2 s.heap l1 l2).get? (zG1 b1 s.heap l1).objs.size=some { cls:=.type (itN b2),data:=.fields #[.ref l2,.int 0 0] }:=Heap.get?_push_of_some _ (Heap.get?_push_of_some _ (Heap.get?_push_of_some _ (Heap.get?_push_size _ rfl)));have g1:(zG5 b1 b2 s.heap l1 l2).get? s.heap.objs.size=some { cls:=.type (itN b1),data:=.fields #[.ref l1,.int 0 0] }:=Heap.get?_push_of_some _ (Heap.get?_push_of_some _ (Heap.get?_push_of_some _ (Heap.get?_push_of_some _ (Heap.get?_push_size _ rfl))));show _/\_;rw [z2,z3,z4] at g5;rw [z1,z2] at g3;rw [z3] at g4;rw [z1] at g2;rw [z4]
 exact ⟨⟨_,g5,rfl⟩,h _ g5 g3 g4 (zm6 g1) (zm6 g2) z5 fun c o x =>
  Heap.get?_push_of_some _ (Heap.get?_push_of_some _ (Heap.get?_push_of_some _ (Heap.get?_push_of_some _ (Heap.get?_push_of_some _ x))))⟩
end
end L2
namespace L2
open PySem PySem.Spec PyProof.Rows
section
variable{X:Cx}{pins:Z3}{σ:St}{H:Hp}{s:Shared}
def SqB(b:Bool)(H:Hp)(a:Addr)(xs:List V):Prop:=match b with | true=>H a=some (.lst xs) | false=>H a=some (.tup xs)
theorem Inv.sq{b:Bool}{a:Addr}{xs:List V}(I:Inv X pins σ H s)(h:SqB b H a xs):∃its:List Value,Vals xs its/\zje b s.heap a its.toArray:=by
 cases b with
 | true=>obtain ⟨its,rv,p,_⟩:=I.list (SqL.of h);exact ⟨its,rv,p.isList⟩
 | false=>obtain ⟨its,rv,p,_⟩:=I.tuple (SqT.of h);exact ⟨its,rv,p⟩
theorem Inv.sq_inj{b:Bool}{a:Addr}{xs ys:List V}(I:Inv X pins σ H s)(h:SqB b H a xs)(h':SqB b H a ys):xs=ys:=by
 cases b with
 | true=>exact I.list_inj (SqL.of h) (SqL.of h')
 | false=>exact I.tuple_inj (SqT.of h) (SqT.of h')
def ItZ(b1 b2:Bool)(l1 l2:Addr):It :=
 ⟨fun i H=>∃xs ys x y,SqB b1 H l1 xs/\SqB b2 H l2 ys/\xs[i]?=some x/\ys[i]?=some y,
  fun i H v H'=>∃t x y,v=.ref t/\H t=none/\H'=upd H t (.tup [x,y])/\(∀xs,SqB b1 H l1 xs->xs[i]?=some x)/\∀ys,SqB b2 H l2 ys->ys[i]?=some y,
  fun i H=>∃xs ys,SqB b1 H l1 xs/\SqB b2 H l2 ys/\(i=xs.length\/(i<xs.length/\i=ys.length))⟩
theorem znl{z TI TO i1 i2 T:Addr}{h1 h2:Heap}{tk:Nat}{u1 u2:Value}{y1 y2:V}(I:Inv X pins σ H s)(hf:∀b∈[z,TI,TO,i1,i2],zlp X pins H b)(hT:T=s.heap.objs.size)(te:h1.get? T=some { cls:=.type "tuple",data:=.seq #[u1,u2] })
  (k:∀b o,b≠z->b≠TO->b≠i1->b≠i2->s.heap.get? b=some o->h1.get? b=some o) (sb:Heap.SameBut z h1 h2) (ne:T≠z) (r1:zbp y1 u1) (r2:zbp y2 u2):Inv X pins σ (upd H T (.tup [y1,y2])) { s with heap:=h2,toks:=tk }/\H T=none:=by
 have fr:H T=none:=by rw [hT];exact I.hok.fresh (Nat.le_refl _)
 refine ⟨?_,fr⟩
 have I1:Inv X pins σ H { s with heap:=h2,toks:=tk }:=I.turnedL (ch:=[z,TI,TO,i1,i2]) (fun b o hb q=>by
  simp only [List.mem_cons,List.not_mem_nil,or_false,not_or] at hb
  exact (sb.2 b hb.1).trans (k b o hb.1 hb.2.2.1 hb.2.2.2.1 hb.2.2.2.2 q)) hf
 refine I1.track fr (by rw [hT];exact I.sz) (by rw [hT];exact Nat.ne_of_gt I.lt) (fun z c q=>?_) (fun p hp=>?_) ?_
 ·obtain ⟨v,cq⟩:=I.cell z c q;rw [hT];exact Nat.ne_of_lt cq.lt
 ·rw [hT];exact Nat.ne_of_lt (Heap.lt_size (I.pin p hp).1)
 ·refine ⟨by show 2<=sizeLine;decide,[u1,u2],.cons r1 (.cons r2 .nil),?_⟩;exact ⟨_,(sb.2 T ne).trans te,rfl,_,rfl⟩
structure ZipI(z TI TO i1 i2:Addr):Prop where
 TIz:TI≠z
 TOz:TO≠z
 i1z:i1≠z
 i2z:i2≠z
 TITO:TI≠TO
 TIi1:TI≠i1
 TIi2:TI≠i2
 TOi1:TO≠i1
 TOi2:TO≠i2
 i12:i1≠i2
theorem SqB.ne{b:Bool}{a c:Addr}{xs:List V}(h:SqB b H a xs)(n:H c=none):a≠c:=by
 rintro rfl
 cases b with
 | true=>rw [show H a=_ from h] at n;cases n
 | false=>rw [show H a=_ from h] at n;cases n
theorem zls{P:Program}{w:World}{K:PySem.W.Frag}{elts:List Expr}{x1:Nat}{pos:Pos}(b1 b2:Bool)(l1 l2 z TI TO i1 i2:Addr)(D:ZipI z TI TO i1 i2):Turn P w K (.Tuple elts x1 pos) (ItZ b1 b2 l1 l2) [z,TI,TO,i1,i2] z (fun i h=>IsZip h z TI TO .none/\IsPair h TI (.ref i1) (.ref i2)/\(∃a b,IsPair h TO a b)/\zlj b1 h i1 l1 i/\zlj b2 h i2 l2 i) where
 mem:=by simp
 obj:=fun i h st b hb=>by
  obtain ⟨hz,hI,⟨a,c,hO⟩,h1,h2⟩:=st;simp only [List.mem_cons,List.not_mem_nil,or_false] at hb
  rcases hb with rfl | rfl | rfl | rfl | rfl
  ·exact ⟨_,hz,fun v e=>by cases e⟩
  ·exact ⟨_,hI,fun v e=>by cases e⟩
  ·exact ⟨_,hO,fun v e=>by cases e⟩
  ·exact h1.live
  ·exact h2.live
 keep:=fun i h h' st k=>by
  obtain ⟨hz,hI,⟨a,c,hO⟩,h1,h2⟩:=st;exact ⟨k _ (by simp) _ hz,k _ (by simp) _ hI,⟨a,c,k _ (by simp) _ hO⟩,h1.keep fun o e=>k _ (by simp) o e,h2.keep fun o e=>k _ (by simp) o e⟩
 item:=by
  intro X hP hw hK hc i pins s σ H E I hf st hg;subst hP hw hK;obtain ⟨xs,ys,x,y,q1,q2,e1,e2⟩:=hg;obtain ⟨hz,hI,⟨a,c,hO⟩,h1,h2⟩:=st;obtain ⟨its,rv1,p1⟩:=I.sq q1;obtain ⟨jts,rv2,p2⟩:=I.sq q2;obtain ⟨u1,hu1,ru1⟩:=rv1.get e1;obtain ⟨u2,hu2,ru2⟩:=rv2.get e2
  have hlt1:i<its.toArray.size:=by simpa using (List.getElem?_eq_some_iff.mp hu1).1
  have hlt2:i<jts.toArray.size:=by simpa using (List.getElem?_eq_some_iff.mp hu2).1
  have n1:∀b∈[z,TI,TO,i1,i2],l1≠b:=fun b hb=>q1.ne (hf b hb).1
  have n2:∀b∈[z,TI,TO,i1,i2],l2≠b:=fun b hb=>q2.ne (hf b hb).1
  have D':ZipD z TI TO i1 i2 [i1,l1] [i2,l2]:=⟨D.TIz,D.TOz,D.i1z,D.i2z,D.TITO,D.TIi1,D.TIi2,D.TOi1,D.TOi2,D.i12,
   by simp [D.i1z.symm,(n1 z (by simp)).symm],by simp [D.i2z.symm,(n2 z (by simp)).symm],by simp [D.TOi1,(n1 TO (by simp)).symm],by simp [D.TOi2,(n2 TO (by simp)).symm],
   by simp [D.i12,(n2 i1 (by simp)).symm],by simp [D.i12.symm,(n1 i2 (by simp)).symm]⟩
  have hT:s.TypeIs (.ref z) "zip":=⟨_,hz,rfl⟩;unfold pyNext
  refine wpAny_bind (wpAny_attempt (wpAny_callSpecial?_slot (name:=Str.ofString "__next__") hT F.slot_zip_next (wpAny_call_entry F.slot_zip_next hT F.entry_zip_next
   (zfk D' (zeF (A:=X.A.in1) (I.ok.hd hc) b1 i1 l1 (n1 i1 (by simp)) its.toArray) (zeF (A:=X.A.in1) (I.ok.hd hc) b2 i2 l2 (n2 i2 (by simp)) jts.toArray) hz hI hO ⟨h1,p1⟩ ⟨h2,p2⟩ hlt1 hlt2 fun v1 v2 h' tk pv1 pv2 a1 a2 a3 a4 a5 a6 a7=>wpAny_pure ?_) (F.args_zip_next_1 _))))
  have ev1:v1=u1:=by
   have:its[i]?=some v1:=by simpa using pv1
   rw [hu1] at this;exact (Option.some.inj this).symm
  have ev2:v2=u2:=by
   have:jts[i]?=some v2:=by simpa using pv2
   rw [hu2] at this;exact (Option.some.inj this).symm
  subst ev1 ev2;have neT:s.heap.objs.size≠z:=Nat.ne_of_gt (Heap.lt_size hz);refine ⟨_,rfl,wpAny_letOwnedTupleGo_zip a1 fun h2' hz2 sb=>?_⟩;obtain ⟨I2,fr⟩:=znl (tk:=tk) (h2:=h2') I hf rfl a5 a7 sb neT ru1 ru2;refine ⟨.ref s.heap.objs.size,_,I2,rfl,⟨_,x,y,rfl,fr,rfl,fun xs' hx'=>by rw [I.sq_inj hx' q1];exact e1,fun ys' hy'=>by rw [I.sq_inj hy' q2];exact e2⟩,⟨hz2,(sb.2 _ D.TIz).trans (a7 _ _ D.TIz D.TITO D.TIi1 D.TIi2 hI),⟨_,_,(sb.2 _ D.TOz).trans a2⟩,a3.1.keep fun o e=>(sb.2 _ D.i1z).trans e,a4.1.keep fun o e=>(sb.2 _ D.i2z).trans e⟩,fun b hb=>?_⟩;rw [zar]
  ·exact (hf b hb).1
  ·rintro rfl
   have hlive:∃o,s.heap.get? s.heap.objs.size=some o:=by
    simp only [List.mem_cons,List.not_mem_nil,or_false] at hb
    rcases hb with e | e | e | e | e
    ·exact absurd e neT
    ·rw [e];exact ⟨_,hI⟩
    ·rw [e];exact ⟨_,hO⟩
    ·rw [e];obtain ⟨o,q,_⟩:=h1.live;exact ⟨o,q⟩
    ·rw [e];obtain ⟨o,q,_⟩:=h2.live;exact ⟨o,q⟩
   obtain ⟨o,q⟩:=hlive;exact absurd (Heap.lt_size q) (Nat.lt_irrefl _)
 done:=by
  intro X hP hw hK hc i pins s σ H E I hf st hg;subst hP hw hK;obtain ⟨xs,ys,q1,q2,he⟩:=hg;obtain ⟨hz,hI,⟨a,c,hO⟩,h1,h2⟩:=st;obtain ⟨its,rv1,p1⟩:=I.sq q1;obtain ⟨jts,rv2,p2⟩:=I.sq q2;have hl1:=rv1.length;have hl2:=rv2.length;have n1:∀b∈[z,TI,TO,i1,i2],l1≠b:=fun b hb=>q1.ne (hf b hb).1
  have n2:∀b∈[z,TI,TO,i1,i2],l2≠b:=fun b hb=>q2.ne (hf b hb).1
  have D':ZipD z TI TO i1 i2 [i1,l1] [i2,l2]:=⟨D.TIz,D.TOz,D.i1z,D.i2z,D.TITO,D.TIi1,D.TIi2,D.TOi1,D.TOi2,D.i12,
   by simp [D.i1z.symm,(n1 z (by simp)).symm],by simp [D.i2z.symm,(n2 z (by simp)).symm],by simp [D.TOi1,(n1 TO (by simp)).symm],by simp [D.TOi2,(n2 TO (by simp)).symm],
   by simp [D.i12,(n2 i1 (by simp)).symm],by simp [D.i12.symm,(n1 i2 (by simp)).symm]⟩
  have hT:s.TypeIs (.ref z) "zip":=⟨_,hz,rfl⟩;unfold pyNext
  refine wpAny_bind (wpAny_attempt (wpAny_callSpecial?_slot (name:=Str.ofString "__next__") hT F.slot_zip_next (wpAny_call_entry F.slot_zip_next hT F.entry_zip_next
   (zfL D' (zeF (A:=X.A.in1) (I.ok.hd hc) b1 i1 l1 (n1 i1 (by simp)) its.toArray) (zeF (A:=X.A.in1) (I.ok.hd hc) b2 i2 l2 (n2 i2 (by simp)) jts.toArray) hz hI hO ⟨h1,p1⟩ ⟨h2,p2⟩ (by simp;omega) fun h' e tk hk he'=>?_) (F.args_zip_next_1 _))))
  obtain ⟨o,ho,hcl⟩:=he';refine wpAny_bind (wpAny_isInstance (T:="StopIteration") (b:=true) ⟨o,ho,hcl⟩ isSubtype_stop ?_);refine wpAny_pure ⟨rfl,I.turnedL (ch:=[z,TI,TO,i1,i2]) (fun b o hb q=>?_) hf⟩;simp only [List.mem_cons,List.not_mem_nil,or_false,not_or] at hb;exact hk b o hb.1 hb.2.2.1 hb.2.2.2.1 hb.2.2.2.2 q
 self:=fun _ _ _ _ _ st h=>wpAny_pyIter_zip st.1 h
theorem zmC:bootBuiltins "zip" = some (.type "zip"):=by decide +kernel
theorem zpi{b1 b2:Bool}{elts:List Expr}{x1:Nat}{tp:Pos}{s1:Shared}{H1:Hp}{l1 l2:Addr}{xs ys:List V}{R:It->Hp->Prop}(I1:Inv X pins σ H1 s1)(q1:SqB b1 H1 l1 xs)(q2:SqB b2 H1 l2 ys)(q:R (ItZ b1 b2 l1 l2) H1) :
  wpAny (model X.prog X.w) X.A (call (.type "zip") [.ref l1,.ref l2]) (fun v s2=>wpAny (model X.prog X.w) X.A (pyIter v) (PIE X pins σ (.Tuple elts x1 tp) R) X.xe s2) X.xe s1:=by
 obtain ⟨its,rv1,p1⟩:=I1.sq q1;obtain ⟨jts,rv2,p2⟩:=I1.sq q2;refine zk3 p1 p2 fun h' hz hI hO hi1 hi2 hsz hk=>wpAny_pyIter_zip hz ?_
 refine ⟨s1.heap.objs.size+4,[s1.heap.objs.size+4,s1.heap.objs.size+2,s1.heap.objs.size+3,s1.heap.objs.size,s1.heap.objs.size+1],_,_,H1,rfl,I1.kept (t':=s1.toks) hk,zls b1 b2 l1 l2 _ _ _ _ _ ⟨?_,?_,?_,?_,?_,?_,?_,?_,?_,?_⟩,⟨hz,hI,⟨_,_,hO⟩,hi1,hi2⟩,fun c hb=>?_,q⟩
 all_goals try (first | omega | exact Nat.ne_of_lt (by omega) | exact Nat.ne_of_gt (by omega))
 simp only [List.mem_cons,List.not_mem_nil,or_false] at hb
 have hc:s1.heap.objs.size<=c:=by rcases hb with rfl | rfl | rfl | rfl | rfl<;>omega
 exact I1.fpOk hc (I1.hok.fresh hc)
end
end L2
namespace PySem.F
end PySem.F
namespace L2
open PySem PySem.Spec PyProof.Rows
section
variable{prog:Program}{w:World}{A:Around}{E:Z5}{s:Shared}
end
section
variable{X:Cx}{pins:Z3}{σ:St}{H:Hp}{s:Shared}
end
end L2
namespace S2
open PySem PySem.Spec PyProof.Rows L2
section
variable{X:Cx}{cl:Cf}{E:St->XK}{e tg:Expr}{f:Fe}{own:Bool}{pos pos':Pos}
def zrW:List D->Option D | [.int i,.int j]=>some (.int (if j<i then j else i)) | _=>none
theorem zry(hc:X.calm=true):zhd X cl (.builtin "min") zrW:=by
 intro pins s σ H xs us Q I r h;obtain ⟨w,ds,d,rfl,hx,hg,q⟩:=h;unfold zrW at hg;split at hg
 ·rename_i i j;cases hg
  cases hx with
  | cons h1 h2=>cases h2 with
   | cons h2 h3 =>
    cases h3;obtain rfl:=h1.intI;obtain rfl:=h2.intI;exact zk5 hc pins s σ w.H _ us Q I r ⟨i,j,rfl,q _ w (Grow.refl _) (.int _)⟩
 ·cases hg
def zfn:List D->List D->List D
 | x::xs,y::ys=>.tup [x,y]::zfn xs ys
 | _,_=>[]
theorem zey:∀(xs ys:List D),(zfn xs ys).length=min xs.length ys.length
 | [],_=>by simp [zfn]
 | _::_,[]=>by simp [zfn]
 | _::xs,_::ys=>by simp [zfn,zey xs ys]
theorem zfM:∀{xs ys:List D} {i:Nat} {d:D},(zfn xs ys)[i]?=some d->∃x y,xs[i]?=some x/\ys[i]?=some y/\d=.tup [x,y]
 | [],_,_,_,h=>by simp [zfn] at h
 | _::_,[],_,_,h=>by simp [zfn] at h
 | x::xs,y::ys,0,d,h=>by
  simp only [zfn,List.getElem?_cons_zero,Option.some.injEq] at h;exact ⟨x,y,rfl,rfl,h.symm⟩
 | x::xs,y::ys,i+1,d,h=>by
  simp only [zfn,List.getElem?_cons_succ] at h ⊢;exact zfM h
def zpU:D->Option (List D) | .lst l=>some l | .tup l=>some l | _=>none
def zpd(f g:Fe):Fi:=fun ρ S=>(zan [f,g] ρ S).bind fun ds S1=>match ds with | [x,y]=>(match zpU x,zpU y with | some l,some k=>.ok (zfn l k) S1 | _,_=>.bad) | _=>.bad
theorem zrb{b1 b2:Bool}{w:Wd}{l1 l2:Addr}{xs ys:List V}{ds es:List D}(h1:∀w',Fut w w'->SqB b1 w'.H l1 xs)(h2:∀w',Fut w w'->SqB b2 w'.H l2 ys)(r1:Shds cl w xs ds)(r2:Shds cl w ys es):ItOk cl w (ItZ b1 b2 l1 l2) (zfn ds es):=by
 have e1:=r1.length;have e2:=r2.length;have el:=zey ds es;refine ⟨fun w1 F1 i hi=>⟨xs,ys,xs[i]'(by omega),ys[i]'(by omega),h1 w1 F1,h2 w1 F1,List.getElem?_eq_getElem (by omega),List.getElem?_eq_getElem (by omega)⟩,fun w1 F1=>⟨xs,ys,h1 w1 F1,h2 w1 F1,by omega⟩,fun w1 F1 i d x H1 hd y=>?_⟩;obtain ⟨t,v1,v2,rfl,ht,rfl,hx,hy⟩:=y;obtain ⟨z1,z2,hz1,hz2,rfl⟩:=zfM hd;obtain ⟨d1,q1,s1⟩:=r1.get (hx xs (h1 w1 F1));obtain ⟨d2,q2,s2⟩:=r2.get (hy ys (h2 w1 F1));rw [hz1] at q1;cases q1;rw [hz2] at q2;cases q2;exact ⟨w1.add t _,rfl,zaI ht _,Shd.newT ht (.cons (s1.up F1) (.cons (s2.up F1) .nil))⟩
theorem zhX{w:Wd}{v:V}{d:D}{l:List D}(h:Shd cl w v d)(e:zpU d=some l):∃(b:Bool) (a:Addr) (xs:List V),v=.ref a/\(∀w',Fut w w'->SqB b w'.H a xs)/\Shds cl w xs l:=by
 cases h with
 | lst ep k r=>cases e;exact ⟨true,_,_,rfl,fun w1 F1=>(F1.keep _ _ ep k).1,r⟩
 | tup ep k r=>cases e;exact ⟨false,_,_,rfl,fun w1 F1=>(F1.keep _ _ ep k).1,r⟩
 | _=>cases e
theorem zpO{a:Expr}{fa:Fe}{es:List Expr}{kk:Nat}{tp p:Pos}(hg:Gl X "zip")(hm:X.mg "zip" = none)(ha:PA X [a,e] (tAs cl E [fa,f]))(hs:starEach [a,e] X.env=(false,eval a X.env)::starEach [e] X.env)(hs2:(backTo pos (starEach [e] X.env)).any (·.1)=false):PI X (.Tuple es kk tp) (.Call (.Name "zip" p) [a,e] [] pos) (tI cl E (zpd fa f)):=by
 have ha':PA X [a,e] (fun σ H R=>tAs cl E [fa,f] σ H R):=ha;intro pins s σ H R' I q;refine Call_ (ze2 I hg hm L2.zmC (PyProof.Rows.callWith_type1 (thn (ha pos pins s σ H (fun vs H1=>∃b1 b2,∃l1 l2,vs=[.ref l1,.ref l2]/\(∃xs,SqB b1 H1 l1 xs)/\(∃ys,SqB b2 H1 l2 ys)/\R' (ItZ b1 b2 l1 l2) H1) I ?_) fun us s1 ⟨vs,H1,I1,r1,q1⟩=>?_) hs hs2))
 ·obtain ⟨B,w,ρ,S,rfl,R,q⟩:=q;refine ⟨B,w,ρ,S,rfl,R,?_⟩;unfold zpd at q
  cases hf:zan [fa,f] ρ S with
  | bad=>rw [hf] at q;exact q.elim
  | exc c S1=>rw [hf] at q;exact q
  | ok ds S1 =>
   rw [hf] at q;dsimp only [Out.bind] at q;intro vs w' R2 F2 sh;split at q
   ·rename_i l' S' hm';split at hm'
    ·rename_i x y;split at hm'
     ·rename_i l k hl hk;cases hm'
      cases sh with
      | cons h1 h2 =>
       cases h2 with
       | cons h2 h3 =>
        cases h3;obtain ⟨b1,a1,xs,rfl,p1,r1⟩:=zhX h1 hl;obtain ⟨b2,a2,ys,rfl,p2,r2⟩:=zhX h2 hk;exact ⟨b1,b2,a1,a2,rfl,⟨xs,p1 _ (Fut.refl _)⟩,⟨ys,p2 _ (Fut.refl _)⟩,q _ w' R2 F2 (zrb p1 p2 r1 r2)⟩
     ·cases hm'
    ·cases hm'
   ·rename_i hm';split at hm'
    ·split at hm'<;>cases hm'
    ·cases hm'
   ·exact q.elim
 ·obtain ⟨b1,b2,l1,l2,e,⟨xs,q1⟩,⟨ys,q2⟩,q⟩:=q1;subst e
  cases r1 with
  | cons r rr =>
   cases rr with
   | cons r' rr =>
    cases rr;cases r;cases r';exact zpi I1 q1 q2 q
end
end S2
namespace S2
open PySem PySem.Spec PyProof.Rows L2
section
variable{X:Cx}{cl:Cf}{E:St->XK}{e:Expr}{f:Fe}{pos':Pos}
def zng(l:List D)(d:D):Option D:=if d.fit 8&&D.fits 8 l then some (.int ((l.countP (zjU · d):Nat):Int)) else none
def zm8(l:List D)(d:D):Option D:=if d.fit 8&&D.fits 8 l&&decide (l.length<=1000000)&&zkl d l then some (.int ((l.findIdx (zjU · d):Nat):Int)) else none
end
end S2
namespace S2
open PySem PySem.Spec PyProof.Rows L2
def zxe(g:Str->Str->Option Bool)(C:Str):D->Option D
 | .exc c=>(g c C).map .bl
 | _=>none
def zvN(cl:Cf)(C:Str):Value:=if C = "ValueError" then .type "ValueError" else .ref (cl C)
section
variable{X:Cx}{cl:Cf}{E:St->XK}{own:Bool}{e:Expr}{f fe:Fe}{pos pos':Pos}
theorem zpf:bootBuiltins "ValueError" = some (.type "ValueError"):=by decide +kernel
def OpN(X:Cx)(cl:Cf)(op:Value->Value->Sem Value)(g:D->D->Option D):Prop:=OpR X op fun x y H Q=>∃w d e r,w.H=H/\TopV cl w x d/\TopV cl w y e/\g d e=some r/\∀p o w',Grow w w'->w'.H p=none->Top cl w' o r->Q (.ref p) (upd w'.H p o)
theorem zwo{a b:Expr}{h:Fe}{gg:D->D->Option D}{r2:R2}(hr:∀x y H Q,(∃w d e r,w.H=H/\TopV cl w x d/\TopV cl w y e/\gg d e=some r/\∀p o w',Grow w w'->w'.H p=none->Top cl w' o r->Q (.ref p) (upd w'.H p o))->r2 x y H Q)(σ:St)(H:Hp)(Q:VK)(q:tN cl E (zai gg f h) σ H Q):tOp r2 (tH cl E f) (tH cl E h) σ H Q:=by
 obtain ⟨B,w,ρ,S,rfl,R,q⟩:=q;refine ⟨B,w,ρ,S,rfl,R,?_⟩;unfold zai at q
 cases hf:f ρ S with
 | bad=>rw [hf] at q;exact q
 | exc c S1=>rw [hf] at q;exact q
 | ok d S1 =>
  rw [hf] at q;intro v w1 R1 F1 h1;refine ⟨B,w1,ρ,S1,rfl,R1,?_⟩;dsimp only [Out.bind] at q
  cases hh:h ρ S1 with
  | bad=>rw [hh] at q;exact q
  | exc c S2=>rw [hh] at q;exact fun w2 R2 F2=>q w2 R2 (F1.trans F2)
  | ok e S2 =>
   rw [hh] at q;intro y w2 R2 F2 h2;dsimp only at q
   cases hg:gg d e with
   | none=>rw [hg] at q;exact q.elim
   | some r =>
    rw [hg] at q;exact hr _ _ _ _ ⟨w2,d,e,r,rfl,(h1.up F2).top R2,h2.top R2,hg,fun p o w' gr hp t=>q p o w' (R2.grow gr) (F1.trans (F2.trans gr.fut)) hp t⟩
def ziU:D->D->Option D
 | .lst a,.int j=>if decide (0<=j/\j<=1000/\a.length<=1000) then some (.lst (List.replicate j.toNat a).flatten) else none
 | _,_=>none
theorem zof:OpN X cl (binaryOp .Mult) ziU:=by
 intro pins s σ H x y v u Q I rx ry h;obtain ⟨w,d,e,r,rfl,hx,hy,hg,q⟩:=h;unfold ziU at hg;split at hg
 ·rename_i a j;split at hg
  ·rename_i hz;cases hg;have hz':=of_decide_eq_true hz;obtain ⟨p,xs,rfl,ep,rs⟩:=hx.lstI;obtain rfl:=hy.intI;have hl:=rs.length;refine zmX pins s σ w.H _ _ v u Q I rx ry ⟨p,j,xs,rfl,rfl,ep,by omega,by omega,?_,fun l hl=>q l _ w (Grow.refl _) hl (.lst (rs.flat _))⟩;refine Nat.le_trans (Nat.mul_le_mul (show xs.length<=1000 by omega) (show j.toNat<=1000 by omega)) (by decide)
  ·cases hg
 ·cases hg
theorem znN{a b:Expr}{h:Fe}(ha:PE X a (tH cl E f))(hb:PE X b (tH cl E h)):PE X (.BinOp a .Mult b pos) (tN cl E (zai ziU f h)) :=
 PE.imp (zqp zof ha hb) (zwo (a:=a) (b:=b) fun _ _ _ _ z=>z)
def zoB:Expr->Bool | .List _ _=>true | _=>false
def zrd:Operator->Bool | .Mult=>true | _=>false
end
end S2
namespace PySem.F
end PySem.F
namespace PySem.F
end PySem.F
namespace L2
open PySem PySem.Spec PyProof.Rows
section
variable{prog:Program}{w:World}{A:Around}{E:Z5}{s:Shared}
end
end L2
namespace L2
open PySem PySem.Spec PyProof.Rows
section
variable{X:Cx}
end
end L2
namespace PySem.F
end PySem.F
namespace L2
open PySem PySem.Spec PyProof.Rows
section
variable{prog:Program}{w:World}{A:Around}{E:Z5}{s:Shared}
end
end L2
namespace L2
open PySem PySem.Spec PyProof.Rows
section
variable{X:Cx}
end
end L2
namespace S2
open PySem PySem.Spec PyProof.Rows L2
section
variable{X:Cx}{cl:Cf}{E:St->XK}{e tg:Expr}{f:Fe}{pos pos':Pos}
end
end S2
namespace S2
open PySem PySem.Spec PyProof.Rows L2
section
variable{X:Cx}{cl:Cf}{E:St->XK}{e:Expr}{f:Fe}{pos:Pos}
end
end S2
namespace S2
open PySem PySem.Spec PyProof.Rows L2
def zam(f:Str)(o:Bool)(d:D):List (Str×Bool×D)->List (Str×Bool×D)
 | []=>[(f,o,d)]
 | (g,x)::r=>if g=f then (g,o,d)::r else (g,x)::zam f o d r
def Ob.put(ob:Ob)(f:Str)(o:Bool)(d:D):Ob:=⟨ob.cls,zam f o d ob.fs⟩
section
variable{cl:Cf}{w:Wd}{n:Nat}
theorem zdn.len{fs:List (Str×V)}{gs:List (Str×Bool×D)}(h:zdn cl w n fs gs):fs.length=gs.length:=Paired.length h
theorem zdn.look{fs:List (Str×V)}{gs:List (Str×Bool×D)}(h:zdn cl w n fs gs){f:Str}{o:Bool}{d:D}(e:gs.lookup f=some (o,d)):∃v,fs.lookup f=some v/\zhN cl w (.fld n f) o v d:=by
 induction h with
 | nil=>cases e
 | @cons p q l1 l2 h t ih =>
  obtain ⟨h1,h2⟩:=h;obtain ⟨g,v⟩:=p;obtain ⟨g',o',d'⟩:=q;have h1':g=g':=h1;subst h1';rw [List.lookup_cons] at e ⊢
  cases hb:f == g with
  | true =>
   rw [hb] at e;cases e;have:=eq_of_beq hb;subst this;exact ⟨v,rfl,h2⟩
  | false =>
   rw [hb] at e;exact ih e
theorem zdn.miss{fs:List (Str×V)}{gs:List (Str×Bool×D)}(h:zdn cl w n fs gs){f:Str}(e:gs.lookup f=none):fs.lookup f=none:=by
 induction h with
 | nil=>rfl
 | @cons p q l1 l2 h t ih =>
  obtain ⟨h1,h2⟩:=h;obtain ⟨g,v⟩:=p;obtain ⟨g',o',d'⟩:=q;have h1':g=g':=h1;subst h1';rw [List.lookup_cons] at e ⊢
  cases hb:f == g with
  | true=>rw [hb] at e;cases e
  | false=>rw [hb] at e;exact ih e
theorem zdn.put{fs:List (Str×V)}{gs:List (Str×Bool×D)}{f:Str}{o:Bool}{d:D}{y:V}(h:zdn cl w n fs gs)(hy:zhN cl w (.fld n f) o y d):zdn cl w n (zdD f y fs) (zam f o d gs):=by
 induction h with
 | nil=>exact .cons ⟨rfl,hy⟩ .nil
 | @cons p q l1 l2 h t ih =>
  obtain ⟨h1,h2⟩:=h;obtain ⟨g,v⟩:=p;obtain ⟨g',o',d'⟩:=q;have h1':g=g':=h1;subst h1';show zdn cl w n (if g=f then (g,y)::l1 else (g,v)::zdD f y l1) (if g=f then (g,o,d)::l2 else (g,o',d')::zam f o d l2)
  by_cases hg:g=f
  ·subst hg;rw [if_pos rfl,if_pos rfl];exact .cons ⟨rfl,hy⟩ t
  ·rw [if_neg hg,if_neg hg];exact .cons ⟨rfl,h2⟩ ih
theorem zdn.keepBut{w':Wd}(f:Fut w w'){x:Str}(k:∀a o g,g≠x->w.H a=some o->w.ow a=some (.fld n g)->w'.H a=some o/\w'.ow a=some (.fld n g)){fs:List (Str×V)}{gs:List (Str×Bool×D)}(h:zdn cl w n fs gs)(hn:∀q∈gs,q.1=x->q.2.1=false):zdn cl w' n fs gs:=by
 induction h with
 | nil=>exact .nil
 | @cons p q l1 l2 h t ih =>
  obtain ⟨h1,h2⟩:=h;refine .cons ⟨h1,?_⟩ (ih fun q hq=>hn q (List.mem_cons_of_mem _ hq))
  by_cases hx:q.1=x
  ·have ho:=hn q List.mem_cons_self hx;rw [ho] at h2 ⊢
   rcases h2 with ⟨_,h2⟩ | ⟨e,_⟩
   ·exact .inl ⟨rfl,Shd.up f h2⟩
   ·cases e
  ·exact h2.keep f fun a o ha hr=>k a o q.1 hx ha hr
theorem zdn.keepF{w':Wd}(f:Fut w w')(k:∀a o g,w.H a=some o->w.ow a=some (.fld n g)->w'.H a=some o/\w'.ow a=some (.fld n g)){fs:List (Str×V)}{gs:List (Str×Bool×D)}(h:zdn cl w n fs gs):zdn cl w' n fs gs:=by
 induction h with
 | nil=>exact .nil
 | @cons p q l1 l2 h t ih=>exact .cons ⟨h.1,h.2.keep f fun a o ha hr=>k a o q.1 ha hr⟩ ih
variable{B:Base}{σ:St}{ρ:Env}{S:Sto}
theorem World'.atObj(W:World' cl B w S){ob:Ob}(h:S[n]?=some ob){a:Addr}(e:w.mu[n]?=some a):zrN cl w n a ob:=by
 obtain ⟨a',e',x⟩:=W.obj n ob h;rw [e] at e';cases e';exact x
theorem zhw{S:Sto}{n m:Nat}{ob ob':Ob}(h:(S.set n ob)[m]?=some ob'):(m=n/\ob'=ob)\/(m≠n/\S[m]?=some ob'):=by
 by_cases e:n=m
 ·subst e
  have hlt:n<S.length:=by
   have:=(List.getElem?_eq_some_iff.mp h).1;rw [List.length_set] at this;exact this
  rw [List.getElem?_set_self hlt] at h;cases h;exact .inl ⟨rfl,rfl⟩
 ·rw [List.getElem?_set_ne e] at h;exact .inr ⟨fun z=>e z.symm,h⟩
theorem Rel.setf{a dx:Addr}{ob:Ob}{fs:List (Str×V)}{f:Str}{y:V}{d:D}(R:Rel cl B σ w ρ S)(hn:S[n]?=some ob)(hmu:w.mu[n]?=some a)(how:w.ow a=some (.obj n))(hH:w.H a=some (.ins (cl ob.cls) dx fs))(hF:zdn cl w n fs ob.fs)(hy:Shd cl w y d) :
  Rel cl B σ (w.mut a (.ins (cl ob.cls) dx (zdD f y fs))) ρ (S.set n (ob.put f false d))/\Fut w (w.mut a (.ins (cl ob.cls) dx (zdD f y fs))):=by
 have ff:=zgd (w:=w) (p:=a) (o:=.ins (cl ob.cls) dx (zdD f y fs)) (by rw [how];exact Option.some_ne_none _)
 have kp:∀b u,w.H b=some u->w.ow b≠some (.obj n)->(w.mut a (.ins (cl ob.cls) dx (zdD f y fs))).H b=some u/\(w.mut a (.ins (cl ob.cls) dx (zdD f y fs))).ow b=w.ow b:=fun b u hb hne=>⟨by
  show upd w.H a _ b=_
  rw [zar (fun z=>hne (by rw [z];exact how))];exact hb,rfl⟩
 have hB:B.Fr a=none:=(R.wd.own a _ how).elim (fun z=>by cases z) fun z=>z
 refine ⟨⟨⟨fun b u h=>?_,R.wd.own,by rw [List.length_set];exact R.wd.len,fun m ob' h=>?_⟩,R.len,fun i o e h=>?_⟩,ff⟩
 ·refine ⟨?_,(R.wd.fr b u h).2⟩;show upd w.H a _ b=_;rw [zar (fun z=>by rw [z,hB] at h;cases h)];exact (R.wd.fr b u h).1
 ·rcases zhw h with ⟨rfl,rfl⟩ | ⟨hne,h⟩
  ·refine ⟨a,hmu,how,dx,_,zaO,?_⟩;exact zdn.put (hF.keepF ff fun b u g hb hg=>⟨(kp b u hb (by rw [hg];exact fun z=>by cases z)).1,hg⟩) (.inl ⟨rfl,hy.up ff⟩)
  ·obtain ⟨b,e,x⟩:=R.wd.obj m ob' h;exact ⟨b,e,x.keep ff fun b u hb hm=>kp b u hb fun z=>by rw [z] at hm;exact hne hm.symm⟩
 ·obtain ⟨v,e1,x⟩:=R.slots i o e h;exact ⟨v,e1,x.keep ff fun b u hb hr=>⟨(kp b u hb (by rw [hr];exact fun z=>by cases z)).1,hr⟩⟩
def Wd.addF(w:Wd)(p:Addr)(o:HO)(n:Nat)(f:Str):Wd:=⟨upd w.H p o,fun b=>if b=p then some (.fld n f) else w.ow b,w.mu⟩
theorem Rel.newf{a dx p:Addr}{ob:Ob}{fs:List (Str×V)}{f:Str}(R:Rel cl B σ w ρ S)(hn:S[n]?=some ob)(hmu:w.mu[n]?=some a)(how:w.ow a=some (.obj n))(hH:w.H a=some (.ins (cl ob.cls) dx fs))(hF:zdn cl w n fs ob.fs)(hp:w.H p=none) :
  Rel cl B σ ((w.addF p (.ext (DN cl.P cl.wo p [])) n f).mut a (.ins (cl ob.cls) dx (zdD f (.ref p) fs))) ρ (S.set n (ob.put f true (.dic [])))/\Fut w ((w.addF p (.ext (DN cl.P cl.wo p [])) n f).mut a (.ins (cl ob.cls) dx (zdD f (.ref p) fs))):=by
 have hap:a≠p:=zau hH hp
 have kp:∀b u,w.H b=some u->w.ow b≠some (.obj n)->((w.addF p (.ext (DN cl.P cl.wo p [])) n f).mut a (.ins (cl ob.cls) dx (zdD f (.ref p) fs))).H b=some u/\((w.addF p (.ext (DN cl.P cl.wo p [])) n f).mut a (.ins (cl ob.cls) dx (zdD f (.ref p) fs))).ow b=w.ow b:=fun b u hb hne=>by
  have hbp:b≠p:=zau hb hp;refine ⟨?_,?_⟩
  ·show upd (upd w.H p _) a _ b=_;rw [zar (fun z=>hne (by rw [z];exact how)),zar hbp];exact hb
  ·show (if b=p then _ else w.ow b)=_;rw [if_neg hbp]
 have ff:Fut w ((w.addF p (.ext (DN cl.P cl.wo p [])) n f).mut a (.ins (cl ob.cls) dx (zdD f (.ref p) fs))):=⟨fun b u hb hk=>by
  have:=kp b u hb (by rw [hk];exact fun z=>by cases z)
  exact ⟨this.1,this.2.trans hk⟩,fun _ _ h=>h⟩
 have hB:B.Fr a=none:=(R.wd.own a _ how).elim (fun z=>by cases z) fun z=>z
 have hBp:B.Fr p=none:=by
  cases z:B.Fr p with
  | none=>rfl
  | some u=>have:=(R.wd.fr p u z).1;rw [hp] at this;cases this
 have Hp:((w.addF p (.ext (DN cl.P cl.wo p [])) n f).mut a (.ins (cl ob.cls) dx (zdD f (.ref p) fs))).H p=some (.ext (DN cl.P cl.wo p [])):=by
  show upd (upd w.H p _) a _ p=_;rw [zar hap.symm,zaO]
 have owp:((w.addF p (.ext (DN cl.P cl.wo p [])) n f).mut a (.ins (cl ob.cls) dx (zdD f (.ref p) fs))).ow p=some (.fld n f):=if_pos rfl
 have owa:((w.addF p (.ext (DN cl.P cl.wo p [])) n f).mut a (.ins (cl ob.cls) dx (zdD f (.ref p) fs))).ow a=some (.obj n):=by
  show (if a=p then _ else w.ow a)=_;rw [if_neg hap];exact how
 refine ⟨⟨⟨fun b u h=>?_,fun b r h=>?_,by rw [List.length_set];exact R.wd.len,fun m ob' h=>?_⟩,R.len,fun i o e h=>?_⟩,ff⟩
 ·have:=kp b u (R.wd.fr b u h).1 fun z=>by
   rcases R.wd.own b _ z with y | y
   ·cases y
   ·rw [h] at y;cases y
  exact ⟨this.1,this.2.trans (R.wd.fr b u h).2⟩
 ·have h':(if b=p then some (Root.fld n f) else w.ow b)=some r:=h;split at h'
  ·rename_i z;rw [z];exact .inr hBp
  ·exact R.wd.own b r h'
 ·rcases zhw h with ⟨rfl,rfl⟩ | ⟨hne,h⟩
  ·refine ⟨a,hmu,owa,dx,_,zaO,?_⟩;refine zdn.put (hF.keepF ff fun b u g hb hg=>?_) (.inr ⟨rfl,p,[],[],[],rfl,owp,Hp,.nil,.nil,rfl⟩);have:=kp b u hb (by rw [hg];exact fun z=>by cases z);exact ⟨this.1,this.2.trans hg⟩
  ·obtain ⟨b,e,x⟩:=R.wd.obj m ob' h;exact ⟨b,e,x.keep ff fun b u hb hm=>kp b u hb fun z=>by rw [z] at hm;exact hne hm.symm⟩
 ·obtain ⟨v,e1,x⟩:=R.slots i o e h
  exact ⟨v,e1,x.keep ff fun b u hb hr=>by
   have:=kp b u hb (by rw [hr];exact fun z=>by cases z)
   exact ⟨this.1,this.2.trans hr⟩⟩
def zeq(ob:Ob):Bool:=decide (ob.fs.map (·.1)).Nodup
theorem zdn.dic{w':Wd}{a:Addr}{f:Str}{d:D}(ff:Fut w w')(k:∀b o g,g≠f->w.H b=some o->w.ow b=some (.fld n g)->w'.H b=some o/\w'.ow b=some (.fld n g))(hy:zhN cl w' (.fld n f) true (.ref a) d):∀{fs:List (Str×V)} {gs:List (Str×Bool×D)},zdn cl w n fs gs->(gs.map (·.1)).Nodup->fs.lookup f=some (.ref a)->zdn cl w' n fs (zam f true d gs):=by
 intro fs gs h
 induction h with
 | nil=>intro _ e;cases e
 | @cons p q l1 l2 h t ih =>
  intro nd e;obtain ⟨h1,h2⟩:=h;obtain ⟨g,v⟩:=p;obtain ⟨g',o',d'⟩:=q;have h1':g=g':=h1;subst h1';rw [List.map_cons,List.nodup_cons] at nd;show zdn cl w' n ((g,v)::l1) (if g=f then (g,true,d)::l2 else (g,o',d')::zam f true d l2);rw [List.lookup_cons] at e
  by_cases hg:g=f
  ·subst hg;rw [if_pos rfl];simp only [beq_self_eq_true] at e;cases e;refine .cons ⟨rfl,hy⟩ ?_;have t':zdn cl w n l1 l2:=t;exact t'.keepBut ff k fun q hq hx=>absurd (List.mem_map.mpr ⟨q,hq,hx⟩) nd.1
  ·rw [if_neg hg];have hb:(f == g)=false:=beq_eq_false_iff_ne.mpr fun z=>hg z.symm
   rw [hb] at e;exact .cons ⟨rfl,h2.keep ff fun b o hb hr=>k b o g hg hb hr⟩ (ih nd.2 e)
theorem Rel.setd{a dx c:Addr}{ob:Ob}{fs:List (Str×V)}{f:Str}{xs:List (NK×Addr×Value)}{m:List (NK×V)}{ds:List (D×D)}{k:NK}{kb:Addr}{u:Value}{v:V}{d:D}(R:Rel cl B σ w ρ S)(hn:S[n]?=some ob)(hmu:w.mu[n]?=some a)(how:w.ow a=some (.obj n))(hH:w.H a=some (.ins (cl ob.cls) dx fs))(hF:zdn cl w n fs ob.fs)
  (hl:fs.lookup f=some (.ref c)) (hc:w.ow c=some (.fld n f)) (hcH:w.H c=some (.ext (DN cl.P cl.wo c xs))) (he:ziH w xs m) (hs:ShdN cl w m ds) (hk:zlo w kb k) (rv:zbp v u) (hv:Shd cl w v d) (nd:zeq ob=true) :
  Rel cl B σ (w.mut c (.ext (DN cl.P cl.wo c (xs++[(k,kb,u)])))) ρ (S.set n (ob.put f true (.dic (ds++[(nkD k,d)]))))/\Fut w (w.mut c (.ext (DN cl.P cl.wo c (xs++[(k,kb,u)])))):=by
 have ff:=zgd (w:=w) (p:=c) (o:=.ext (DN cl.P cl.wo c (xs++[(k,kb,u)]))) (by rw [hc];exact Option.some_ne_none _)
 have kp:∀b o,w.H b=some o->w.ow b≠some (.fld n f)->(w.mut c (.ext (DN cl.P cl.wo c (xs++[(k,kb,u)])))).H b=some o/\(w.mut c (.ext (DN cl.P cl.wo c (xs++[(k,kb,u)])))).ow b=w.ow b:=fun b o hb hne=>⟨by
  show upd w.H c _ b=_
  rw [zar (fun z=>hne (by rw [z];exact hc))];exact hb,rfl⟩
 have hB:B.Fr c=none:=(R.wd.own c _ hc).elim (fun z=>by cases z) fun z=>z
 refine ⟨⟨⟨fun b o h=>?_,R.wd.own,by rw [List.length_set];exact R.wd.len,fun m' ob' h=>?_⟩,R.len,fun i o e h=>?_⟩,ff⟩
 ·refine ⟨?_,(R.wd.fr b o h).2⟩;show upd w.H c _ b=_;rw [zar (fun z=>by rw [z,hB] at h;cases h)];exact (R.wd.fr b o h).1
 ·rcases zhw h with ⟨rfl,rfl⟩ | ⟨hne,h⟩
  ·refine ⟨a,hmu,how,dx,fs,?_,?_⟩
   ·exact (kp a _ hH (by rw [how];exact fun z=>by cases z)).1
   ·refine zdn.dic (a:=c) ff (fun b o g hg hb hr=>?_) (.inr ⟨rfl,c,_,m++[(k,v)],ds++[(nkD k,d)],rfl,hc,zaO,?_,?_,rfl⟩) hF (of_decide_eq_true nd) hl
    ·exact ⟨(kp b o hb (by rw [hr];exact fun z=>hg (by cases z;rfl))).1,hr⟩
    ·exact (he.up ff).snoc ⟨rfl,hk.up ff,rv⟩
    ·exact (hs.up ff).snoc (hv.up ff)
  ·obtain ⟨b,e,x⟩:=R.wd.obj m' ob' h;exact ⟨b,e,x.keep ff fun b o hb hm=>kp b o hb fun z=>by rw [z] at hm;exact hne hm.symm⟩
 ·obtain ⟨v',e1,x⟩:=R.slots i o e h;exact ⟨v',e1,x.keep ff fun b o hb hr=>⟨(kp b o hb (by rw [hr];exact fun z=>by cases z)).1,hr⟩⟩
def Wd.addO(w:Wd)(x dx C:Addr)(n:Nat):Wd:=⟨upd (upd w.H dx (.own x)) x (.ins C dx []),fun b=>if b=x then some (.obj n) else if b=dx then none else w.ow b,w.mu++[x]⟩
theorem Rel.made{x dx:Addr}{c:Str}(R:Rel cl B σ w ρ S)(hx:w.H x=none)(hdx:w.H dx=none)(ne:dx≠x):Rel cl B σ (w.addO x dx (cl c) S.length) ρ (S++[⟨c,[]⟩])/\Fut w (w.addO x dx (cl c) S.length):=by
 have kp:∀b o,w.H b=some o->(w.addO x dx (cl c) S.length).H b=some o/\(w.addO x dx (cl c) S.length).ow b=w.ow b:=fun b o hb=>by
  have n1:b≠x:=zau hb hx;have n2:b≠dx:=zau hb hdx;refine ⟨?_,?_⟩
  ·show upd (upd w.H dx _) x _ b=_;rw [zar n1,zar n2];exact hb
  ·show (if b=x then _ else if b=dx then _ else w.ow b)=_;rw [if_neg n1,if_neg n2]
 have ff:Fut w (w.addO x dx (cl c) S.length):=⟨fun b o hb hk=>⟨(kp b o hb).1,(kp b o hb).2.trans hk⟩,fun n a h=>by
  show (w.mu++[x])[n]?=some a
  rw [List.getElem?_append_left (List.getElem?_eq_some_iff.mp h).1];exact h⟩
 have hBx:B.Fr x=none:=by
  cases z:B.Fr x with
  | none=>rfl
  | some u=>have:=(R.wd.fr x u z).1;rw [hx] at this;cases this
 refine ⟨⟨⟨fun b o h=>?_,fun b r h=>?_,by show (w.mu++[x]).length=_;rw [List.length_append,List.length_append,R.wd.len];rfl,fun m ob h=>?_⟩,R.len,fun i o e h=>?_⟩,ff⟩
 ·have:=kp b o (R.wd.fr b o h).1;exact ⟨this.1,this.2.trans (R.wd.fr b o h).2⟩
 ·have h':(if b=x then some (Root.obj S.length) else if b=dx then none else w.ow b)=some r:=h;split at h'
  ·rename_i z;rw [z];exact .inr hBx
  ·split at h'
   ·cases h'
   ·exact R.wd.own b r h'
 ·by_cases hm:m<S.length
  ·rw [List.getElem?_append_left hm] at h;obtain ⟨b,e,y⟩:=R.wd.obj m ob h;exact ⟨b,ff.mu _ _ e,y.keep ff fun b o hb _=>kp b o hb⟩
  ·have hm':m=S.length:=by
    have:=(List.getElem?_eq_some_iff.mp h).1;rw [List.length_append,List.length_singleton] at this;omega
   subst hm';rw [List.getElem?_append_right (Nat.le_refl _),Nat.sub_self] at h;cases h;refine ⟨x,?_,if_pos rfl,dx,[],zaO,.nil⟩;show (w.mu++[x])[S.length]?=some x;rw [List.getElem?_append_right (by rw [R.wd.len];exact Nat.le_refl _),R.wd.len,Nat.sub_self];rfl
 ·obtain ⟨v,e1,y⟩:=R.slots i o e h;exact ⟨v,e1,y.keep ff fun b o hb hr=>⟨(kp b o hb).1,(kp b o hb).2.trans hr⟩⟩
end
end S2
namespace S2
open PySem PySem.Spec PyProof.Rows L2
def zlW:D->Option (Option Int) | .non=>some none | .int i=>some (some i) | _=>none
def zdQ:List D->Option (List (Option Int))
 | []=>some []
 | d::r=>(zlW d).bind fun o=>(zdQ r).map (o::·)
def zid:D->Option NK
 | .tup [.int i,.tup l]=>(zdQ l).map fun os=>(i,os)
 | _=>none
def zaK(k:NK):List (D×D)->Option D
 | []=>none
 | (q,d)::r=>if zid q=some k then some d else zaK k r
theorem zkc(o:Option Int):zlW (oDn o)=some o:=by cases o<;>rfl
theorem zft:∀l:List (Option Int),zdQ (l.map oDn)=some l
 | []=>rfl
 | o::l=>by rw [List.map_cons];unfold zdQ;rw [zkc,zft l];rfl
theorem zcm(k:NK):zid (nkD k)=some k:=by
 show (zdQ (k.2.map oDn)).map (fun os=>(k.1,os))=some k;rw [zft];rfl
section
variable{cl:Cf}{w:Wd}
theorem zkb:∀{xs:List V} {ds:List D} {os:Z4},Shds cl w xs ds->zdQ ds=some os->xs=os.map oV
 | _,_,os,.nil,h=>by cases h;rfl
 | _,_,os,.cons (v:=v) (d:=d) (ds:=ds) r t,h=>by
  unfold zdQ at h
  cases h1:zlW d with
  | none=>rw [h1] at h;cases h
  | some o =>
   rw [h1] at h
   cases h2:zdQ ds with
   | none=>rw [h2] at h;cases h
   | some os' =>
    rw [h2] at h;cases h;rw [List.map_cons,<-zkb t h2]
    cases d<;>simp [zlW] at h1<;>subst h1<;>cases r<;>rfl
theorem zm3{v:V}{d:D}{k:NK}(h:Shd cl w v d)(hk:zid d=some k):∃kb,v=.ref kb/\zlo w kb k:=by
 unfold zid at hk;split at hk
 ·rename_i i l
  cases ho:zdQ l with
  | none=>rw [ho] at hk;cases hk
  | some os =>
   rw [ho] at hk;cases hk
   cases h with
   | tup e o r =>
    cases r with
    | cons r1 t =>
     cases t with
     | cons r2 t =>
      cases t;cases r1
      cases r2 with
      | tup e2 o2 r2=>exact ⟨_,rfl,_,⟨e,o⟩,by rw [<-zkb r2 ho];exact e2,o2⟩
 ·cases hk
theorem zms:∀{m:List (NK×V)} {ds:List (D×D)},ShdN cl w m ds->∀k:NK,(m.lookup k=none/\zaK k ds=none)\/∃v d,m.lookup k=some v/\zaK k ds=some d/\Shd cl w v d
 | _,_,.nil,k=>.inl ⟨rfl,rfl⟩
 | _,_,.cons (k:=k') (v:=v) (d:=d) r t,k=>by
  rw [List.lookup_cons];unfold zaK;rw [zcm]
  by_cases e:k'=k
  ·subst e;rw [if_pos rfl,beq_self_eq_true];exact .inr ⟨v,d,rfl,rfl,r⟩
  ·rw [if_neg (fun z=>e (by cases z;rfl)),beq_eq_false_iff_ne.mpr (fun z=>e z.symm)];exact zms t k
theorem znd:∀{m:List (NK×V)} {ds:List (D×D)},ShdN cl w m ds->m.length=ds.length
 | _,_,.nil=>rfl
 | _,_,.cons r t=>by rw [List.length_cons,List.length_cons,znd t]
end
def zfj(cn f:Str)(d:D)(S:Sto):Option D:=match d with
 | .ref n=>(match S[n]? with
  | some ob=>if ob.cls=cn then (match ob.fs.lookup f with | some (false,d)=>some d | _=>none) else none
  | none=>none)
 | _=>none
def zeE(cn f:Str)(fe:Fe):Fe:=fun ρ S=>(fe ρ S).bind fun d S1=>match zfj cn f d S1 with | some r=>.ok r S1 | none=>.bad
def zlk(cl:Cf)(cn f:Str):Prop:=Cls cl.K (cl cn)/\zdA cl.K (cl cn) f
def zfE(cn f:Str)(d:D)(S:Sto):Option (Nat×Ob×List (D×D)):=match d with
 | .ref n=>(match S[n]? with
  | some ob=>if ob.cls=cn then (match ob.fs.lookup f with | some (true,.dic ds)=>some (n,ob,ds) | _=>none) else none
  | none=>none)
 | _=>none
section
variable{cl:Cf}{cn:Str}{X:Cx}{E:St->XK}{e:Expr}{fe:Fe}{f:Str}{pos:Pos}{B:Base}{σ:St}{w:Wd}{ρ:Env}{S:Sto}
theorem zhc{v:V}{n:Nat}{ob:Ob}(R:Rel cl B σ w ρ S)(hv:Shd cl w v (.ref n))(hn:S[n]?=some ob):∃a dx fs,v=.ref a/\w.mu[n]?=some a/\w.ow a=some (.obj n)/\w.H a=some (.ins (cl ob.cls) dx fs)/\zdn cl w n fs ob.fs:=by
 cases hv with
 | ref e =>
  obtain ⟨h1,dx,fs,h2,h3⟩:=R.wd.atObj hn e;exact ⟨_,dx,fs,rfl,e,h1,h2,h3⟩
theorem zrG{v:V}{d r:D}(hk:zlk cl cn f)(R:Rel cl B σ w ρ S)(hv:Shd cl w v d)(hd:zfj cn f d S=some r):∃a C dx fs y,v=.ref a/\w.H a=some (.ins C dx fs)/\Cls cl.K C/\zdA cl.K C f/\fs.lookup f=some y/\Shd cl w y r:=by
 unfold zfj at hd
 cases d with
 | ref n =>
  dsimp only at hd
  cases hS:S[n]? with
  | none=>rw [hS] at hd;cases hd
  | some ob =>
   rw [hS] at hd;dsimp only at hd;split at hd
   ·rename_i hfk;split at hd
    ·rename_i d hl;cases hd;obtain ⟨a,dx,fs,rfl,_,_,hH,hF⟩:=zhc R hv hS;obtain ⟨v,lv,fr⟩:=hF.look hl
     rcases fr with ⟨_,fr⟩ | ⟨z,_⟩
     ·exact ⟨a,_,dx,fs,v,rfl,hH,hfk ▸ hk.1,hfk ▸ hk.2,lv,fr⟩
     ·cases z
    ·cases hd
   ·cases hd
 | _=>cases hd
theorem zp1(hk:zlk cl cn f)(kk:X.K=cl.K)(he:PE X e (tE cl E fe))(hb:attributeBase e f X.env (eval e X.env)=eval e X.env):PE X (.Attribute e f pos) (tE cl E (zeE cn f fe)):=by
 refine PE.imp (zgL he hb) ?_;rintro σ H Q ⟨B,w,ρ,S,rfl,R,q⟩;refine ⟨B,w,ρ,S,rfl,R,?_⟩;unfold zeE at q
 cases hf:fe ρ S with
 | bad=>rw [hf] at q;exact q
 | exc c S1=>rw [hf] at q;exact q
 | ok d S1 =>
  rw [hf] at q;intro v w1 R1 F1 h1;dsimp only [Out.bind] at q
  cases hd:zfj cn f d S1 with
  | none=>rw [hd] at q;exact q.elim
  | some r =>
   rw [hd] at q;obtain ⟨a,C,dx,fs,y,rfl,e1,e2,e3,e4,e5⟩:=zrG hk R1 h1 hd;rw [kk];exact ⟨a,C,dx,fs,y,rfl,e1,e2,e3,e4,q y w1 R1 F1 e5⟩
theorem zle{v:V}{d:D}{n:Nat}{ob:Ob}{ds:List (D×D)}(hk:zlk cl cn f)(R:Rel cl B σ w ρ S)(hv:Shd cl w v d)(hd:zfE cn f d S=some (n,ob,ds)) :
  ∃a dx fs c xs m,v=.ref a/\S[n]?=some ob/\w.mu[n]?=some a/\w.ow a=some (.obj n)/\w.H a=some (.ins (cl ob.cls) dx fs)/\zdn cl w n fs ob.fs/\Cls cl.K (cl ob.cls)/\zdA cl.K (cl ob.cls) f/\fs.lookup f=some (.ref c)/\w.ow c=some (.fld n f)/\w.H c=some (.ext (DN cl.P cl.wo c xs))/\ziH w xs m/\ShdN cl w m ds:=by
 unfold zfE at hd
 cases d with
 | ref n' =>
  dsimp only at hd
  cases hS:S[n']? with
  | none=>rw [hS] at hd;cases hd
  | some ob' =>
   rw [hS] at hd;dsimp only at hd;split at hd
   ·rename_i hfk;split at hd
    ·rename_i ds' hl;cases hd;obtain ⟨a,dx,fs,rfl,hmu,how,hH,hF⟩:=zhc R hv hS;obtain ⟨v,lv,fr⟩:=hF.look hl
     rcases fr with ⟨z,_⟩ | ⟨_,c,xs,m,ds2,rfl,c1,c2,c3,c4,e⟩
     ·cases z
     ·cases e;exact ⟨a,dx,fs,c,xs,m,rfl,hS,hmu,how,hH,hF,hfk ▸ hk.1,hfk ▸ hk.2,lv,c1,c2,c3,c4⟩
    ·cases hd
   ·cases hd
 | _=>cases hd
end
end S2
namespace L2
open PySem PySem.Spec PyProof.Rows
section
variable{X:Cx}
def zwu(ta:TA):TE:=fun σ H Q=>ta σ H fun vs H1=>∃j:Int,vs=[.int j]/\0<=j/\j<=1000/\∀p,H1 p=none->Q (.ref p) (upd H1 p (.rng 0 j))
theorem zqo{a:Expr}{ta:TA}{p pos:Pos}(hg:Gl X "range")(hm:X.mg "range" = none)(ha:PA X [a] ta)(hs:starEach [a] X.env=[(false,eval a X.env)]:=by rfl):PE X (.Call (.Name "range" p) [a] [] pos) (zwu ta):=by
 intro pins s σ H Q I h;refine Call_ (ze2 I hg hm boot_range (PyProof.Rows.callWith_type1 (thn (ha pos pins s σ H _ I h) fun us s1 ⟨vs,H1,I1,r1,q1⟩=>?_) hs rfl));obtain ⟨j,e,j0,j1,q⟩:=q1;subst e
 cases r1 with
 | cons r rr =>
  cases rr;obtain ⟨t,rfl⟩:=r;refine call_range_1 ⟨.ref s1.heap.objs.size,_,I1.laid (a:=s1.heap.objs.size) (o:=.rng 0 j) (fun _ _ q=>Heap.get?_push_of_some _ q) (Nat.le_refl _) ⟨_,_,_,Heap.get?_push_size _ rfl⟩,rfl,q _ (I1.hok.fresh (Nat.le_refl _))⟩
theorem ziJ:∀(n:Nat) (its:List Value),its.length=n->(∀(i:Nat) (v:Value),its[i]?=some v->∃t,v=.int (i:Int) t)->Vals ((List.range n).map fun (i:Nat)=>V.int (i:Int)) its:=by
 intro n
 induction n with
 | zero =>
  intro its hl _;have:its=[]:=List.eq_nil_of_length_eq_zero hl;subst this;exact .nil
 | succ n ih =>
  intro its hl h
  have e:its=its.take n++[its[n]]:=by
   have:=List.take_append_drop n its
   have h2:its.drop n=[its[n]]:=by
    rw [List.drop_eq_getElem_cons (by omega),List.drop_of_length_le (by omega)]
   rw [h2] at this;exact this.symm
  rw [e,List.range_succ,List.map_append];refine (ih (its.take n) (by rw [List.length_take];omega) fun i v hv=>?_).append (.cons ?_ .nil)
  ·have hi:i<n:=by
    have:=(List.getElem?_eq_some_iff.mp hv).1;rw [List.length_take] at this;omega
   rw [List.getElem?_take,if_pos hi] at hv;exact h i v hv
  ·exact h n its[n] (List.getElem?_eq_getElem (by omega))
theorem zgi(hc:X.calm=true):zd4 X (.type "list") (fun xs H Q=>∃(p:Addr) (n:Nat),xs=[.ref p]/\H p=some (.rng 0 (n:Int))/\n<=1000/\∀l,H l=none->Q (.ref l) (upd H l (.lst ((List.range n).map fun (i:Nat)=>V.int (i:Int))))):=by
 intro pins s σ H xs us Q I r h;obtain ⟨p,n,rfl,hp,hn,q⟩:=h;obtain ⟨u,rfl,rx⟩:=zgq r;cases rx;obtain ⟨t,u,v,hr⟩:=I.hok p _ hp;refine call_list_range (n:=n) (I.ok.hd hc) (show IsRange s.heap p 0 (n:Int) 1 t u v from hr) (small_one (by omega) (by omega) (by omega) (by omega)) (by rw [rangeSize_one];split<;>omega) (by omega) fun h' tk acc c' kp e hi=>?_
 refine ⟨.ref s.heap.objs.size,_,I.laid (t':=tk) kp (Nat.le_refl _) (show zbZ X.prog X.w _ h' _ (.lst _) from ⟨?_,acc.toList,c',ziJ n acc.toList ?_ ?_,by simpa using e⟩),rfl,q _ (I.hok.fresh (Nat.le_refl _))⟩
 ·rw [List.length_map,List.length_range];exact Nat.le_trans hn (by decide)
 ·have:=hi.1;simpa using this
 ·intro i v hv;have:=hi.2 i v (by simpa using hv);simpa using this
end
end L2
namespace S2
open PySem PySem.Spec PyProof.Rows L2
def zmr(cn f:Str)(fa fo:Fe):Fe:=fun ρ S=>(fa ρ S).bind fun dk S1=>(fo ρ S1).bind fun d S2=>match zid dk,zfE cn f d S2 with
 | some k,some (_,_,ds)=>.ok (.bl (zaK k ds).isNone) S2
 | _,_=>.bad
def zih(ρ:Env)(i:Nat):Option NK:=match ρ[i]? with | some (some (false,dk))=>zid dk | _=>none
def zhC(cn f:Str)(fo:Fe)(i:Nat):Fe:=fun ρ S=>(fo ρ S).bind fun d S1=>match zih ρ i,zfE cn f d S1 with
 | some k,some (_,_,ds)=>(match zaK k ds with | some r=>.ok r S1 | none=>.bad)
 | _,_=>.bad
def zhh(cn f:Str)(fo:Fe)(i:Nat)(fe:Fe):Fs:=fun ρ S=>match fe ρ S with
 | .bad=>.bad
 | .exc c S1=>.ex c ρ S1
 | .ok r S1=>(match fo ρ S1 with
  | .bad=>.bad
  | .exc c S2=>.ex c ρ S2
  | .ok d S2=>(match zih ρ i,zfE cn f d S2 with
   | some k,some (n,ob,ds)=>if (zaK k ds).isNone&&decide (ds.length<=1000000)&&zeq ob then .nx ρ (S2.set n (ob.put f true (.dic (ds++[(nkD k,r)])))) else .bad
   | _,_=>.bad))
def zd5(cn f:Str)(fo fe:Fe):Fs:=fun ρ S=>match fe ρ S with
 | .bad=>.bad
 | .exc c S1=>.ex c ρ S1
 | .ok r S1=>(match fo ρ S1 with
  | .bad=>.bad
  | .exc c S2=>.ex c ρ S2
  | .ok (.ref n) S2=>(match S2[n]? with
   | some ob=>if decide (ob.cls=cn)&&decide (ob.fs.length<1000) then .nx ρ (S2.set n (ob.put f false r)) else .bad
   | none=>.bad)
  | .ok _ _=>.bad)
def zfS(cn f:Str)(i:Nat):Fs:=fun ρ S=>match ρ[i]? with
 | some (some (false,.ref n))=>(match S[n]? with
   | some ob=>if decide (ob.cls=cn)&&decide (ob.fs.length<1000) then .nx ρ (S.set n (ob.put f true (.dic []))) else .bad
   | none=>.bad)
 | _=>.bad
def zcz(c m:Str)(d:D)(S:Sto):Bool:=match d with
 | .ref n=>(match S[n]? with | some ob=>decide (ob.cls=c)&&(ob.fs.lookup m).isNone | none=>false)
 | _=>false
def zbD(c m:Str)(G:List D->Sto->Out D)(fo:Fe)(fs:List Fe):Fe:=fun ρ S=>(fo ρ S).bind fun d S1=>if zcz c m d S1 then (zan fs ρ S1).bind fun ds S2=>G (d::ds) S2 else .bad
def eMk(c:Str)(dds:List D)(G:List D->Sto->Out D)(fs:List Fe):Fe:=fun ρ S=>(zan fs ρ S).bind fun ds S1=>(G (.ref S1.length::(ds++dds)) (S1++[⟨c,[]⟩])).bind fun r S2=>match r with | .non=>.ok (.ref S1.length) S2 | _=>.bad
structure Same'(cl:Cf)(X:Cx):Prop where
 kk:X.K=cl.K
 pp:X.prog=cl.P
 ww:X.w=cl.wo
section
variable{cl:Cf}{cn:Str}{X:Cx}{E:St->XK}{a o e:Expr}{fa fo fe:Fe}{f:Str}{pos apos:Pos}{own:Bool}
theorem zqS(sm:Same' cl X)(hk:zlk cl cn f)(σ:St)(H:Hp)(Q:VK)(q:tE cl E (zmr cn f fa fo) σ H Q) :
  tOp (fun x y H Q=>∃kb a k xs m,x=.ref kb/\y=.ref a/\zhM H kb k/\H a=some (.ext (DN X.prog X.w a xs))/\zmL H xs m/\Q (.bl (m.lookup k).isNone) H) (tE cl E fa) (zuD X.K (tE cl E fo) f) σ H Q:=by
 obtain ⟨B,w,ρ,S,rfl,R,q⟩:=q;refine ⟨B,w,ρ,S,rfl,R,?_⟩;unfold zmr at q
 cases hf:fa ρ S with
 | bad=>rw [hf] at q;exact q
 | exc c S1=>rw [hf] at q;exact q
 | ok dk S1 =>
  rw [hf] at q;intro v w1 R1 F1 h1;refine ⟨B,w1,ρ,S1,rfl,R1,?_⟩;dsimp only [Out.bind] at q
  cases hh:fo ρ S1 with
  | bad=>rw [hh] at q;exact q
  | exc c S2=>rw [hh] at q;exact fun w2 R2 F2=>q w2 R2 (F1.trans F2)
  | ok d S2 =>
   rw [hh] at q;intro y w2 R2 F2 h2;dsimp only at q
   cases hn:zid dk with
   | none=>rw [hn] at q;exact q.elim
   | some k =>
    cases hd:zfE cn f d S2 with
    | none=>rw [hn,hd] at q;exact q.elim
    | some t =>
     obtain ⟨n,ob,ds⟩:=t;rw [hn,hd] at q;dsimp only at q;obtain ⟨a,dx,fs,c,xs,m,rfl,_,_,_,hH,_,c1,c2,lv,_,hc,he,hs⟩:=zle hk R2 h2 hd;obtain ⟨kb,rfl,ks⟩:=zm3 (h1.up F2) hn;rw [sm.kk];refine ⟨a,_,dx,fs,_,rfl,hH,c1,c2,lv,kb,c,k,xs,m,rfl,rfl,ks.at,by rw [sm.pp,sm.ww];exact hc,he.ents,?_⟩
     have:(m.lookup k).isNone=(zaK k ds).isNone:=by
      rcases zms hs k with ⟨e1,e2⟩ | ⟨_,_,e1,e2,_⟩<;>rw [e1,e2]<;>rfl
     rw [this];exact q _ w2 R2 (F1.trans F2) (.bl _)
theorem zpZ(hu:X.A.units+16<cLine)(sm:Same' cl X)(hk:zlk cl cn f)(ha:PE X a (tE cl E fa))(ho:PE X o (tE cl E fo))(hb:attributeBase o f X.env (eval o X.env)=eval o X.env)(hm:behindInMarks .NotIn (.Attribute o f apos)=false):PE X (.Compare a [.NotIn] [.Attribute o f apos] pos) (tE cl E (zmr cn f fa fo)) :=
 PE.imp (zj7 (zmY hu) ha (zgL ho hb) hm) (zqS sm hk)
theorem zpD(hu:X.A.units+16<cLine)(sm:Same' cl X)(hk:zlk cl cn f)(ha:PE X a (tE cl E fa))(ho:PE X o (tE cl E fo))(hb:attributeBase o f X.env (eval o X.env)=eval o X.env)(hm:behindInMarks .NotIn (.Attribute o f apos)=false):PT X (.Compare a [.NotIn] [.Attribute o f apos] pos) (tTr cl E (zmr cn f fa fo)) :=
 PT.imp (zjW (zmY hu) ha (zgL ho hb) hm) fun _ _ _ q=>zqS sm hk _ _ _ (zhS q)
theorem zkq{B:Base}{σ:St}{w:Wd}{ρ:Env}{S:Sto}{i:Nat}{k:NK}(R:Rel cl B σ w ρ S)(h:zih ρ i=some k):∃kb,σ[i]?=some (some (.ref kb))/\zlo w kb k:=by
 unfold zih at h;split at h
 ·rename_i dk hi;obtain ⟨v,e,r⟩:=R.slots i false dk hi;obtain ⟨kb,rfl,ks⟩:=zm3 r h;exact ⟨kb,e,ks⟩
 ·cases h
theorem znP{i:Nat}{x:Str}{p:Pos}(hN:X.N[i]?=some x)(hv:Vis X.env.scope x)(hd:(x == ("__debug__":Str))=false)(hcd:(x == ("__classdict__":Str))=false)(hu:X.A.units+16<cLine)(sm:Same' cl X)(hk:zlk cl cn f)(ho:PE X o (tE cl E fo))(hb:attributeBase o f X.env (eval o X.env)=eval o X.env)(hs:zgn (.Name x p)):PE X (.Subscript (.Attribute o f apos) (.Name x p) pos) (tE cl E (zhC cn f fo i)):=by
 refine PE.imp (zqu (zra hu) (zgL ho hb) (zeT hN hv hd hcd) hs) ?_;rintro σ H Q ⟨B,w,ρ,S,rfl,R,q⟩;refine ⟨B,w,ρ,S,rfl,R,?_⟩;unfold zhC at q
 cases hf:fo ρ S with
 | bad=>rw [hf] at q;exact q
 | exc c S1=>rw [hf] at q;exact q
 | ok d S1 =>
  rw [hf] at q;intro v w1 R1 F1 h1;dsimp only [Out.bind] at q
  cases hn:zih ρ i with
  | none=>rw [hn] at q;exact q.elim
  | some k =>
   cases hd:zfE cn f d S1 with
   | none=>rw [hn,hd] at q;exact q.elim
   | some t =>
    obtain ⟨n,ob,ds⟩:=t;rw [hn,hd] at q;dsimp only at q;obtain ⟨a,dx,fs,c,xs,m,rfl,_,_,_,hH,_,c1,c2,lv,_,hc,he,hs⟩:=zle hk R1 h1 hd;obtain ⟨kb,eσ,ks⟩:=zkq R1 hn
    cases hl:zaK k ds with
    | none=>rw [hl] at q;exact q.elim
    | some r =>
     rw [hl] at q
     rcases zms hs k with ⟨_,e2⟩ | ⟨y,r',e1,e2,sh⟩
     ·rw [hl] at e2;cases e2
     ·rw [hl] at e2;cases e2;rw [sm.kk];exact ⟨a,_,dx,fs,_,rfl,hH,c1,c2,lv,_,eσ,c,kb,k,xs,m,y,rfl,rfl,ks.at,by rw [sm.pp,sm.ww];exact hc,he.ents,e1,q _ w1 R1 F1 sh⟩
theorem znB{i:Nat}{x:Str}{p p3:Pos}(hN:X.N[i]?=some x)(hv:Vis X.env.scope x)(hd:(x == ("__debug__":Str))=false)(hcd:(x == ("__classdict__":Str))=false)(hu:X.A.units+16<cLine)(sm:Same' cl X)(hk:zlk cl cn f)(ho:PE X o (tE cl E fo))(hb:attributeBase o f X.env (eval o X.env)=eval o X.env)(he:PE X e (tE cl E fe))
  (sw1:swapsWithSole [.Subscript (.Attribute o f apos) (.Name x p) p3] e pos.line X.env=pure false) (sw2:swappedStores [.Subscript (.Attribute o f apos) (.Name x p) p3] e X.env=pure none)
  (ha:∀v,assign (.Subscript (.Attribute o f apos) (.Name x p) p3) X.env v=(do
   let ov ← holding [v] (eval (.Attribute o f apos) X.env)
   let iv ← holding [v,ov] (eval (.Name x p) X.env)
   standAt p3
   holding [v,ov,iv] (setItem ov iv v)
   release [v,ov,iv] [])):PS X (.Assign [.Subscript (.Attribute o f apos) (.Name x p) p3] e pos) (tS cl E own (zhh cn f fo i fe)):=by
 refine PS.imp (zmW he (zql (zgL ho hb) (zeT hN hv hd hcd) (znL hu) ha) sw1 sw2 rfl) ?_;rintro De σ H ⟨B,w,ρ,S,rfl,R,q⟩;refine ⟨B,w,ρ,S,rfl,R,?_⟩;unfold zhh at q
 cases hf:fe ρ S with
 | bad=>rw [hf] at q;exact q
 | exc c S1=>rw [hf] at q;exact fun w' R' F'=>q σ w' R' F'
 | ok r S1 =>
  rw [hf] at q;intro v w1 R1 F1 h1;dsimp only at q;refine ⟨B,w1,ρ,S1,rfl,R1,?_⟩
  cases hfo:fo ρ S1 with
  | bad=>rw [hfo] at q;exact q
  | exc c S2=>rw [hfo] at q;exact fun w' R' F'=>q σ w' R' (F1.trans F')
  | ok d S2 =>
   rw [hfo] at q;intro y w2 R2 F2 h2;dsimp only at q
   cases hn:zih ρ i with
   | none=>rw [hn] at q;exact q.elim
   | some k =>
    cases hd:zfE cn f d S2 with
    | none=>rw [hn,hd] at q;exact q.elim
    | some t =>
     obtain ⟨n,ob,ds⟩:=t;rw [hn,hd] at q;dsimp only at q;split at q
     ·rename_i hc0;rw [Bool.and_eq_true,Bool.and_eq_true] at hc0;obtain ⟨⟨z1,z2⟩,z3⟩:=hc0;obtain ⟨a,dx,fs,c,xs,m,rfl,hS,hmu,how,hH,hF,c1,c2,lv,oc,hc,he,hs⟩:=zle hk R2 h2 hd;obtain ⟨kb,eσ,ks⟩:=zkq R2 hn
      have hno:m.lookup k=none:=by
       rcases zms hs k with ⟨e1,_⟩ | ⟨_,_,_,e2,_⟩
       ·exact e1
       ·rw [e2] at z1;cases z1
      rw [sm.kk];refine ⟨a,_,dx,fs,_,rfl,hH,c1,c2,lv,_,eσ,c,kb,k,xs,m,rfl,rfl,ks.at,by rw [sm.pp,sm.ww];exact hc,he.ents,hno,by rw [znd hs];exact of_decide_eq_true z2,fun u ru=>?_⟩;obtain ⟨R3,F3⟩:=R2.setd hS hmu how hH hF lv oc hc he hs ks ru (h1.up F2) z3;rw [sm.pp,sm.ww];exact q σ _ R3 (F1.trans (F2.trans F3))
     ·exact q.elim
theorem znD(sm:Same' cl X)(hk:zlk cl cn f)(ho:PE X o (tE cl E fo))(he:PE X e (tE cl E fe))(hs:swapsWith e (some (.Attribute o f apos)) pos.line X.env=pure false):PS X (.Assign [.Attribute o f apos] e pos) (tS cl E own (zd5 cn f fo fe)):=by
 refine PS.imp (zmV ho he hs) ?_;rintro De σ H ⟨B,w,ρ,S,rfl,R,q⟩;refine ⟨B,w,ρ,S,rfl,R,?_⟩;unfold zd5 at q
 cases hf:fe ρ S with
 | bad=>rw [hf] at q;exact q
 | exc c S1=>rw [hf] at q;exact fun w' R' F'=>q σ w' R' F'
 | ok r S1 =>
  rw [hf] at q;intro v w1 R1 F1 h1;dsimp only at q;refine ⟨B,w1,ρ,S1,rfl,R1,?_⟩
  cases hfo:fo ρ S1 with
  | bad=>rw [hfo] at q;exact q
  | exc c S2=>rw [hfo] at q;exact fun w' R' F'=>q σ w' R' (F1.trans F')
  | ok d S2 =>
   rw [hfo] at q;intro y w2 R2 F2 h2
   cases d with
   | ref n =>
    dsimp only at q
    cases hS:S2[n]? with
    | none=>rw [hS] at q;exact q.elim
    | some ob =>
     rw [hS] at q;dsimp only at q;split at q
     ·rename_i hc0;rw [Bool.and_eq_true] at hc0;obtain ⟨a,dx,fs,rfl,hmu,how,hH,hF⟩:=zhc R2 h2 hS;rw [sm.kk];refine ⟨a,_,dx,fs,rfl,hH,of_decide_eq_true hc0.1 ▸ hk.1,of_decide_eq_true hc0.1 ▸ hk.2,by rw [hF.len];exact of_decide_eq_true hc0.2,?_⟩;obtain ⟨R3,F3⟩:=R2.setf (f:=f) hS hmu how hH hF (h1.up F2);exact q σ _ R3 (F1.trans (F2.trans F3))
     ·exact q.elim
   | _=>exact q.elim
theorem znE{i:Nat}{x:Str}{p p2:Pos}(hN:X.N[i]?=some x)(hv:Vis X.env.scope x)(hd:(x == ("__debug__":Str))=false)(hcd:(x == ("__classdict__":Str))=false)(sm:Same' cl X)(hk:zlk cl cn f)(hs:swapsWith (.Dict [] [] p) (some (.Attribute (.Name x p2) f apos)) pos.line X.env=pure false):PS X (.Assign [.Attribute (.Name x p2) f apos] (.Dict [] [] p) pos) (tS cl E own (zfS cn f i)):=by
 refine PS.imp (zmV (zeT hN hv hd hcd) zn9 hs) ?_;rintro De σ H ⟨B,w,ρ,S,rfl,R,q⟩;intro pd hpd;unfold zfS at q;split at q
 ·rename_i n hi;obtain ⟨v,ev,rv⟩:=R.slots i false _ hi
  cases hS:S[n]? with
  | none=>rw [hS] at q;exact q.elim
  | some ob =>
   rw [hS] at q;dsimp only at q;split at q
   ·rename_i hc0;rw [Bool.and_eq_true] at hc0;obtain ⟨a,dx,fs,rfl,hmu,how,hH,hF⟩:=zhc R rv hS;rw [sm.kk];refine ⟨_,ev,a,_,dx,fs,rfl,?_,of_decide_eq_true hc0.1 ▸ hk.1,of_decide_eq_true hc0.1 ▸ hk.2,by rw [hF.len];exact of_decide_eq_true hc0.2,?_⟩
    ·rw [zar (zau hH hpd)];exact hH
    ·obtain ⟨R3,F3⟩:=R.newf (f:=f) hS hmu how hH hF hpd;rw [sm.pp,sm.ww];exact q σ _ R3 F3
   ·exact q.elim
 ·exact q.elim
end
def zgu(C:Addr)(m:Str)(sp:Sp)(dvs:List V)(E:St->XK)(ta:TE)(t:TA):TE:=fun σ H Q=>ta σ H fun x H1=>∃a dx fs,x=.ref a/\H1 a=some (.ins C dx fs)/\fs.lookup m=none ∧
 t σ H1 fun vs H2=>sp (x::(vs++dvs)) H2 Q (E σ)
def zmM(C:Addr)(sp:Sp)(dvs:List V)(E:St->XK)(t:TA):TE:=fun σ H Q=>t σ H fun vs H1=>∀x dx,H1 x=none->H1 dx=none->dx≠x →
 sp (.ref x::(vs++dvs)) (upd (upd H1 dx (.own x)) x (.ins C dx [])) (fun v H2=>v=.non/\Q (.ref x) H2) (E σ)
section
variable{X:Cx}{CX:CXT}{k:Nat}{f C:Addr}{fd:FuncData}{ps:List Str}{sp:Sp}{dvs:List V}{ds:List Value}{E:St->XK}{x m:Str}{p pos apos:Pos}{e o:Expr}{es:List Expr}{ta:TE}{t:TA}
theorem zlR{pl:Sem Bool}(he:PE X o ta)(c:Cls X.K C)(hm:Meth X.K C m f)(F:FnOk X.prog X.w X.K X.mg X.base CX k f fd ps sp)(hr:Room k X.A)(hb:zbG X.K fd ps ds)(hd:Vals dvs ds)(hx:zdb CX X E)(ha:PA X (e::es) t)
  (hst:starEach (e::es) X.env=(false,eval e X.env)::starEach es X.env) (hpl:(backTo pos (starEach es X.env)).any (·.1)=false)
  (ht:eval (.Call (.Attribute o m apos) (e::es) [] pos) X.env=(do
   let ov ← eval o X.env
   standAt apos.atName
   let (f,first) ← holding [ov] (getMethod ov m pl)
   callWith pos f first (backTo pos (starEach (e::es) X.env)) (backToKw pos (keywordEach [] X.env)))) :
  PE X (.Call (.Attribute o m apos) (e::es) [] pos) (zgu C m sp dvs E ta t):=by
 intro pins s σ H Q I h;refine PySem.W.methodCall_KW (pl:=pl) (thn (he pins s σ H _ I h) fun u s1 ⟨x,H1,I1,rx,a,dx,fs,ex,ea,l,q⟩=>?_) ht;subst ex;obtain rfl:u=Value.ref a:=rx;refine zfy I1 ea c hm l ?_;refine PySem.W.callWith_K (first:=[.ref a]) (h₀:=X.base) I.ok.mod.kin hm.kp (thn (ha pos pins s1 σ H1 _ I1 q) fun us s2 ⟨vs,H2,I2,r,q2⟩=>⟨I2.kIn,?_⟩) hst hpl;exact zfW (us:=.ref a::us) (vs:=.ref a::vs) F hr hb hd hx I2 (.cons rfl r) q2
theorem zj6{pl:Sem Bool}(he:PE X o ta)(c:Cls X.K C)(hm:Meth X.K C m f)(F:FnOk X.prog X.w X.K X.mg X.base CX k f fd ps sp)(hr:Room k X.A)(hb:zbG X.K fd ps ds)(hd:Vals dvs ds)(hx:zdb CX X E)
  (ht:eval (.Call (.Attribute o m apos) [] [] pos) X.env=(do
   let ov ← eval o X.env
   standAt apos.atName
   let (f,first) ← holding [ov] (getMethod ov m pl)
   callWith pos f first (backTo pos (starEach [] X.env)) (backToKw pos (keywordEach [] X.env)))) :
  PE X (.Call (.Attribute o m apos) [] [] pos) (zgu C m sp dvs E ta zsu):=by
 intro pins s σ H Q I h;refine PySem.W.methodCall_KW (pl:=pl) (thn (he pins s σ H _ I h) fun u s1 ⟨x,H1,I1,rx,a,dx,fs,ex,ea,l,q⟩=>?_) ht;subst ex;obtain rfl:u=Value.ref a:=rx;refine zfy I1 ea c hm l ?_;exact PySem.W.callWith_K0 (first:=[.ref a]) I1.kIn hm.kp (zfW (us:=[.ref a]) (vs:=[.ref a]) F hr hb hd hx I1 (.cons rfl .nil) q)
theorem zjN{pins:Z3}{σ:St}{H:Hp}{s:Shared}{Q:VK}{us:List Value}{vs:List V}(M:Mk X.K C f)(F:FnOk X.prog X.w X.K X.mg X.base CX k f fd ps sp)(hr:Room (k+1) X.A)(hb:zbG X.K fd ps ds)(hd:Vals dvs ds)
  (hx:zdb CX X E) (I:Inv X pins σ H s) (r:Vals vs us)
  (h:∀x dx,H x=none->H dx=none->dx≠x->sp (.ref x::(vs++dvs)) (upd (upd H dx (.own x)) x (.ins C dx [])) (fun v H2=>v=.non/\Q (.ref x) H2) (E σ)) :
  wpAny (model X.prog X.w) X.A (call (.ref C) us) (EP X pins σ Q) X.xe s:=by
 have hq:=h (s.heap.objs.size+1) s.heap.objs.size (I.hok.fresh (Nat.le_succ _)) (I.hok.fresh (Nat.le_refl _)) (Nat.ne_of_lt (Nat.lt_succ_self _));have I2:=Inv.made (C:=C) I;have r2:Vals (V.ref (s.heap.objs.size+1)::(vs++dvs)) (Value.ref (s.heap.objs.size+1)::(us++ds)):=.cons rfl (r.append hd)
 have hl:(Value.ref (s.heap.objs.size+1)::us++ds).length=ps.length:=by
  have e:=r2.length;rw [F.len _ _ _ _ hq] at e;exact e.symm
 refine wpAny_call (zl5 (f:=f) I.kIn M.makes M.init (beq_iff_eq.mp M.fn) (codeAny_mono (F.run _ X.stack _ _ ⟨Value.ref (s.heap.objs.size+1)::us,[]⟩ (Value.ref (s.heap.objs.size+1)::(us++ds)) _ _ (E σ) (hr.make C us [])
  (I2.env0.make C us []) (hb _ (Value.ref (s.heap.objs.size+1)::us) I2.kIn hl) r2 hq) fun r s' hq'=>?_))
 cases r with
 | error e=>exact hx pins σ _ _ e s' I2 hq'
 | ok fl =>
  cases fl with
  | ret u =>
   obtain ⟨v,H',I3,rv,ev,q3⟩:=I2.after hq';subst ev;exact ⟨rv,⟨V.ref (s.heap.objs.size+1),H',I3,rfl,q3⟩⟩
  | next=>exact False.elim hq'
  | brk=>exact False.elim hq'
  | cont=>exact False.elim hq'
theorem zh5(M:Mk X.K C f)(F:FnOk X.prog X.w X.K X.mg X.base CX k f fd ps sp)(hr:Room (k+1) X.A)(hg:Gl X x)(hm:X.mg x=some (.ref C))(hb:zbG X.K fd ps ds)(hd:Vals dvs ds)(hx:zdb CX X E)
  (ha:PA X (e::es) t) (hdb:(x == ("__debug__":Str))=false) (he:starEach (e::es) X.env=(false,eval e X.env)::starEach es X.env) (hpl:(backTo pos (starEach es X.env)).any (·.1)=false) :
  PE X (.Call (.Name x p) (e::es) [] pos) (zmM C sp dvs E t):=by
 intro pins s σ H Q I h;refine wpAny_Call_Name_kw (ze1 I hg hm ?_ hdb);refine PySem.W.callWith_K (h₀:=X.base) I.ok.mod.kin M.kp (thn (ha pos pins s σ H _ I h) fun us s1 ⟨vs,H1,I1,r,q⟩=>⟨I1.kIn,?_⟩) he hpl;exact zjN M F hr hb hd hx I1 r q
end
section
variable{cl:Cf}{E:St->XK}{fs:List Fe}{fo:Fe}{G:List D->Sto->Out D}{σ:St}{H:Hp}{Q:VK}{n:Nat}{c m:Str}{ρ:Env}
theorem zdY:∀{fs:List Fe} {S S1:Sto} {ds:List D},zan fs ρ S=.ok ds S1->ds.length=fs.length
 | [],S,S1,ds,h=>by cases h;rfl
 | f::fs,S,S1,ds,h=>by
  unfold zan at h
  cases h1:f ρ S with
  | bad=>rw [h1] at h;cases h
  | exc c S2=>rw [h1] at h;cases h
  | ok d S2 =>
   rw [h1] at h;dsimp only [Out.bind] at h
   cases h2:zan fs ρ S2 with
   | bad=>rw [h2] at h;cases h
   | exc c S3=>rw [h2] at h;cases h
   | ok es S3=>rw [h2] at h;cases h;rw [List.length_cons,List.length_cons,zdY h2]
theorem zkk{B:Base}{w:Wd}{S:Sto}{v:V}{d:D}(R:Rel cl B σ w ρ S)(hv:Shd cl w v d)(h:zcz c m d S=true):∃a dx fs,v=.ref a/\w.H a=some (.ins (cl c) dx fs)/\fs.lookup m=none:=by
 unfold zcz at h
 cases d with
 | ref n =>
  dsimp only at h
  cases hS:S[n]? with
  | none=>rw [hS] at h;cases h
  | some ob =>
   rw [hS] at h;dsimp only at h;rw [Bool.and_eq_true] at h;obtain ⟨a,dx,fs,rfl,_,_,hH,hF⟩:=zhc R hv hS;have e:=of_decide_eq_true h.1;subst e;exact ⟨a,dx,fs,rfl,hH,hF.miss (by simpa using h.2)⟩
 | _=>cases h
theorem zqV(q:tE cl E (zbD c m G fo fs) σ H Q)(hn:fs.length+1=n):zgu (cl c) m (zgy cl n false G) [] E (tE cl E fo) (tAs cl E fs) σ H Q:=by
 obtain ⟨B,w,ρ,S,rfl,R,q⟩:=q;refine ⟨B,w,ρ,S,rfl,R,?_⟩;unfold zbD at q
 cases hfo:fo ρ S with
 | bad=>rw [hfo] at q;exact q
 | exc c S1=>rw [hfo] at q;exact q
 | ok d S0 =>
 rw [hfo] at q;intro v w0 R0 F0 h0;dsimp only [Out.bind] at q
 cases hok:zcz c m d S0 with
 | false=>rw [hok] at q;exact q.elim
 | true =>
 rw [hok,if_pos rfl] at q;obtain ⟨a,dx,fs',rfl,hH,hm⟩:=zkk R0 h0 hok;refine ⟨a,dx,fs',rfl,hH,hm,B,w0,ρ,S0,rfl,R0,?_⟩
 cases hf:zan fs ρ S0 with
 | bad=>rw [hf] at q;exact q
 | exc c S1=>rw [hf] at q;exact fun w1 R1 F1=>q w1 R1 (F0.trans F1)
 | ok ds S1 =>
  rw [hf] at q;intro vs w1 R1 F1 h1;dsimp only at q;refine ⟨?_,w1.base,w1.inn,d::ds,S1,rfl,R1.wd.enter,?_,?_⟩
  ·rw [List.append_nil,List.length_cons,h1.length,zdY hf];exact hn
  ·rw [List.append_nil];exact .cons ((h0.up F1).up (zct w1)) (h1.up (zct w1))
  cases hg:G (d::ds) S1 with
  | bad=>rw [hg] at q;exact q
  | exc c S2 =>
   rw [hg] at q;intro w2 W2 F2;obtain ⟨R3,F3⟩:=R1.leave W2 F2;exact q (w1.back w2) R3 (F0.trans (F1.trans F3))
  | ok r S2 =>
   rw [hg] at q;intro v w2 W2 F2 r2;obtain ⟨R3,F3⟩:=R1.leave W2 F2;exact q v (w1.back w2) R3 (F0.trans (F1.trans F3)) (Shd.up (zdi W2) r2)
theorem zqU(q:tN cl E (zbD c m G fo fs) σ H Q)(hn:fs.length+1=n):zgu (cl c) m (zgy cl n true G) [] E (tE cl E fo) (tAs cl E fs) σ H Q:=by
 obtain ⟨B,w,ρ,S,rfl,R,q⟩:=q;refine ⟨B,w,ρ,S,rfl,R,?_⟩;unfold zbD at q
 cases hfo:fo ρ S with
 | bad=>rw [hfo] at q;exact q
 | exc c S1=>rw [hfo] at q;exact q
 | ok d S0 =>
 rw [hfo] at q;intro v w0 R0 F0 h0;dsimp only [Out.bind] at q
 cases hok:zcz c m d S0 with
 | false=>rw [hok] at q;exact q.elim
 | true =>
 rw [hok,if_pos rfl] at q;obtain ⟨a,dx,fs',rfl,hH,hm⟩:=zkk R0 h0 hok;refine ⟨a,dx,fs',rfl,hH,hm,B,w0,ρ,S0,rfl,R0,?_⟩
 cases hf:zan fs ρ S0 with
 | bad=>rw [hf] at q;exact q
 | exc c S1=>rw [hf] at q;exact fun w1 R1 F1=>q w1 R1 (F0.trans F1)
 | ok ds S1 =>
  rw [hf] at q;intro vs w1 R1 F1 h1;dsimp only at q;refine ⟨?_,w1.base,w1.inn,d::ds,S1,rfl,R1.wd.enter,?_,?_⟩
  ·rw [List.append_nil,List.length_cons,h1.length,zdY hf];exact hn
  ·rw [List.append_nil];exact .cons ((h0.up F1).up (zct w1)) (h1.up (zct w1))
  cases hg:G (d::ds) S1 with
  | bad=>rw [hg] at q;exact q
  | exc c S2 =>
   rw [hg] at q;intro w2 W2 F2;obtain ⟨R3,F3⟩:=R1.leave W2 F2;exact q (w1.back w2) R3 (F0.trans (F1.trans F3))
  | ok r S2 =>
   rw [hg] at q;intro v w2 W2 F2 r2;obtain ⟨R3,F3⟩:=R1.leave W2 F2;obtain ⟨a,o,i,rfl,k1,k2,t⟩:=r2;have hfr:w1.base.Fr a=none:=(W2.own a _ k1).elim (fun z=>by cases z) fun z=>z
   have k3:(w1.back w2).ow a=some .far:=by
    show (if (w1.base.Fr a).isSome=true then w1.ow a else Root.out (w2.ow a))=_;rw [hfr,k1];rfl
   have hb:B.Fr a=none:=by
    cases z:B.Fr a with
    | none=>rfl
    | some u=>rw [zdK R1.wd z] at hfr;cases hfr
   have hd:=zhx (w:=w1.back w2) (a:=a) (by rw [k3];exact Option.some_ne_none _);have:=q a o ((w1.back w2).del a) (R3.del k3 hb) (F0.trans (F1.trans (F3.trans hd))) (if_pos rfl) ((t.up (zdi W2)).up hd);rw [zjh (w:=w1.back w2) k2] at this;exact this
theorem zuN{dds:List D}{dvs:List V}(hdv:∀w,Shds cl w dvs dds)(q:tE cl E (eMk c dds G fs) σ H Q)(hn:fs.length+dds.length+1=n):zmM (cl c) (zgy cl n false G) dvs E (tAs cl E fs) σ H Q:=by
 obtain ⟨B,w,ρ,S,rfl,R,q⟩:=q;refine ⟨B,w,ρ,S,rfl,R,?_⟩;unfold eMk at q
 cases hf:zan fs ρ S with
 | bad=>rw [hf] at q;exact q
 | exc c S1=>rw [hf] at q;exact q
 | ok ds S1 =>
  rw [hf] at q;intro vs w1 R1 F1 h1;dsimp only [Out.bind] at q;intro x dx hx hdx ne;obtain ⟨R2,F2⟩:=R1.made (c:=c) hx hdx ne
  have hmu:(w1.addO x dx (cl c) S1.length).mu[S1.length]?=some x:=by
   show (w1.mu++[x])[S1.length]?=some x;rw [List.getElem?_append_right (by rw [R1.wd.len];exact Nat.le_refl _),R1.wd.len,Nat.sub_self];rfl
  refine ⟨?_,(w1.addO x dx (cl c) S1.length).base,(w1.addO x dx (cl c) S1.length).inn,.ref S1.length::(ds++dds),S1++[⟨c,[]⟩],rfl,R2.wd.enter,?_,?_⟩
  ·rw [List.length_cons,List.length_append,h1.length,zdY hf,(hdv w1).length];exact hn
  ·exact .cons (.ref hmu) (((h1.up F2).up (zct _)).append (hdv _))
  cases hg:G (.ref S1.length::(ds++dds)) (S1++[⟨c,[]⟩]) with
  | bad=>rw [hg] at q;exact q
  | exc c S2 =>
   rw [hg] at q;intro w2 W2 F3;obtain ⟨R3,F4⟩:=R2.leave W2 F3;exact q ((w1.addO x dx _ S1.length).back w2) R3 (F1.trans (F2.trans F4))
  | ok r S2 =>
   rw [hg] at q;intro v w2 W2 F3 r2
   cases r with
   | non =>
    obtain ⟨R3,F4⟩:=R2.leave W2 F3;refine ⟨by cases r2;rfl,q (.ref x) ((w1.addO x dx _ S1.length).back w2) R3 (F1.trans (F2.trans F4)) (.ref (F4.mu _ _ hmu))⟩
   | _=>exact q.elim
end
end S2
namespace L2
open PySem PySem.Spec PyProof.Rows
section
variable{X:Cx}
def zmI(ns:List Int):Nat:=argBest (fun i j=>decide (ns.getD i 0<ns.getD j 0)) (ns.length-1)
def zeB(ns:List Int):Int:=ns.getD (zmI ns) 0
theorem zla(bt:Nat->Nat->Bool):∀k,argBest bt k<=k
 | 0=>Nat.le_refl _
 | k+1=>by
  unfold argBest;split
  ·exact Nat.le_refl _
  ·exact Nat.le_succ_of_le (zla bt k)
theorem zk4(hc:X.calm=true):zd4 X (.builtin "min") (fun xs H Q=>∃(p:Addr) (ns:List Int),xs=[.ref p]/\SqL X.K H p (ns.map V.int)/\ns≠[]/\Q (.int (zeB ns)) H):=by
 intro pins s σ H xs us Q I r h;obtain ⟨p,ns,rfl,hq,hne,q⟩:=h;obtain ⟨u,rfl,rx⟩:=zgq r;cases rx;obtain ⟨its,rv,pl,hz⟩:=I.list hq;have hl:=pl.isList
 have hlt:p<s.heap.objs.size:=by obtain ⟨_,e,_⟩:=hl;exact Heap.lt_size e
 have hn:its.length=ns.length:=by have:=rv.length;rw [List.length_map] at this;exact this.symm
 have hpos:0<ns.length:=List.length_pos_iff.mpr hne
 have at_:∀(i:Nat) (v:Value),its[i]?=some v->i<ns.length/\∃t,v=.int (ns.getD i 0) t:=by
  intro i v hv
  have hi:i<ns.length:=by rw [<-hn];exact (List.getElem?_eq_some_iff.mp hv).1
  obtain ⟨u,hu,ru⟩:=rv.get (i:=i) (x:=.int ns[i]) (by rw [List.getElem?_map,List.getElem?_eq_getElem hi];rfl);rw [hv] at hu;cases hu;obtain ⟨t,rfl⟩:=ru;exact ⟨hi,t,by simp [List.getD,hi]⟩
 refine call_min_walk (wpAny_pyIter_list hl ?_);refine ⟨s.heap.objs.size,[s.heap.objs.size,p],[s.heap.objs.size],its.toArray.size,_,_,fun i j=>decide (ns.getD i 0<ns.getD j 0),rfl,Walks.list (A:=X.A.in1) (I.ok.hd hc) _ p (Nat.ne_of_lt hlt) its.toArray,⟨⟨_,Heap.get?_push_size _ rfl,rfl,rfl⟩,hl.push _⟩,fun b hm=>?_,by rw [List.size_toArray,hn];exact hpos,CmpOf.ints_lt (fun i=>ns.getD i 0) (fun i v hP=>?_),fun v h' tk hP hk=>?_⟩
 ·show b<(s.heap.push _).objs.size;rw [Heap.size_push];simp only [List.mem_cons,List.not_mem_nil,or_false] at hm
  rcases hm with z | z
  ·rw [z];exact Nat.lt_succ_self _
  ·rw [z];exact Nat.lt_succ_of_lt hlt
 ·have hv:its[i]?=some v:=by simpa using hP
  exact (at_ i v hv).2
 ·rw [List.size_toArray,hn] at hP
  have hv:its[zmI ns]?=some v:=by simpa [zmI] using hP
  obtain ⟨_,t,rfl⟩:=at_ _ _ hv;refine ⟨.int (zeB ns),H,I.kept (t':=tk) fun b o e=>?_,⟨t,rfl⟩,q⟩;exact hk b o (fun hm=>by rw [List.mem_singleton.mp hm] at e;exact Nat.lt_irrefl _ (Heap.lt_size e)) (Heap.get?_push_of_some _ e)
end
end L2
namespace S2
open PySem PySem.Spec PyProof.Rows L2
def zr8:Operator->Option (Int->Int->Int) | .Add=>some (·+·) | .Sub=>some (· - ·) | _=>none
def zp6(i:Nat)(g:Int->Int->Int)(fe:Fe):Fs:=fun ρ S=>match ρ[i]? with
 | some (some (false,.int a))=>(match fe ρ S with
  | .ok (.int b) S1=>.nx (ρ.set i (some (false,.int (g a b)))) S1
  | .ok _ _=>.bad
  | .exc c S1=>.ex c ρ S1
  | .bad=>.bad)
 | _=>.bad
def lrD:D->Option D | .int n=>if decide (0<=n/\n<=1000) then some (.lst ((List.range n.toNat).map fun (i:Nat)=>D.int (i:Int))) else none | _=>none
section
variable{cl:Cf}{X:Cx}{E:St->XK}{e:Expr}{fe f:Fe}{pos:Pos}{own:Bool}
theorem zpJ{i:Nat}{x:Str}{op:Operator}{g:Int->Int->Int}{p:Pos}(hop:zr8 op=some g)(hN:X.N.Nodup)(hi:X.N[i]?=some x)(hx:Loc X.env.scope x)(he:PE X e (tE cl E fe))(hf:X.fn x=true\/X.env.scope.names.lookup x=some .local):PS X (.AugAssign (.Name x p) op e pos) (tS cl E own (zp6 i g fe)):=by
 have main:∀ti:TIp,PIp X op ti->(∀a b H Q,Q (.int (g a b)) H->ti (.int a) (.int b) H Q)->PS X (.AugAssign (.Name x p) op e pos) (tS cl E own (zp6 i g fe)):=by
  intro ti ho hti;refine PS.imp (zqh hN hi hx he ho hf) ?_;rintro De σ H ⟨B,w,ρ,S,rfl,R,q⟩;unfold zp6 at q;split at q
  ·rename_i a ha;obtain ⟨v,ev,rv⟩:=R.slots i false _ ha;have rv':Shd cl w v (.int a):=rv;cases rv';refine ⟨_,ev,B,w,ρ,S,rfl,R,?_⟩
   cases hfe:fe ρ S with
   | bad=>rw [hfe] at q;exact q
   | exc c S1=>rw [hfe] at q;exact fun w' R' F'=>q σ w' R' F'
   | ok d S1 =>
    rw [hfe] at q;intro y w1 R1 F1 h1
    cases d with
    | int b =>
     cases h1;exact hti a b _ _ (q _ w1 (R1.put (.int _)) F1)
    | _=>exact q.elim
  ·exact q.elim
 cases op<;>simp [zr8] at hop<;>subst hop
 ·exact main zuJ zrg fun a b H Q q=>⟨a,b,rfl,rfl,q⟩
 ·exact main zuI zrf fun a b H Q q=>⟨a,b,rfl,rfl,q⟩
theorem zgY{w:Wd}:∀l:List Nat,Shds cl w (l.map fun (i:Nat)=>V.int (i:Int)) (l.map fun (i:Nat)=>D.int (i:Int))
 | []=>.nil
 | a::l=>.cons (.int _) (zgY l)
theorem zi8:bootBuiltins "list" = some (.type "list"):=by decide +kernel
theorem zsL{p p2 pos2:Pos}(hc:X.calm=true)(hg:Gl X "list")(hm:X.mg "list" = none)(hg2:Gl X "range")(hm2:X.mg "range" = none)(he:PE X e (tE cl E f))(hs:starEach [e] X.env=[(false,eval e X.env)]) :
  PE X (.Call (.Name "list" p) [.Call (.Name "range" p2) [e] [] pos2] [] pos) (tN cl E (eUn lrD f)):=by
 refine PE.imp (zeU (zgi hc) hg hm zi8 (zd8 (zqo hg2 hm2 (zdB he zgB hs) hs) zgM)) ?_;rintro σ H Q ⟨B,w,ρ,S,rfl,R,q⟩;refine ⟨B,w,ρ,S,rfl,R,?_⟩;unfold eUn at q
 cases hf:f ρ S with
 | bad=>rw [hf] at q;exact q.elim
 | exc c S1=>rw [hf] at q;simp only [zan,hf,Out.bind];exact q
 | ok d S1 =>
  rw [hf] at q;simp only [zan,hf,Out.bind];intro vs w1 R1 F1 sh;dsimp only [Out.bind] at q
  cases hl:lrD d with
  | none=>rw [hl] at q;exact q.elim
  | some r =>
   rw [hl] at q;unfold lrD at hl;split at hl
   ·rename_i n;split at hl
    ·rename_i hz;cases hl;have hz':=of_decide_eq_true hz
     cases sh with
     | cons h1 hn =>
      cases hn;cases h1;refine ⟨n,rfl,hz'.1,hz'.2,fun pr hpr=>⟨pr,n.toNat,rfl,?_,by omega,fun l hl=>?_⟩⟩
      ·rw [show ((n.toNat:Nat):Int)=n by omega];exact zaO
      ·exact q l _ (w1.add pr (.rng 0 n)) (R1.grow (zaI hpr _)) (F1.trans (zaI hpr _).fut) hl (.lst (zgY _))
    ·cases hl
   ·cases hl
theorem zlX:OpR X (compareOp .Is) (fun x y H Q=>∃i j,x=.bl i/\y=.bl j/\Q (.bl (decide (i=j))) H):=by
 intro pins s σ H x y v u Q I rx ry h;obtain ⟨i,j,rfl,rfl,q⟩:=h;cases rx;cases ry;refine wpAny_is_plain (by rfl) ?_;refine ⟨.bl (decide (i=j)),H,I,?_,q⟩;show _=Value.bool _;congr 1
 cases i<;>cases j<;>rfl
def zr3:D->D->Option D | .bl a,.bl b=>some (.bl (decide (a=b))) | _,_=>none
theorem zqM:OpD X cl (compareOp .Is) zr3:=by
 intro pins s σ H x y v u Q I rx ry h;obtain ⟨w,d,e,r,rfl,hx,hy,hg,q⟩:=h;unfold zr3 at hg;split at hg
 ·cases hg;obtain rfl:=hx.blI;obtain rfl:=hy.blI;exact zlX pins s σ w.H _ _ v u Q I rx ry ⟨_,_,rfl,rfl,q _ w (Grow.refl _) (.bl _)⟩
 ·cases hg
def zgR:List D->Option D
 | [.lst l]=>(zbH l).bind fun ns=>if ns.isEmpty then none else some (.int (zeB ns))
 | ds=>zrW ds
theorem zoW(hc:X.calm=true):zhd X cl (.builtin "min") zgR:=by
 intro pins s σ H xs us Q I r h;obtain ⟨w,ds,d,rfl,hx,hg,q⟩:=h;unfold zgR at hg;split at hg
 ·rename_i l
  cases hi:zbH l with
  | none=>rw [hi] at hg;cases hg
  | some ns =>
   rw [hi] at hg;have hg':(if ns.isEmpty then none else some (D.int (zeB ns)))=some d:=hg;split at hg'
   ·cases hg'
   ·rename_i hne;cases hg'
    cases hx with
    | cons h1 h2 =>
     cases h2;obtain ⟨p,ys,rfl,ep,rs⟩:=h1.lstI;obtain rfl:=zgX rs hi;exact zk4 hc pins s σ w.H _ us Q I r ⟨p,ns,rfl,SqL.of ep,fun z=>hne (by rw [z];rfl),q _ w (Grow.refl _) (.int _)⟩
 ·exact zry hc pins s σ w.H xs us Q I r ⟨w,_,d,rfl,hx,hg,q⟩
end
end S2
namespace S2
open PySem PySem.Spec PyProof.Rows L2
structure FnI where
 ar:Nat
 own:Bool
 run:List D->Sto->Out D
structure ObE where
 cur:Str
 fk:Str->Str->Bool
 df:Str->Bool
 mt:Str->Option (Str×FnI)
 mks:Str->Option (List D×FnI)
structure Genv where
 con:Str->Option D
 fn:Str->Option FnI
 blt:Str->Bool
 exc:Str->Bool
 und:Str->Str->Bool
 isx:Str->Str->Option Bool
 ob:ObE
abbrev bmV:List Value:=[.type "ValueError",.type "Exception",.type "BaseException",.type "object"]
structure GOk(cl:Cf)(G:Genv)(P:Program)(wo:PySem.World)(K:PySem.W.Frag)(mg:Z6)(base:Heap)(k:Nat):Prop where
 con:∀x d,G.con x=some d->∃v u,mg x=some u/\zbp v u/\∀w,Shd cl w v d
 fn:∀x fi,G.fn x=some fi->∃f fd ps,mg x=some (.ref f)/\PySem.W.keepIn K (.ref f)=true/\zbG K fd ps []/\FnOk P wo K mg base (CXE P wo) k f fd ps (zgy cl fi.ar fi.own fi.run)
 blt:∀x,G.blt x=true->mg x=none
 exc:∀c,G.exc c=true->mg c=some (.ref (cl c))/\PySem.W.excIn K (cl c) bmV "ValueError.__new__" = true
 und:∀c C,G.und c C=true->L2.zo9 K (cl c) (cl C)
 isx:∀c C b,G.isx c C=some b->PySem.W.ExcCls K (cl c)/\PySem.W.kitOne K (.ref (cl c)) (zvN cl C)=some b
 fk:∀c f,G.ob.fk c f=true->zlk cl c f
 mt:∀m c fi,G.ob.mt m=some (c,fi)->∃f fd ps,Cls K (cl c)/\Meth K (cl c) m f/\zbG K fd ps []/\FnOk P wo K mg base (CXE P wo) k f fd ps (zgy cl fi.ar fi.own fi.run)
 mks:∀c dds fi,G.ob.mks c=some (dds,fi)->∃f fd ps dvs ds k',k'+1<=k/\mg c=some (.ref (cl c))/\Mk K (cl c) f/\zbG K fd ps []/\zbG K fd ps ds/\Vals dvs ds/\(∀w,Shds cl w dvs dds)/\FnOk P wo K mg base (CXE P wo) k' f fd ps (zgy cl fi.ar false fi.run)
abbrev Names:=List (Str×NameKind)
structure Gx(cl:Cf)(G:Genv)(k:Nat)(X:Cx)(nm:Names)(N:List Str)(E:St->XK):Prop where
 gok:GOk cl G X.prog X.w X.K X.mg X.base k
 room:Room k X.A
 calm:X.calm=true
 pass:zdb (CXE X.prog X.w) X E
 eN:X.N=N
 kk:X.K=cl.K
 pp:X.prog=cl.P
 ww:X.w=cl.wo
 nd:N.Nodup
 vis:∀x kd,nm.lookup x=some kd->∃kd',X.env.scope.names.lookup x=some kd'/\(kd'=kd\/(kd=.free/\kd'=.cell))
 fnx:∀x,nm.lookup x=some .local->X.env.scope.names.lookup x=some .local
def idx:List Str->Str->Option Nat
 | [],_=>none
 | y::l,x=>if y=x then some 0 else (idx l x).map (·+1)
theorem zgb:∀{N:List Str} {x:Str} {i:Nat},idx N x=some i->N[i]?=some x
 | y::l,x,i,h=>by
  unfold idx at h;split at h
  ·rename_i e;cases h;rw [e];rfl
  ·cases hr:idx l x with
   | none=>rw [hr] at h;cases h
   | some j=>rw [hr] at h;cases h;simpa using zgb hr
def zh8(x:Str):Bool:=!(x == ("__debug__":Str))&&!(x == ("__classdict__":Str))&&!decide (x = "__name__")
theorem zgO{x:Str}(h:zh8 x=true):(x == ("__debug__":Str))=false/\(x == ("__classdict__":Str))=false/\x ≠ "__name__":=by
 unfold zh8 at h;simp only [Bool.and_eq_true,Bool.not_eq_true',decide_eq_false_iff_not] at h;exact ⟨h.1.1,h.1.2,h.2⟩
def ztq:Option NameKind->Bool | some .local=>true | some .cell=>true | some .free=>true | _=>false
def zdq(nm:Names)(N:List Str)(x:Str):Option Nat:=if ztq (nm.lookup x)&&zh8 x then idx N x else none
def zcR(nm:Names)(x:Str):Bool:=decide (nm.lookup x=some .globalImplicit)&&zh8 x
section
variable{cl:Cf}{G:Genv}{k:Nat}{X:Cx}{nm:Names}{N:List Str}{E:St->XK}
theorem Gx.slot(g:Gx cl G k X nm N E){x:Str}{i:Nat}(h:zdq nm N x=some i):X.N[i]?=some x/\Vis X.env.scope x/\(x == ("__debug__":Str))=false/\(x == ("__classdict__":Str))=false:=by
 unfold zdq at h;split at h
 ·rename_i hv;rw [Bool.and_eq_true] at hv;obtain ⟨h1,h2,_⟩:=zgO hv.2;refine ⟨by rw [g.eN];exact zgb h,?_,h1,h2⟩
  cases hk:nm.lookup x with
  | none=>rw [hk] at hv;exact absurd hv.1 (by decide)
  | some kd =>
   obtain ⟨kd',e,z⟩:=g.vis x kd hk;rw [hk] at hv;unfold Vis;rw [e]
   rcases z with rfl | ⟨_,rfl⟩
   ·cases kd'<;>first | exact .inl rfl | exact .inr (.inl rfl) | exact .inr (.inr rfl) | exact absurd hv.1 (by decide)
   ·exact .inr (.inl rfl)
 ·cases h
theorem Gx.glob(g:Gx cl G k X nm N E){x:Str}(h:zcR nm x=true):Gl X x/\(x == ("__debug__":Str))=false/\x ≠ "__name__":=by
 unfold zcR at h;rw [Bool.and_eq_true] at h;obtain ⟨h1,_,h3⟩:=zgO h.2;obtain ⟨kd',e,z⟩:=g.vis x _ (of_decide_eq_true h.1)
 rcases z with rfl | ⟨z,_⟩
 ·exact ⟨e,h1,h3⟩
 ·cases z
end
abbrev Rec:=Names->List Str->Expr->Option (Bool×Fe)
def okE:Expr->Bool | .Starred _ _=>false | .Set _ _ _=>false | _=>true
theorem zaH{e:Expr}(h:okE e=true):zc1 e=true:=by cases e<;>first | rfl | cases h
theorem zeX{e:Expr}{op:CmpOp}(h:okE e=true):behindInMarks op e=false:=by cases e<;>first | rfl | cases h
theorem zf3{e:Expr}{env:PySem.Env}(h:okE e=true)(v:Value):foldedSetIterable e env v=pure v:=by cases e<;>first | rfl | cases h
def zbq:Expr->Bool | .IfExp _ _ _ _=>false | _=>true
def zbC(cl:Cf)(G:Genv)(k:Nat)(rc:Rec):Prop:=∀(X:Cx) (nm:Names) (N:List Str) (E:St->XK),Gx cl G k X nm N E->∀(e:Expr) (o:Bool) (f:Fe),rc nm N e=some (o,f) →
 (o=true->PE X e (tN cl E f))/\PE X e (tE cl E f)/\(zbq e=true->PT X e (tTr cl E f))/\okE e=true
def shE(rc:Rec)(nm:Names)(N:List Str)(e:Expr):Option Fe:=(rc nm N e).map (·.2)
def opE(rc:Rec)(nm:Names)(N:List Str)(e:Expr):Option Fe:=match e with
 | .Name x _=>(match zdq nm N x with | some i=>some (zao i) | none=>shE rc nm N e)
 | _=>shE rc nm N e
def shL(rc:Rec)(nm:Names)(N:List Str):List Expr->Option (List Fe)
 | []=>some []
 | e::es=>(shE rc nm N e).bind fun f=>(shL rc nm N es).bind fun fs=>some (f::fs)
def opL(rc:Rec)(nm:Names)(N:List Str):List Expr->Option (List Fe)
 | []=>some []
 | e::es=>(opE rc nm N e).bind fun f=>(opL rc nm N es).bind fun fs=>some (f::fs)
section
variable{cl:Cf}{G:Genv}{k:Nat}{rc:Rec}{X:Cx}{nm:Names}{N:List Str}{E:St->XK}
theorem zaU(hs:zbC cl G k rc)(g:Gx cl G k X nm N E){e:Expr}{f:Fe}(h:shE rc nm N e=some f):PE X e (tE cl E f)/\(zbq e=true->PT X e (tTr cl E f))/\okE e=true:=by
 unfold shE at h
 cases hr:rc nm N e with
 | none=>rw [hr] at h;cases h
 | some p =>
  obtain ⟨o,f'⟩:=p;rw [hr] at h;cases h;obtain ⟨_,h2,h3,h4⟩:=hs X nm N E g e o _ hr;exact ⟨h2,h3,h4⟩
theorem zcE(hs:zbC cl G k rc)(g:Gx cl G k X nm N E){e:Expr}{f:Fe}(h:opE rc nm N e=some f):PE X e (tH cl E f)/\okE e=true:=by
 unfold opE at h;split at h
 ·rename_i x pos;split at h
  ·rename_i i hi;cases h;obtain ⟨h1,h2,h3,h4⟩:=g.slot hi;exact ⟨zp3 h1 h2 h3 h4,rfl⟩
  ·obtain ⟨h1,_,h3⟩:=zaU hs g h;exact ⟨zjG h1,h3⟩
 ·obtain ⟨h1,_,h3⟩:=zaU hs g h;exact ⟨zjG h1,h3⟩
theorem zeI(hs:zbC cl G k rc)(g:Gx cl G k X nm N E):∀{es:List Expr} {fs:List Fe},shL rc nm N es=some fs->PA X es (tAs cl E fs)/\es.all zc1=true/\fs.length=es.length
 | [],fs,h=>by cases h;exact ⟨zgB,rfl,rfl⟩
 | e::es,fs,h=>by
  unfold shL at h
  cases h1:shE rc nm N e with
  | none=>rw [h1] at h;cases h
  | some f =>
   rw [h1] at h
   cases h2:shL rc nm N es with
   | none=>rw [h2] at h;cases h
   | some fs' =>
    rw [h2] at h;cases h;obtain ⟨a1,_,a3⟩:=zaU hs g h1;obtain ⟨b1,b2,b3⟩:=zeI hs g h2;exact ⟨zdB a1 b1 (zcr (zaH a3)),by rw [List.all_cons,zaH a3,b2];rfl,by rw [List.length_cons,List.length_cons,b3]⟩
theorem zmZ(hs:zbC cl G k rc)(g:Gx cl G k X nm N E):∀{es:List Expr} {fs:List Fe},opL rc nm N es=some fs->PA X es (tHs cl E fs)/\es.all zc1=true/\fs.length=es.length
 | [],fs,h=>by cases h;exact ⟨zpR,rfl,rfl⟩
 | e::es,fs,h=>by
  unfold opL at h
  cases h1:opE rc nm N e with
  | none=>rw [h1] at h;cases h
  | some f =>
   rw [h1] at h
   cases h2:opL rc nm N es with
   | none=>rw [h2] at h;cases h
   | some fs' =>
    rw [h2] at h;cases h;obtain ⟨a1,a3⟩:=zcE hs g h1;obtain ⟨b1,b2,b3⟩:=zmZ hs g h2;exact ⟨znJ a1 b1 (zcr (zaH a3)),by rw [List.all_cons,zaH a3,b2];rfl,by rw [List.length_cons,List.length_cons,b3]⟩
end
def zvM:Const->Option D
 | .int i=>some (.int i)
 | .bool b=>some (.bl b)
 | .none=>some .non
 | .str x=>some (.str x)
 | _=>none
def ztF:Operator->Option (D->D->Option D)
 | .Add=>some zcg | .Sub=>some zrT | .Mult=>some zfv | .Mod=>some zll | .FloorDiv=>some zrq | _=>none
def zkz:Expr->Bool | .Constant .none _ _=>true | _=>false
def zkA:Expr->Bool | .Constant (.bool _) _ _=>true | _=>false
def ltD:=zpe fun i j=>decide (i<j)
def leD:=zpe fun i j=>decide (i<=j)
def gtD:=zpe fun i j=>decide (j<i)
def geD:=zpe fun i j=>decide (j<=i)
def zrv:CmpOp->Expr->Option (D->D->Option D)
 | .Eq,_=>some eqD | .NotEq,_=>some neD | .Lt,_=>some ltD | .LtE,_=>some leD | .Gt,_=>some gtD | .GtE,_=>some geD | .In,_=>some inD | .NotIn,_=>some zom
 | .Is,b=>if zkz b then some zmg else if zkA b then some zr3 else none
 | .IsNot,b=>if zkz b then some zdo else if zkA b then some zlZ else none
def zi9(rc:Rec)(nm:Names)(N:List Str)(op:BoolOp):List Expr->Option Fe
 | []=>none
 | [a]=>if zbq a then shE rc nm N a else none
 | a::b::r=>if zbq a then (shE rc nm N a).bind fun f=>(zi9 rc nm N op (b::r)).bind fun h=>some (match op with | .And=>zhD f h | .Or=>eOr f h) else none
structure BI where
 g:List D->Option D
 nw:Bool
def zk9(x:Str):Option BI :=
 if x = "len" then some ⟨zeD,false⟩
 else if x = "all" then some ⟨zph,false⟩
 else if x = "sum" then some ⟨znw,false⟩
 else if x = "tuple" then some ⟨zch,false⟩
 else if x = "list" then some ⟨zkn,true⟩
 else if x = "min" then some ⟨zgR,false⟩
 else none
def zpq(x:Str):Option String:=if x = "int" then some "int" else if x = "bool" then some "bool" else if x = "tuple" then some "tuple" else if x = "str" then some "str" else if x = "list" then some "list" else none
def zoZ(G:Genv)(rc:Rec)(nm:Names)(N:List Str)(x:Str)(args:List Expr):Option (Bool×Fe) :=
 if zcR nm x then
  match G.fn x with
  | some fi=>if args.length=fi.ar then (shL rc nm N args).bind fun fs=>some (fi.own,eFn fi.run fs) else none
  | none=>if G.blt x then
    (if x = "isinstance" then (match args with
     | [a,.Name t _]=>if zcR nm t&&G.blt t&&(zpq t).isSome then (zpq t).bind fun T=>(opE rc nm N a).bind fun f=>some (false,eUn (zew T) f)
      else none
     | _=>none)
    else match args with
     | []=>none
     | _::_=>(zk9 x).bind fun bi=>(opL rc nm N args).bind fun fs=>some (bi.nw,zaJ bi.g fs)) else none
 else none
def zrc:Expr->Bool | .Tuple _ _ _=>true | _=>false
def zi1(G:Genv)(rc:Rec)(nm:Names)(N:List Str)(tg e:Expr):Option Fi:=match e with
 | .Call (.Name x p) args [] pos=>if x = "range" then (if zcR nm x&&G.blt x then (match args with
   | [a]=>(shE rc nm N a).bind fun f=>some (zdp f)
   | [a,b]=>(shE rc nm N a).bind fun f=>(shE rc nm N b).bind fun h=>some (zkR f h)
   | _=>none) else none)
  else if x = "zip" then (if zcR nm x&&G.blt x&&zrc tg then (match args with
   | [a,b]=>(shE rc nm N a).bind fun f=>(shE rc nm N b).bind fun h=>some (zpd f h)
   | _=>none) else none)
  else (shE rc nm N e).map zaX
 | _=>(shE rc nm N e).map zaX
def zsI:Expr->Option (Str×Expr×Pos×Pos) | .Call (.Name y p) [a] [] q=>some (y,a,p,q) | _=>none
def spA:List Expr->Option (Str×Expr×Pos×Pos) | [e]=>zsI e | _=>none
theorem zpM{args:List Expr}{c:Str×Expr×Pos×Pos}(h:spA args=some c):args=[.Call (.Name c.1 c.2.2.1) [c.2.1] [] c.2.2.2]:=by
 match args,h with
 | [e],h =>
  have h':zsI e=some c:=h;unfold zsI at h';split at h'
  ·cases h';rfl
  ·cases h'
def spG(G:Genv)(rc:Rec)(nm:Names)(N:List Str)(x:Str)(args:List Expr):Option (Bool×Fe):=(spA args).bind fun c =>
 if decide (x = "list")&&decide (c.1 = "range")&&zcR nm "list" && G.blt "list" && zcR nm "range" && G.blt "range" then (shE rc nm N c.2.1).map fun f=>(true,eUn lrD f)
 else none
section
variable{cl:Cf}{G:Genv}{k:Nat}{rc:Rec}{X:Cx}{nm:Names}{N:List Str}{E:St->XK}
theorem Gx.units(g:Gx cl G k X nm N E):X.A.units+64<cLine:=g.room.units
theorem znk{op:Operator}{gg:D->D->Option D}(h:ztF op=some gg):OpD X cl (binaryOp op) gg:=by
 cases op<;>simp [ztF] at h<;>subst h
 ·exact zqO
 ·exact zqH
 ·exact zqJ
 ·exact zqK
 ·exact zqN
theorem zfI(g:Gx cl G k X nm N E){op:CmpOp}{b:Expr}{gg:D->D->Option D}(h:zrv op b=some gg):OpD X cl (compareOp op) gg:=by
 cases op<;>simp only [zrv] at h
 ·cases h;exact zs6 g.kk g.units
 ·cases h;exact zs4 g.kk g.units
 ·cases h;exact zf5 zs0
 ·cases h;exact zf5 zs1
 ·cases h;exact zf5 zs2
 ·cases h;exact zf5 zs3
 ·split at h
  ·cases h;exact zqL
  ·split at h
   ·cases h;exact zqM
   ·cases h
 ·split at h
  ·cases h;exact zoj
  ·split at h
   ·cases h;exact zok
   ·cases h
 ·cases h;exact zs5 g.kk g.units
 ·cases h;exact zqI g.kk g.units
theorem zk8(hs:zbC cl G k rc)(g:Gx cl G k X nm N E){op:BoolOp}{pos:Pos}:∀{es:List Expr} {f:Fe},zi9 rc nm N op es=some f->PE X (.BoolOp op es pos) (tE cl E f)/\PW X (.BoolOp op es pos) (tTr cl E f)
 | [],f,h=>by cases h
 | [a],f,h=>by
  unfold zi9 at h;split at h
  ·rename_i ht;obtain ⟨h1,h2,_⟩:=zaU hs g h;refine ⟨zqq h1,?_⟩
   cases op with
   | And=>exact znX (h2 ht)
   | Or=>exact zqb (h2 ht)
  ·cases h
 | a::b::r,f,h=>by
  unfold zi9 at h;split at h
  ·rename_i ht
   cases h1:shE rc nm N a with
   | none=>rw [h1] at h;cases h
   | some fa =>
    rw [h1] at h
    cases h2:zi9 rc nm N op (b::r) with
    | none=>rw [h2] at h;cases h
    | some fb =>
     rw [h2] at h;obtain ⟨a1,a2,_⟩:=zaU hs g h1;obtain ⟨b1,b2⟩:=zk8 hs g (pos:=pos) h2
     cases op with
     | And=>cases h;exact ⟨zp4 a1 b1,zpz (a2 ht) b2⟩
     | Or=>cases h;exact ⟨zsK a1 b1,zsD (a2 ht) b2⟩
  ·cases h
theorem zmG:bootBuiltins "all" = some (.builtin "all"):=by decide +kernel
theorem zfJ:bootBuiltins "tuple" = some (.type "tuple"):=by decide +kernel
theorem zg6:bootBuiltins "list" = some (.type "list"):=by decide +kernel
theorem zmF:bootBuiltins "int" = some (.type "int"):=by decide +kernel
theorem zk7:bootBuiltins "bool" = some (.type "bool"):=by decide +kernel
theorem zr6:bootBuiltins "max" = some (.builtin "max"):=by decide +kernel
theorem zmE:bootBuiltins "min" = some (.builtin "min"):=by decide +kernel
theorem zr7:bootBuiltins "abs" = some (.builtin "abs"):=by decide +kernel
theorem zmD:bootBuiltins "str" = some (.type "str"):=by decide +kernel
theorem zrF(g:Gx cl G k X nm N E){x:Str}{bi:BI}{e:Expr}{es:List Expr}{fs:List Fe}{p pos:Pos}(h:zk9 x=some bi)(hg:zcR nm x=true)(hb:G.blt x=true)(ha:PA X (e::es) (tHs cl E fs))(hp:(e::es).all zc1=true) :
  (bi.nw=true->PE X (.Call (.Name x p) (e::es) [] pos) (tN cl E (zaJ bi.g fs)))/\PE X (.Call (.Name x p) (e::es) [] pos) (tE cl E (zaJ bi.g fs)):=by
 obtain ⟨g1,g2,g3⟩:=g.glob hg;have m:=g.gok.blt x hb;rw [List.all_cons,Bool.and_eq_true] at hp;have st:=zcr (es:=es) (env:=X.env) hp.1;have pl:=zbx (pos:=pos) (env:=X.env) hp.2
 have D1:∀{id:String} {gg:List D->Option D},zhd X cl (.builtin id) gg->bootBuiltins x=some (.builtin id)->PE X (.Call (.Name x p) (e::es) [] pos) (tE cl E (zaJ gg fs)):=fun hc hv =>
  PE.imp (zh6 hc g1 m hv ha g3 g2 st pl) fun _ _ _ q=>zpv (fun _ _ _ z=>z) q
 have D2:∀{T:String} {gg:List D->Option D},zhd X cl (.type T) gg->bootBuiltins x=some (.type T)->PE X (.Call (.Name x p) (e::es) [] pos) (tE cl E (zaJ gg fs)):=fun hc hv =>
  PE.imp (zeU hc g1 m hv ha g3 g2 st pl) fun _ _ _ q=>zpv (fun _ _ _ z=>z) q
 have N2:∀{T:String} {gg:List D->Option D},zrO X cl (.type T) gg->bootBuiltins x=some (.type T)->PE X (.Call (.Name x p) (e::es) [] pos) (tN cl E (zaJ gg fs)):=fun hc hv =>
  PE.imp (zeU hc g1 m hv ha g3 g2 st pl) fun _ _ _ q=>zsB (fun _ _ _ z=>z) q
 unfold zk9 at h;split at h
 ·rename_i e';cases h;exact ⟨(fun z=>absurd z (by decide)),D1 (zrz g.kk) (by rw [e'];exact PySem.boot_len)⟩
 split at h
 ·rename_i e';cases h;exact ⟨(fun z=>absurd z (by decide)),D1 (zrA g.calm) (by rw [e'];exact zmG)⟩
 split at h
 ·rename_i e';cases h;exact ⟨(fun z=>absurd z (by decide)),D1 (zrx g.calm) (by rw [e'];exact PyProof.Rows.boot_sum)⟩
 split at h
 ·rename_i e';cases h;exact ⟨(fun z=>absurd z (by decide)),D2 zmA (by rw [e'];exact zfJ)⟩
 split at h
 ·rename_i e';cases h;have n:=N2 zoT (by rw [e'];exact zg6);exact ⟨fun _=>n,zdr n⟩
 split at h
 ·rename_i e';cases h;exact ⟨(fun z=>absurd z (by decide)),D1 (zoW g.calm) (by rw [e'];exact zmE)⟩
 ·cases h
theorem zsp{t:Str}{T:String}(h:zpq t=some T):bootBuiltins t=some (.type T):=by
 unfold zpq at h;split at h
 ·rename_i e;cases h;rw [e];exact zmF
 split at h
 ·rename_i e;cases h;rw [e];exact zk7
 split at h
 ·rename_i e;cases h;rw [e];exact zfJ
 split at h
 ·rename_i e;cases h;rw [e];exact zmD
 split at h
 ·rename_i e;cases h;rw [e];exact zg6
 ·cases h
theorem zoY(hs:zbC cl G k rc)(g:Gx cl G k X nm N E){x:Str}{args:List Expr}{o:Bool}{f:Fe}{p pos:Pos}(h:zoZ G rc nm N x args=some (o,f)) :
  (o=true->PE X (.Call (.Name x p) args [] pos) (tN cl E f))/\PE X (.Call (.Name x p) args [] pos) (tE cl E f):=by
 unfold zoZ at h;split at h
 ·rename_i hg;obtain ⟨g1,g2,g3⟩:=g.glob hg;split at h
  ·rename_i fi hfi;split at h
   ·rename_i hl;obtain ⟨fa,fd,ps,m1,m2,m3,m4⟩:=g.gok.fn x fi hfi
    cases h1:shL rc nm N args with
    | none=>rw [h1] at h;cases h
    | some fs =>
     rw [h1] at h;cases h;obtain ⟨a1,a2,a3⟩:=zeI hs g h1;have hlen:fs.length=fi.ar:=a3.trans hl
     have main:PE X (.Call (.Name x p) args [] pos) (zgv (zgy cl fi.ar fi.own fi.run) [] E (tAs cl E fs)):=by
      cases args with
      | nil =>
       cases h1;refine PE.imp (zj8 m4 g.room g1 m1 m2 m3 .nil g.pass g2) ?_;rintro σ H Q ⟨B,w,ρ,S,rfl,R,q⟩;exact q [] w R (Fut.refl _) .nil
      | cons e es =>
       rw [List.all_cons,Bool.and_eq_true] at a2;exact zlV m4 g.room g1 m1 m2 m3 .nil g.pass a1 g2 (zcr a2.1) (zbx a2.2)
     cases ho:fi.own with
     | false =>
      rw [ho] at main;exact ⟨(fun z=>by cases z),PE.imp main fun _ _ _ q=>zrD q hlen⟩
     | true =>
      rw [ho] at main;have n:PE X (.Call (.Name x p) args [] pos) (tN cl E (eFn fi.run fs)):=PE.imp main fun _ _ _ q=>zrC q hlen
      exact ⟨fun _=>n,zdr n⟩
   ·cases h
  ·split at h
   ·rename_i hb;split at h
    ·rename_i hx;subst hx;split at h
     ·rename_i a t p2;split at h
      ·rename_i ht;rw [Bool.and_eq_true,Bool.and_eq_true] at ht;replace ht:=ht.1
       cases hT:zpq t with
       | none=>rw [hT] at h;cases h
       | some T =>
        rw [hT] at h
        cases h1:opE rc nm N a with
        | none=>rw [h1] at h;cases h
        | some fa =>
         rw [h1] at h;cases h;obtain ⟨t1,t2,t3⟩:=g.glob ht.1;obtain ⟨a1,a2⟩:=zcE hs g h1;exact ⟨(fun z=>by cases z),znO g1 (g.gok.blt _ hb) t1 (g.gok.blt _ ht.2) (zsp hT) t3 t2 (zaH a2) a1⟩
      ·cases h
     ·cases h
    ·split at h
     ·cases h
     ·rename_i e es
      cases h2:zk9 x with
      | none=>rw [h2] at h;cases h
      | some bi =>
       rw [h2] at h
       cases h1:opL rc nm N (e::es) with
       | none=>rw [h1] at h;cases h
       | some fs =>
        rw [h1] at h;cases h;obtain ⟨a1,a2,_⟩:=zmZ hs g h1;exact zrF g h2 hg hb a1 a2
   ·cases h
 ·cases h
theorem zkx(hs:zbC cl G k rc)(g:Gx cl G k X nm N E){e tg:Expr}{fi:Fi}(h:zi1 G rc nm N tg e=some fi):PI X tg e (tI cl E fi)/\okE e=true:=by
 have gen:∀{e:Expr},(shE rc nm N e).map zaX=some fi->PI X tg e (tI cl E fi)/\okE e=true:=fun {e} h=>by
  cases h1:shE rc nm N e with
  | none=>rw [h1] at h;cases h
  | some f =>
   rw [h1] at h;cases h;obtain ⟨a1,_,a3⟩:=zaU hs g h1;exact ⟨zpQ g.kk a1,a3⟩
 unfold zi1 at h;split at h
 ·rename_i x p args pos;split at h
  ·rename_i hx;subst hx;split at h
   ·rename_i hb;rw [Bool.and_eq_true] at hb;obtain ⟨g1,_,_⟩:=g.glob hb.1;have m:=g.gok.blt _ hb.2;split at h
    ·rename_i a
     cases h1:shE rc nm N a with
     | none=>rw [h1] at h;cases h
     | some f =>
      rw [h1] at h;cases h;obtain ⟨a1,_,a3⟩:=zaU hs g h1;exact ⟨znI g1 m (zdB a1 zgB (zcr (zaH a3))) (zcr (zaH a3)),rfl⟩
    ·rename_i a b
     cases h1:shE rc nm N a with
     | none=>rw [h1] at h;cases h
     | some f =>
      rw [h1] at h
      cases h2:shE rc nm N b with
      | none=>rw [h2] at h;cases h
      | some f2 =>
       rw [h2] at h;cases h;obtain ⟨a1,_,a3⟩:=zaU hs g h1;obtain ⟨b1,_,b3⟩:=zaU hs g h2;have s1:=zcr (es:=[b]) (env:=X.env) (zaH a3);have s2:=zcr (es:=[]) (env:=X.env) (zaH b3);exact ⟨znH g1 m (zdB a1 (zdB b1 zgB s2) s1) (by rw [s1,s2];rfl) s2,rfl⟩
    ·cases h
   ·cases h
  split at h
  ·rename_i hx;subst hx;split at h
   ·rename_i hb;rw [Bool.and_eq_true,Bool.and_eq_true] at hb;obtain ⟨g1,_,_⟩:=g.glob hb.1.1;have m:=g.gok.blt _ hb.1.2;split at h
    ·rename_i a b
     cases h1:shE rc nm N a with
     | none=>rw [h1] at h;cases h
     | some f =>
      rw [h1] at h
      cases h2:shE rc nm N b with
      | none=>rw [h2] at h;cases h
      | some f2 =>
       rw [h2] at h;cases h;obtain ⟨a1,_,a3⟩:=zaU hs g h1;obtain ⟨b1,_,b3⟩:=zaU hs g h2;have s1:=zcr (es:=[b]) (env:=X.env) (zaH a3);have s2:=zcr (es:=[]) (env:=X.env) (zaH b3)
       cases tg with
       | Tuple es kk tp=>exact ⟨zpO g1 m (zdB a1 (zdB b1 zgB s2) s1) s1 (zbx (by simp [zaH b3])),rfl⟩
       | _=>cases hb.2
    ·cases h
   ·cases h
  ·exact gen h
 ·exact gen h
theorem zsH(hs:zbC cl G k rc)(g:Gx cl G k X nm N E){x:Str}{args:List Expr}{p pos:Pos}{o:Bool}{f:Fe}(h:spG G rc nm N x args=some (o,f)):(o=true->PE X (.Call (.Name x p) args [] pos) (tN cl E f))/\PE X (.Call (.Name x p) args [] pos) (tE cl E f):=by
 unfold spG at h
 cases hc:spA args with
 | none=>rw [hc] at h;cases h
 | some c =>
 rw [hc] at h;obtain rfl:=zpM hc;obtain ⟨y,a,p2,pos2⟩:=c;dsimp only [Option.bind] at h ⊢;clear hc;split at h
 ·rename_i hb;simp only [Bool.and_eq_true,decide_eq_true_eq] at hb;obtain ⟨⟨⟨⟨⟨rfl,rfl⟩,b1⟩,b2⟩,b3⟩,b4⟩:=hb;obtain ⟨g1,_,_⟩:=g.glob b1;obtain ⟨g2,_,_⟩:=g.glob b3
  cases h1:shE rc nm N a with
  | none=>rw [h1] at h;cases h
  | some fa =>
   rw [h1] at h;cases h;obtain ⟨a1,_,a3⟩:=zaU hs g h1;have n:=zsL (p:=p) (p2:=p2) (pos:=pos) (pos2:=pos2) g.calm g1 (g.gok.blt _ b2) g2 (g.gok.blt _ b4) a1 (zcr (zaH a3));exact ⟨fun _=>n,zdr n⟩
 ·cases h
def zmT:Expr->Bool | .Name _ _=>true | .Call (.Name _ _) (_::_) _ _=>true | .Attribute (.Name _ _) _ _=>true | _=>false
def zor(G:Genv)(rc:Rec)(nm:Names)(N:List Str)(o:Expr)(m:Str)(ap cp:Pos)(args:List Expr)(kws:List Keyword):Option (Bool×Fe) :=
 if kws.isEmpty&&zmT o&&(ap.endLine == cp.line)&&decide (args.length<30) then (G.ob.mt m).bind fun c=>if args.length+1=c.2.ar then (shE rc nm N o).bind fun fo=>(shL rc nm N args).bind fun fs=>some (c.2.own,zbD c.1 m c.2.run fo fs) else none else none
def mkG(G:Genv)(rc:Rec)(nm:Names)(N:List Str)(x:Str)(args:List Expr):Option (Bool×Fe) :=
 if zcR nm x&&!args.isEmpty then (G.ob.mks x).bind fun c=>(shL rc nm N args).bind fun fs =>
  if args.length+1=c.2.ar then some (false,eMk x [] c.2.run fs) else if args.length+c.1.length+1=c.2.ar then some (false,eMk x c.1 c.2.run fs) else none
 else none
def zf7:Expr->Bool | .Name _ _=>true | _=>false
def ztz(G:Genv)(rc:Rec)(nm:Names)(N:List Str)(o:Expr)(f:Str):Option (Bool×Fe):=if zf7 o&&!G.ob.df f&&G.ob.fk G.ob.cur f then (shE rc nm N o).map fun fo=>(false,zeE G.ob.cur f fo) else none
def ztG:Expr->Option (Expr×Str×Pos) | .Attribute o m p=>some (o,m,p) | _=>none
theorem zld{e:Expr}{x:Expr×Str×Pos}(h:ztG e=some x):e=.Attribute x.1 x.2.1 x.2.2:=by cases e<;>first | (cases h;done) | (cases h;rfl)
def nmF:Expr->Option (Str×Pos) | .Name x p=>some (x,p) | _=>none
theorem zkg{e:Expr}{x:Str×Pos}(h:nmF e=some x):e=.Name x.1 x.2:=by cases e<;>first | (cases h;done) | (cases h;rfl)
def zm7:List CmpOp->Bool | [.NotIn]=>true | _=>false
def zuL:List Expr->Option Expr | [a]=>some a | _=>none
def zs7(G:Genv)(rc:Rec)(nm:Names)(N:List Str)(a:Expr)(ops:List CmpOp)(bs:List Expr):Option (Bool×Fe) :=
 if zm7 ops then (zuL bs).bind fun b=>(ztG b).bind fun t=>if zf7 t.1&&G.ob.df t.2.1&&G.ob.fk G.ob.cur t.2.1 then (shE rc nm N a).bind fun fa=>(shE rc nm N t.1).bind fun fo=>some (false,zmr G.ob.cur t.2.1 fa fo) else none else none
def ztw(G:Genv)(rc:Rec)(nm:Names)(N:List Str)(a i:Expr):Option (Bool×Fe) :=
 (ztG a).bind fun t=>if zf7 t.1&&G.ob.df t.2.1&&G.ob.fk G.ob.cur t.2.1 then (nmF i).bind fun x=>(zdq nm N x.1).bind fun j=>(shE rc nm N t.1).bind fun fo=>some (false,zhC G.ob.cur t.2.1 fo j) else none
theorem Gx.same(g:Gx cl G k X nm N E):Same' cl X:=⟨g.kk,g.pp,g.ww⟩
theorem Gx.u16(g:Gx cl G k X nm N E):X.A.units+16<cLine:=Nat.lt_of_le_of_lt (Nat.add_le_add_left (by decide) _) g.units
theorem zaA{α β:Type}{o:Option α}{f:α->Option β}{b:β}(h:o.bind f=some b):∃a,o=some a/\f a=some b:=by
 cases o with
 | none=>cases h
 | some a=>exact ⟨a,rfl,h⟩
theorem zrk(hs:zbC cl G k rc)(g:Gx cl G k X nm N E){o:Expr}{f:Str}{pos:Pos}{w:Bool}{fe:Fe}(h:ztz G rc nm N o f=some (w,fe)):w=false/\PE X (.Attribute o f pos) (tE cl E fe):=by
 unfold ztz at h;split at h
 ·rename_i hc;rw [Bool.and_eq_true,Bool.and_eq_true] at hc
  cases h1:shE rc nm N o with
  | none=>rw [h1] at h;cases h
  | some fo =>
   rw [h1] at h;cases h;refine ⟨rfl,zp1 (g.gok.fk _ _ hc.2) g.kk (zaU hs g h1).1 ?_⟩
   cases o<;>first | rfl | cases hc.1.1
 ·cases h
theorem zqR(hs:zbC cl G k rc)(g:Gx cl G k X nm N E){a:Expr}{ops:List CmpOp}{bs:List Expr}{pos:Pos}{w:Bool}{fe:Fe}(h:zs7 G rc nm N a ops bs=some (w,fe)):w=false/\PE X (.Compare a ops bs pos) (tE cl E fe)/\PT X (.Compare a ops bs pos) (tTr cl E fe):=by
 unfold zs7 at h;split at h
 ·rename_i hn
  have eo:ops=[.NotIn]:=by
   unfold zm7 at hn;split at hn
   ·rfl
   ·cases hn
  subst eo;obtain ⟨b,h1,hz⟩:=zaA h;obtain ⟨t,h2,hy⟩:=zaA hz
  have eb:bs=[b]:=by
   unfold zuL at h1;split at h1
   ·cases h1;rfl
   ·cases h1
  have e2:=zld h2;clear h hz h1 h2;subst eb;subst e2;obtain ⟨o,f,ap⟩:=t;dsimp only at hy ⊢;split at hy
  ·rename_i hc;rw [Bool.and_eq_true,Bool.and_eq_true] at hc;obtain ⟨fa,h3,hy⟩:=zaA hy;obtain ⟨fo,h4,hy⟩:=zaA hy;cases hy
   have hb:attributeBase o f X.env (eval o X.env)=eval o X.env:=by cases o<;>first | rfl | cases hc.1.1
   exact ⟨rfl,zpZ g.u16 g.same (g.gok.fk _ _ hc.2) (zaU hs g h3).1 (zaU hs g h4).1 hb rfl,zpD g.u16 g.same (g.gok.fk _ _ hc.2) (zaU hs g h3).1 (zaU hs g h4).1 hb rfl⟩
  ·cases hy
 ·cases h
theorem zrh(hs:zbC cl G k rc)(g:Gx cl G k X nm N E){a i:Expr}{pos:Pos}{w:Bool}{fe:Fe}(h:ztw G rc nm N a i=some (w,fe)):w=false/\PE X (.Subscript a i pos) (tE cl E fe):=by
 unfold ztw at h;obtain ⟨t,h2,hz⟩:=zaA h;have e2:=zld h2;clear h h2;subst e2;obtain ⟨o,f,ap⟩:=t;dsimp only at hz ⊢;split at hz
 ·rename_i hc;rw [Bool.and_eq_true,Bool.and_eq_true] at hc;obtain ⟨x,h3,hz⟩:=zaA hz;obtain ⟨j,h4,hz⟩:=zaA hz;obtain ⟨fo,h5,hz⟩:=zaA hz;cases hz;have e3:=zkg h3;clear h3;subst e3;obtain ⟨s1,s2,s3,s4⟩:=g.slot h4;refine ⟨rfl,znP s1 s2 s3 s4 g.u16 g.same (g.gok.fk _ _ hc.2) (zaU hs g h5).1 ?_ (fun _ _=>rfl)⟩
  cases o<;>first | rfl | cases hc.1.1
 ·cases hz
theorem zxl{pos:Pos}{env:PySem.Env}{args:List Expr}(hp:args.all zc1=true)(hl:args.length<30):methodCallForm (args.length+0) (backTo pos (starEach args env)) (backToKw pos (keywordEach [] env))=true:=by
 have h:=zbx (pos:=pos) (env:=env) hp;unfold methodCallForm
 have h1:(backTo pos (starEach args env)).all (!·.1)=true:=by
  rw [List.all_eq_not_any_not];simpa using h
 rw [h1];show (true&&true&&decide (args.length+0+0<30))=true;rw [decide_eq_true (by omega)];rfl
theorem zkj{o:Expr}{m:Str}{ap pos:Pos}{env:PySem.Env}{args:List Expr}(hb:attributeBase o m env (eval o env)=eval o env)(hf:methodCallForm (args.length+0) (backTo pos (starEach args env)) (backToKw pos (keywordEach [] env))=true)(hp:(ap.endLine == pos.line)=true) :
  eval (.Call (.Attribute o m ap) args [] pos) env=(do
   let ov ← eval o env
   standAt ap.atName
   let (f,first) ← holding [ov] (getMethod ov m (do return (← importBound o env).getD true))
   callWith pos f first (backTo pos (starEach args env)) (backToKw pos (keywordEach [] env))):=by
 show (do
  let ov ← attributeBase o m env (eval o env)
  standAt ap.atName
  methodCall o m ap pos env ov (args.length+0) (backTo pos (starEach args env)) (backToKw pos (keywordEach [] env)))=_
 rw [hb]
 have e:∀ov,methodCall o m ap pos env ov (args.length+0) (backTo pos (starEach args env)) (backToKw pos (keywordEach [] env))=(do
   let (f,first) ← holding [ov] (getMethod ov m (do return (← importBound o env).getD true))
   callWith pos f first (backTo pos (starEach args env)) (backToKw pos (keywordEach [] env))):=fun ov=>by
  unfold methodCall calleeOf methodCallPos;rw [hf,hp];rfl
 simp only [e]
theorem zoq(hs:zbC cl G k rc)(g:Gx cl G k X nm N E){o:Expr}{m:Str}{args:List Expr}{kws:List Keyword}{ap pos:Pos}{w:Bool}{fe:Fe}(h:zor G rc nm N o m ap pos args kws=some (w,fe)):(w=true->PE X (.Call (.Attribute o m ap) args kws pos) (tN cl E fe))/\PE X (.Call (.Attribute o m ap) args kws pos) (tE cl E fe):=by
 unfold zor at h;split at h
 ·rename_i hc;simp only [Bool.and_eq_true,decide_eq_true_eq] at hc;obtain ⟨⟨⟨z1,z2⟩,z3⟩,z4⟩:=hc;obtain rfl:=List.isEmpty_iff.mp z1;obtain ⟨⟨c,fi⟩,h1,h⟩:=zaA h;dsimp only at h;split at h
  ·rename_i hl;obtain ⟨fo,h2,h⟩:=zaA h;obtain ⟨fs,h3,h⟩:=zaA h;cases h;obtain ⟨f,fd,ps,c1,c2,c3,c4⟩:=g.gok.mt m c fi h1;obtain ⟨a1,a2,a3⟩:=zeI hs g h3
   have hlen:fs.length+1=fi.ar:=by rw [a3];exact hl
   have hb:attributeBase o m X.env (eval o X.env)=eval o X.env:=by
    unfold zmT at z2
    split at z2<;>first | rfl | cases z2
   have ht:=zkj (ap:=ap) hb (zxl (pos:=pos) a2 z4) z3
   have main:PE X (.Call (.Attribute o m ap) args [] pos) (zgu (cl c) m (zgy cl fi.ar fi.own fi.run) [] E (tE cl E fo) (tAs cl E fs)):=by
    cases args with
    | nil =>
     cases h3;refine PE.imp (zj6 (zaU hs g h2).1 c1 c2 c4 g.room c3 .nil g.pass ht) ?_;rintro σ H Q ⟨B,w,ρ,S,rfl,R,q⟩;refine ⟨B,w,ρ,S,rfl,R,?_⟩
     cases hfo:fo ρ S with
     | bad=>rw [hfo] at q;exact q
     | exc c S1=>rw [hfo] at q;exact q
     | ok d S1 =>
      rw [hfo] at q;intro v w1 R1 F1 sh;obtain ⟨a,dx,fs,e1,e2,e3,B',w',ρ',S',e4,R',q⟩:=q v w1 R1 F1 sh;refine ⟨a,dx,fs,e1,e2,e3,?_⟩;have:=q [] w' R' (Fut.refl _) .nil;rw [e4] at this;exact this
    | cons e es =>
     rw [List.all_cons,Bool.and_eq_true] at a2;exact zlR (zaU hs g h2).1 c1 c2 c4 g.room c3 .nil g.pass a1 (zcr a2.1) (zbx a2.2) ht
   cases ho:fi.own with
   | false =>
    rw [ho] at main;exact ⟨(fun z=>by cases z),PE.imp main fun _ _ _ q=>zqV q hlen⟩
   | true =>
    rw [ho] at main;have n:=PE.imp main fun _ _ _ q=>zqU q hlen
    exact ⟨fun _=>n,zdr n⟩
  ·cases h
 ·cases h
theorem zs8(hs:zbC cl G k rc)(g:Gx cl G k X nm N E){x:Str}{args:List Expr}{p pos:Pos}{w:Bool}{fe:Fe}(h:mkG G rc nm N x args=some (w,fe)):w=false/\PE X (.Call (.Name x p) args [] pos) (tE cl E fe):=by
 unfold mkG at h;split at h
 ·rename_i hc;rw [Bool.and_eq_true] at hc;obtain ⟨⟨dds,fi⟩,h1,h⟩:=zaA h;obtain ⟨fs,h2,h⟩:=zaA h;dsimp only at h;obtain ⟨f,fd,ps,dvs,ds,k',hk,mC,M,B0,BD,vd,sd,F⟩:=g.gok.mks x dds fi h1;obtain ⟨a1,a2,a3⟩:=zeI hs g h2;obtain ⟨g1,g2,g3⟩:=g.glob hc.1
  cases args with
  | nil=>cases hc.2
  | cons e es =>
   rw [List.all_cons,Bool.and_eq_true] at a2;have hr:Room (k'+1) X.A:=g.room.mono hk;split at h
   ·rename_i hl;cases h;exact ⟨rfl,PE.imp (zh5 M F hr g1 mC B0 .nil g.pass a1 g2 (zcr a2.1) (zbx a2.2)) fun _ _ _ q=>zuN (dds:=[]) (fun _=>.nil) q (by rw [a3];exact hl)⟩
   ·split at h
    ·rename_i hl;cases h;exact ⟨rfl,PE.imp (zh5 M F hr g1 mC BD vd g.pass a1 g2 (zcr a2.1) (zbx a2.2)) fun _ _ _ q=>zuN sd q (by rw [a3];exact hl)⟩
    ·cases h
 ·cases h
end
end S2
namespace S2
open PySem PySem.Spec PyProof.Rows L2
def zqT:Expr->Option Str | .Name x _=>some x | _=>none
def ztr(df:Bool):Option NameKind->Bool | some .local=>true | some .cell=>df | _=>false
def tgI(df:Bool)(nm:Names)(N:List Str)(n:Nat)(x:Str):Option Nat:=if ztr df (nm.lookup x) then (idx N x).bind fun i=>if i<n then some i else none else none
def zpb(df:Bool)(nm:Names)(N:List Str)(n:Nat):List Expr->Option (List Nat)
 | []=>some []
 | .Name x _::es=>(tgI df nm N n x).bind fun i=>(zpb df nm N n es).bind fun is=>some (i::is)
 | _::_=>none
def tgG(df:Bool)(nm:Names)(N:List Str)(n:Nat):Expr->Option Tg
 | .Name x _=>(tgI df nm N n x).map .one
 | .Tuple es _ _=>(zpb df nm N n es).map .tup
 | _=>none
structure Sto'(X:Cx)(nm:Names)(df:Bool):Prop where
 fn:df=true->∀x,nm.lookup x=some .cell->X.fn x=true
section
variable{cl:Cf}{G:Genv}{k:Nat}{X:Cx}{nm:Names}{N:List Str}{E:St->XK}{df:Bool}{n:Nat}
theorem zgt(g:Gx cl G k X nm N E)(sd:Sto' X nm df){x:Str}{i:Nat}(h:tgI df nm N n x=some i):i<n/\X.N.Nodup/\X.N[i]?=some x/\Loc X.env.scope x/\(X.fn x=true\/X.env.scope.names.lookup x=some .local):=by
 unfold tgI at h;split at h
 ·rename_i hl
  cases hi:idx N x with
  | none=>rw [hi] at h;cases h
  | some j =>
   rw [hi] at h;dsimp only [Option.bind] at h;split at h
   ·rename_i hn;cases h;refine ⟨hn,by rw [g.eN];exact g.nd,by rw [g.eN];exact zgb hi,?_,?_⟩
    ·cases hk:nm.lookup x with
     | none=>rw [hk] at hl;cases hl
     | some kd =>
      obtain ⟨kd',e,z⟩:=g.vis x kd hk;rw [hk] at hl;unfold L2.Loc;rw [e]
      rcases z with rfl | ⟨rfl,_⟩
      ·cases kd'<;>first | exact .inl rfl | exact .inr rfl | cases hl
      ·cases hl
    ·cases hk:nm.lookup x with
     | none=>rw [hk] at hl;cases hl
     | some kd =>
      rw [hk] at hl
      cases kd<;>first | exact .inr (g.fnx x hk) | exact .inl (sd.fn hl x hk) | cases hl
   ·cases h
 ·cases h
theorem zjk(g:Gx cl G k X nm N E)(sd:Sto' X nm df):∀{es:List Expr} {is:List Nat},zpb df nm N n es=some is->PGs X es (tGs cl n is)/\(assignEach es X.env).length=is.length/\(assignEach es X.env).findIdx? (·.1)=none
 | [],is,h=>by cases h;exact ⟨znK,rfl,rfl⟩
 | e::es,is,h=>by
  cases e with
  | Name x pos =>
   unfold zpb at h
   cases h1:tgI df nm N n x with
   | none=>rw [h1] at h;cases h
   | some i =>
    rw [h1] at h
    cases h2:zpb df nm N n es with
    | none=>rw [h2] at h;cases h
    | some is' =>
     rw [h2] at h;cases h;obtain ⟨a1,a2,a3,a4,a5⟩:=zgt g sd h1;obtain ⟨b1,b2,b3⟩:=zjk g sd h2;refine ⟨zlB a1 a2 a3 a4 a5 b1,?_,?_⟩
     ·show (assignEach es X.env).length+1=_;rw [b2];rfl
     ·show ((false,assign (.Name x pos) X.env)::assignEach es X.env).findIdx? (·.1)=none;rw [List.findIdx?_cons];simp [b3]
  | _=>cases h
theorem znr(g:Gx cl G k X nm N E)(sd:Sto' X nm df){tg:Expr}{t:Tg}(h:tgG df nm N n tg=some t):PG X tg (tG cl n t):=by
 unfold tgG at h;split at h
 ·rename_i x pos
  cases h1:tgI df nm N n x with
  | none=>rw [h1] at h;cases h
  | some i =>
   rw [h1] at h;cases h;obtain ⟨a1,a2,a3,a4,a5⟩:=zgt g sd h1;exact zpT a1 a2 a3 a4 a5
 ·rename_i es kk pos
  cases h1:zpb df nm N n es with
  | none=>rw [h1] at h;cases h
  | some is =>
   rw [h1] at h;cases h;obtain ⟨b1,b2,b3⟩:=zjk g sd h1;exact zpS g.calm b1 b2 b3
 ·cases h
end
def za7:Expr->List Str
 | .Name x _=>[x]
 | .Tuple es _ _=>es.filterMap zqT
 | _=>[]
def zbb(names:Names)(N:List Str):List (Str×Nat):=names.filterMap fun p=>if p.2=.free then (idx N p.1).map fun i=>(p.1,i) else none
def zxf:Option NameKind->Bool | some .cell=>true | some .free=>true | _=>false
def zk1(nm:Names)(scope:Scope)(xs:List Str)(caps:List (Str×Nat)):Bool :=
 decide (scope.kind=.function)&&decide ((scope.names.map (·.1)).Nodup)&&scope.names.all (fun y=>!decide (y.2=.local)||decide (scope.names.lookup y.1=some .local))
 && scope.names.all (fun y=>!decide (y.2=.free)||zxf (nm.lookup y.1))&&caps.all (fun p=>scope.names.all fun z=>!decide (z.1=p.1)||decide (z.2=.free))&&decide ((xs++caps.map (·.1)).Nodup)
def zmy(rc:Rec)(nm:Names)(N:List Str):List Expr->Option Fe
 | []=>some zet
 | [c]=>if zbq c then shE rc nm N c else none
 | _=>none
def zi5(G:Genv)(rc:Rec)(nm:Names)(N:List Str)(elt:Expr)(g:Comprehension)(scope:Scope):Option Fe :=
 if decide (g.is_async=0)&&zk1 nm scope (za7 g.target) (zbb scope.names N) then
  (zi1 G rc nm N g.target g.iter).bind fun it =>
  (tgG true scope.names (za7 g.target++(zbb scope.names N).map (·.1)) (za7 g.target).length g.target).bind fun t =>
  (zmy rc scope.names (za7 g.target++(zbb scope.names N).map (·.1)) g.ifs).bind fun c =>
  (shE rc scope.names (za7 g.target++(zbb scope.names N).map (·.1)) elt).bind fun el =>
  some (zcv (za7 g.target).length t it c el ((zbb scope.names N).map (·.2)))
 else none
theorem zdC{scope:Scope}{env:PySem.Env}:∀{names:Names} {x:Str} {kd:NameKind},names.lookup x=some kd →
  ∃kd',(names.map fun (n,k)=>if (k == NameKind.free&&env.scope.kind == .function&&env.kindOf n == some .cell) then (n,NameKind.cell) else (n,k)).lookup x=some kd'/\(kd'=kd\/(kd=.free/\kd'=.cell))
 | [],_,_,h=>by cases h
 | (n,k0)::r,x,kd,h=>by
  rw [List.lookup_cons] at h;rw [List.map_cons];dsimp only
  by_cases hc:(k0 == NameKind.free&&env.scope.kind == .function&&env.kindOf n == some .cell)=true
  ·rw [if_pos hc,List.lookup_cons]
   cases hx:x == n with
   | true =>
    rw [hx] at h;cases h;simp only [Bool.and_eq_true,beq_iff_eq] at hc;exact ⟨_,rfl,.inr ⟨hc.1.1,rfl⟩⟩
   | false=>rw [hx] at h;exact zdC (scope:=scope) h
  ·rw [if_neg hc,List.lookup_cons]
   cases hx:x == n with
   | true=>rw [hx] at h;cases h;exact ⟨_,rfl,.inl rfl⟩
   | false=>rw [hx] at h;exact zdC (scope:=scope) h
section
variable{cl:Cf}{G:Genv}{k:Nat}{rc:Rec}{X:Cx}{nm:Names}{N:List Str}{E:St->XK}
theorem zi4(g:Gx cl G k X nm N E){scope:Scope}{xs:List Str}(h:zk1 nm scope xs (zbb scope.names N)=true):CompScopeG X.env.scope scope X.N xs (zbb scope.names N)/\(xs++(zbb scope.names N).map (·.1)).Nodup:=by
 unfold zk1 at h;simp only [Bool.and_eq_true,List.all_eq_true,decide_eq_true_eq,Bool.or_eq_true,Bool.not_eq_true',decide_eq_false_iff_not] at h;obtain ⟨⟨⟨⟨⟨h1,h2⟩,h3⟩,h4⟩,h5⟩,h6⟩:=h
 have fr:∀y∈scope.names,y.2=.free->X.env.scope.names.lookup y.1=some .cell\/X.env.scope.names.lookup y.1=some .free:=fun y hy hf=>by
  rcases h4 y hy with z | z
  ·exact absurd hf z
  ·cases hk:nm.lookup y.1 with
   | none=>rw [hk] at z;cases z
   | some kd =>
    obtain ⟨kd',e,zz⟩:=g.vis y.1 kd hk;rw [hk] at z;rw [e]
    rcases zz with rfl | ⟨_,rfl⟩
    ·cases kd'<;>first | exact .inl rfl | exact .inr rfl | cases z
    ·exact .inl rfl
 refine ⟨⟨h2,h1,fun y hy hl=>(h3 y hy).elim (fun z=>absurd hl z) fun z=>z,fr,fun p hp=>?_,fun p hp z hz e=>(h5 p hp z hz).elim (fun w=>absurd e w) fun w=>w⟩,h6⟩;unfold zbb at hp;obtain ⟨q,hq,e⟩:=List.mem_filterMap.mp hp;split at e
 ·rename_i hf
  cases hi:idx N q.1 with
  | none=>rw [hi] at e;cases e
  | some i =>
   rw [hi] at e;have e':(q.1,i)=p:=Option.some.inj e;subst e';refine ⟨by rw [g.eN];exact zgb hi,by rw [<-hf];exact hq,?_⟩
   rcases fr q hq hf with z | z<;>rw [z]<;>exact fun w=>by cases w
 ·cases e
theorem zga(g:Gx cl G k X nm N E){scope:Scope}{xs:List Str}(hn:(xs++(zbb scope.names N).map (·.1)).Nodup)(cl':List (Str×Addr))(C:Addr)(s:Shared)(H:Hp)(fp:List Addr) :
  Gx cl G k (za8 X xs (zbb scope.names N) scope cl' C s H fp) scope.names (xs++(zbb scope.names N).map (·.1)) noE where
 gok:=g.gok
 room:=g.room
 calm:=g.calm
 pass:=fun pins σ H s e s' I q=>by
  obtain ⟨a,cls,a0,H',B,_,_,_,_,_,_,_,_,_,z⟩:=q;exact z.elim
 eN:=rfl
 kk:=g.kk
 pp:=g.pp
 ww:=g.ww
 nd:=hn
 vis:=fun x kd h=>zdC (scope:=scope) h
 fnx:=fun x h=>lookup_relabel_local h
theorem zoQ(hs:zbC cl G k rc)(g:Gx cl G k X nm N noE){ifs:List Expr}{c:Fe}(h:zmy rc nm N ifs=some c):PIf X ifs (tTr cl noE c):=by
 unfold zmy at h;split at h
 ·cases h;intro pins s σ H Q I q;obtain ⟨B,w,ρ,S,rfl,R,q⟩:=q;exact zn5 pins s σ w.H Q I (q w R (Fut.refl _))
 ·split at h
  ·rename_i c ht;obtain ⟨_,a2,_⟩:=zaU hs g h;exact zn4 (a2 ht)
  ·cases h
 ·cases h
theorem zfH(hs:zbC cl G k rc)(g:Gx cl G k X nm N E){elt:Expr}{gg:Comprehension}{scope:Scope}{f:Fe}(h:zi5 G rc nm N elt gg scope=some f) :
  ∃it t c el,f=zcv (za7 gg.target).length t it c el ((zbb scope.names N).map (·.2))/\gg=⟨gg.target,gg.iter,gg.ifs,0⟩/\CompScopeG X.env.scope scope X.N (za7 gg.target) (zbb scope.names N)/\PI X gg.target gg.iter (tI cl E it)/\okE gg.iter=true ∧
   (∀cl' C s H fp,PG (za8 X (za7 gg.target) (zbb scope.names N) scope cl' C s H fp) gg.target (tG cl (za7 gg.target).length t)) ∧
   (∀cl' C s H fp,PIf (za8 X (za7 gg.target) (zbb scope.names N) scope cl' C s H fp) gg.ifs (tTr cl noE c)) ∧
   ∀cl' C s H fp,PE (za8 X (za7 gg.target) (zbb scope.names N) scope cl' C s H fp) elt (tE cl noE el):=by
 unfold zi5 at h;split at h
 ·rename_i hc;rw [Bool.and_eq_true] at hc;obtain ⟨S,hn⟩:=zi4 g hc.2
  cases h1:zi1 G rc nm N gg.target gg.iter with
  | none=>rw [h1] at h;cases h
  | some it =>
   rw [h1] at h;dsimp only [Option.bind] at h
   cases h2:tgG true scope.names (za7 gg.target++(zbb scope.names N).map (·.1)) (za7 gg.target).length gg.target with
   | none=>rw [h2] at h;cases h
   | some t =>
    rw [h2] at h;dsimp only at h
    cases h3:zmy rc scope.names (za7 gg.target++(zbb scope.names N).map (·.1)) gg.ifs with
    | none=>rw [h3] at h;cases h
    | some c =>
     rw [h3] at h;dsimp only at h
     cases h4:shE rc scope.names (za7 gg.target++(zbb scope.names N).map (·.1)) elt with
     | none=>rw [h4] at h;cases h
     | some el =>
      rw [h4] at h;cases h;obtain ⟨i1,i2⟩:=zkx hs g (tg:=gg.target) h1;refine ⟨it,t,c,el,rfl,?_,S,i1,i2,fun cl' C s H fp=>znr (zga g hn cl' C s H fp) ⟨fun _ x hx=>decide_eq_true hx⟩ h2,fun cl' C s H fp=>zoQ hs (zga g hn cl' C s H fp) h3,fun cl' C s H fp=>(zaU hs (zga g hn cl' C s H fp) h4).1⟩;have:=of_decide_eq_true hc.1;cases gg;simp only at this;rw [this]
 ·cases h
theorem zkZ(hs:zbC cl G k rc)(g:Gx cl G k X nm N E){elt:Expr}{gg:Comprehension}{scope:Scope}{f:Fe}{pos:Pos}(h:zi5 G rc nm N elt gg scope=some f):PE X (.ListComp elt [gg] scope pos) (tN cl E f):=by
 obtain ⟨it,t,c,el,rfl,eg,S,i1,i2,i3,i4,i5⟩:=zfH hs g h;rw [eg];exact PE.imp (zlT g.calm S i1 i3 i4 i5 (zf3 i2)) fun _ _ _ q=>znh q
end
def zvI:Expr->Bool | .Slice _ _ _ _=>false | _=>true
def zrU(rc:Rec)(nm:Names)(N:List Str):Option Expr->Option (Option Fe)
 | none=>some none
 | some e=>(opE rc nm N e).map some
theorem zrs:∀(l:List D) (d r:D),zng l d=some r->∃n,r=.int n:=by
 intro l d r h;unfold zng at h;split at h
 ·cases h;exact ⟨_,rfl⟩
 ·cases h
theorem zre:∀(l:List D) (d r:D),zm8 l d=some r->∃n,r=.int n:=by
 intro l d r h;unfold zm8 at h;split at h
 ·cases h;exact ⟨_,rfl⟩
 ·cases h
def unG(rc:Rec)(nm:Names)(N:List Str)(a:Expr):UnaryOp->Option (Bool×Fe)
 | .Not=>if zbq a then (shE rc nm N a).map fun f=>(false,eUn zfl f) else none
 | .USub=>(opE rc nm N a).map fun f=>(false,eUn zon f)
 | _=>none
def zru(rc:Rec)(nm:Names)(N:List Str)(a:Expr):List CmpOp->List Expr->Option (Bool×Fe)
 | [op],[b]=>(zrv op b).bind fun g=>(opE rc nm N a).bind fun f=>(opE rc nm N b).bind fun h=>some (false,zai g f h)
 | [op,op'],[b,c]=>(zrv op b).bind fun g=>(zrv op' c).bind fun g'=>(opE rc nm N a).bind fun f=>(opE rc nm N b).bind fun h=>(opE rc nm N c).bind fun k=>some (false,zdz g g' f h k)
 | _,_=>none
def zuF(rc:Rec)(nm:Names)(N:List Str)(a:Expr):Expr->Option (Bool×Fe)
 | .Slice lo hi none _=>(opE rc nm N a).bind fun f=>(zrU rc nm N lo).bind fun l=>(zrU rc nm N hi).bind fun u=>some (false,eSl f l u)
 | i=>if zvI i then (opE rc nm N a).bind fun f=>(opE rc nm N i).bind fun h=>some (false,zai ixD f h) else none
def znj(G:Genv)(rc:Rec)(nm:Names)(N:List Str)(args:List Expr)(kws:List Keyword)(cp:Pos):Expr->Option (Bool×Fe)
 | .Attribute o m ap=>zor G rc nm N o m ap cp args kws
 | .Name x _=>if kws.isEmpty then (match mkG G rc nm N x args with | some p=>some p | none=>(match spG G rc nm N x args with | some p=>some p | none=>zoZ G rc nm N x args)) else none
 | _=>none
def lcG(G:Genv)(rc:Rec)(nm:Names)(N:List Str)(elt:Expr)(scope:Scope):List Comprehension->Option (Bool×Fe)
 | [g]=>(zi5 G rc nm N elt g scope).map fun f=>(true,f)
 | _=>none
def zhF(G:Genv)(rc:Rec):Rec:=fun nm N e=>match e with
 | .Constant c _ _=>(zvM c).map fun d=>(false,zaj d)
 | .Name x _=>(match zdq nm N x with
  | some i=>some (false,zad i)
  | none=>if zcR nm x then (G.con x).map fun d=>(false,zaj d) else none)
 | .Tuple es _ _=>(shL rc nm N es).map fun fs=>(false,zdy fs)
 | .List es _=>(shL rc nm N es).map fun fs=>(true,zg1 fs)
 | .BinOp a op b _=>if zoB a&&zrd op then (opE rc nm N a).bind fun f=>(opE rc nm N b).bind fun h=>some (true,zai ziU f h) else (ztF op).bind fun g=>(opE rc nm N a).bind fun f=>(opE rc nm N b).bind fun h=>some (false,zai g f h)
 | .UnaryOp op a _=>unG rc nm N a op
 | .BoolOp op es _=>(zi9 rc nm N op es).map fun f=>(false,f)
 | .Compare a ops bs _=>(match zs7 G rc nm N a ops bs with | some p=>some p | none=>zru rc nm N a ops bs)
 | .IfExp c a b _=>if zbq c then (shE rc nm N c).bind fun g=>(shE rc nm N a).bind fun f=>(shE rc nm N b).bind fun h=>some (false,eIf g f h) else none
 | .Subscript a i _=>(match ztw G rc nm N a i with | some p=>some p | none=>zuF rc nm N a i)
 | .Attribute o f _=>ztz G rc nm N o f
 | .Call f args kws cp=>znj G rc nm N args kws cp f
 | .ListComp elt gs scope _=>lcG G rc nm N elt scope gs
 | _=>none
def ztD(G:Genv):Nat->Rec
 | 0=>fun _ _ _=>none
 | n+1=>zhF G (ztD G n)
section
variable{cl:Cf}{G:Genv}{k:Nat}{rc:Rec}
theorem zmd{i:Expr}(h:zvI i=true):zgn i:=by
 intro o j
 cases i<;>first | rfl | cases h
theorem zab{α β:Type}{o:Option α}{f:α->Option β}{b:β}(h:o.bind f=some b):∃a,o=some a/\f a=some b:=by
 cases o with
 | none=>cases h
 | some a=>exact ⟨a,rfl,h⟩
theorem zaR{α β:Type}{o:Option α}{f:α->β}{b:β}(h:o.map f=some b):∃a,o=some a/\f a=b:=by
 cases o with
 | none=>cases h
 | some a=>exact ⟨a,rfl,Option.some.inj h⟩
theorem zh7{X:Cx}{nm:Names}{N:List Str}{E:St->XK}(hs:zbC cl G k rc)(g:Gx cl G k X nm N E){o:Option Expr}{f:Option Fe}(h:zrU rc nm N o=some f):PO X o (zrS cl E f):=by
 unfold zrU at h;split at h
 ·cases h;exact zn2
 ·obtain ⟨a,h1,rfl⟩:=zaR h;exact zn1 (zcE hs g h1).1
theorem zmv(hs:zbC cl G k rc):zbC cl G k (zhF G rc):=by
 intro X nm N E g e o f h;unfold zhF at h;split at h
 ·obtain ⟨d,h1,h2⟩:=zaR h;cases h2;rename_i c kk pos
  have p:PE X (.Constant c kk pos) (tE cl E (zaj d)):=by
   cases c<;>simp [zvM] at h1<;>subst h1
   ·exact zjF zqs fun w=>.non
   ·exact zjF zsZ fun w=>.bl _
   ·exact zjF zqv fun w=>.int _
   ·exact zjF zqn fun w=>.str _
  exact ⟨(fun z=>by cases z),p,fun _=>zbR p (fun _=>rfl),rfl⟩
 ·rename_i x pos;split at h
  ·rename_i i hi;cases h;obtain ⟨h1,h2,h3,h4⟩:=g.slot hi;have p:PE X (.Name x pos) (tE cl E (zad i)):=zpV h1 h2 h3 h4;exact ⟨(fun z=>by cases z),p,fun _=>zbR p (fun _=>rfl),rfl⟩
  ·split at h
   ·rename_i hg;obtain ⟨d,h1,h2⟩:=zaR h;cases h2;obtain ⟨g1,g2,g3⟩:=g.glob hg;obtain ⟨v,u,m,r,sh⟩:=g.gok.con x d h1;have p:PE X (.Name x pos) (tE cl E (zaj d)):=zjF (zn8 g1 m r g2) sh;exact ⟨(fun z=>by cases z),p,fun _=>zbR p (fun _=>rfl),rfl⟩
   ·cases h
 ·obtain ⟨fs,h1,h2⟩:=zaR h;cases h2;rename_i es kk pos;have p:PE X (.Tuple es kk pos) (tE cl E (zdy fs)):=zpW (zeI hs g h1).1;exact ⟨(fun z=>by cases z),p,fun _=>zbR p (fun _=>rfl),rfl⟩
 ·obtain ⟨fs,h1,h2⟩:=zaR h;cases h2;rename_i es pos;have p:PE X (.List es pos) (tN cl E (zg1 fs)):=zp0 (zeI hs g h1).1;exact ⟨fun _=>p,zdr p,fun _=>zbR (zdr p) (fun _=>rfl),rfl⟩
 ·split at h
  ·rename_i a op b pos hm;obtain ⟨fa,h2,h⟩:=zab h;obtain ⟨fb,h3,h⟩:=zab h;cases h;rw [Bool.and_eq_true] at hm
   have ho:op=.Mult:=by cases op<;>first | rfl | cases hm.2
   subst ho;have p:PE X (.BinOp a .Mult b pos) (tN cl E (zai ziU fa fb)):=znN (zcE hs g h2).1 (zcE hs g h3).1;exact ⟨fun _=>p,zdr p,fun _=>zbR (zdr p) (fun _=>rfl),rfl⟩
  obtain ⟨gg,h1,h⟩:=zab h;obtain ⟨fa,h2,h⟩:=zab h;obtain ⟨fb,h3,h⟩:=zab h;cases h;exact ⟨(fun z=>by cases z),zmR (znk h1) (zcE hs g h2).1 (zcE hs g h3).1,fun _=>zbR (zmR (znk h1) (zcE hs g h2).1 (zcE hs g h3).1) (fun _=>rfl),rfl⟩
 ·rename_i op a pos;unfold unG at h;split at h
  ·split at h
   ·rename_i ht;obtain ⟨fa,h1,h2⟩:=zaR h;cases h2;obtain ⟨a1,a2,_⟩:=zaU hs g h1;exact ⟨(fun z=>by cases z),zpY a1,fun _=>zpC (a2 ht),rfl⟩
   ·cases h
  ·obtain ⟨fa,h1,h2⟩:=zaR h;cases h2;have p:PE X (.UnaryOp .USub a pos) (tE cl E (eUn zon fa)):=zsJ zpo (zcE hs g h1).1;exact ⟨(fun z=>by cases z),p,fun _=>zbR p (fun _=>rfl),rfl⟩
  ·cases h
 ·obtain ⟨fa,h1,h2⟩:=zaR h;cases h2;rename_i op es pos;obtain ⟨b1,b2⟩:=zk8 hs g (pos:=pos) h1;exact ⟨(fun z=>by cases z),b1,fun _=>b2.pt,rfl⟩
 ·rename_i a ops bs pos;split at h
  ·rename_i p hp;obtain ⟨w,fe⟩:=p;cases h;obtain ⟨rfl,n1,n2⟩:=zqR hs g (pos:=pos) hp;exact ⟨(fun z=>by cases z),n1,fun _=>n2,rfl⟩
  unfold zru at h;split at h
  ·obtain ⟨gg,h1,h⟩:=zab h;obtain ⟨fa,h2,h⟩:=zab h;obtain ⟨fb,h3,h⟩:=zab h;cases h;obtain ⟨a1,_⟩:=zcE hs g h2;obtain ⟨b1,b2⟩:=zcE hs g h3;exact ⟨(fun z=>by cases z),zp2 (zfI g h1) a1 b1 (zeX b2),fun _=>zpE (zfI g h1) a1 b1 (zeX b2),rfl⟩
  ·obtain ⟨gg,h1,h⟩:=zab h;obtain ⟨gg',h1',h⟩:=zab h;obtain ⟨fa,h2,h⟩:=zab h;obtain ⟨fb,h3,h⟩:=zab h;obtain ⟨fc,h4,h⟩:=zab h;cases h;obtain ⟨a1,_⟩:=zcE hs g h2;obtain ⟨b1,_⟩:=zcE hs g h3;obtain ⟨c1,c2⟩:=zcE hs g h4;have hm:∀{op op':CmpOp} {b c:Expr},okE c=true->lastMarks [op,op'] [b,c]=false:=fun h=>zeX h
   exact ⟨(fun z=>by cases z),zlC (zfI g h1) (zfI g h1') a1 b1 c1 (hm c2),fun _=>zlw (zfI g h1) (zfI g h1') a1 b1 c1 (hm c2),rfl⟩
  ·cases h
 ·split at h
  ·rename_i c a b pos ht;obtain ⟨fc,h1,h⟩:=zab h;obtain ⟨fa,h2,h⟩:=zab h;obtain ⟨fb,h3,h⟩:=zab h;cases h;obtain ⟨_,c2,_⟩:=zaU hs g h1;exact ⟨(fun z=>by cases z),zsN (c2 ht) (zaU hs g h2).1 (zaU hs g h3).1,(fun z=>by cases z),rfl⟩
  ·cases h
 ·rename_i a i pos;split at h
  ·rename_i p hp;obtain ⟨w,fe⟩:=p;cases h;obtain ⟨rfl,n1⟩:=zrh hs g (pos:=pos) hp;exact ⟨(fun z=>by cases z),n1,fun _=>zbR n1 (fun _=>rfl),rfl⟩
  unfold zuF at h;split at h
  ·obtain ⟨fa,h1,h⟩:=zab h;obtain ⟨fl,h2,h⟩:=zab h;obtain ⟨fu,h3,h⟩:=zab h;cases h;exact ⟨(fun z=>by cases z),zpX (zcE hs g h1).1 (zh7 hs g h2) (zh7 hs g h3),fun _=>zbR (zpX (zcE hs g h1).1 (zh7 hs g h2) (zh7 hs g h3)) (fun _=>rfl),rfl⟩
  ·split at h
   ·rename_i hix;obtain ⟨fa,h1,h⟩:=zab h;obtain ⟨fb,h2,h⟩:=zab h;cases h;have p:PE X (.Subscript a _ pos) (tE cl E (zai ixD fa fb)):=zsM (zts g.kk) (zcE hs g h1).1 (zcE hs g h2).1 (zmd hix);exact ⟨(fun z=>by cases z),p,fun _=>zbR p (fun _=>rfl),rfl⟩
   ·cases h
 ·rename_i o fl pos;obtain ⟨rfl,n1⟩:=zrk hs g (pos:=pos) h;exact ⟨(fun z=>by cases z),n1,fun _=>zbR n1 (fun _=>rfl),rfl⟩
 ·rename_i fn args kws cp;unfold znj at h;split at h
  ·rename_i o m ap;obtain ⟨a1,a2⟩:=zoq hs g (ap:=ap) (pos:=cp) h;exact ⟨a1,a2,fun _=>zbR a2 (fun _=>rfl),rfl⟩
  ·rename_i x p;split at h
   ·rename_i hk
    have hk':kws=[]:=by simpa using hk
    subst hk';split at h
    ·rename_i pm hmk;obtain ⟨w,fe⟩:=pm;cases h;obtain ⟨rfl,n1⟩:=zs8 hs g (p:=p) (pos:=cp) hmk;exact ⟨(fun z=>by cases z),n1,fun _=>zbR n1 (fun _=>rfl),rfl⟩
    split at h
    ·rename_i hsp;cases h;obtain ⟨a1,a2⟩:=zsH hs g (p:=p) (pos:=cp) hsp;exact ⟨a1,a2,fun _=>zbR a2 (fun _=>rfl),rfl⟩
    ·obtain ⟨a1,a2⟩:=zoY hs g (p:=p) (pos:=cp) h;exact ⟨a1,a2,fun _=>zbR a2 (fun _=>rfl),rfl⟩
   ·cases h
  ·cases h
 ·rename_i elt gs scope pos;unfold lcG at h;split at h
  ·obtain ⟨fa,h1,h2⟩:=zaR h;cases h2;rename_i gg;have p:PE X (.ListComp elt [gg] scope pos) (tN cl E f):=zkZ hs g h1;exact ⟨fun _=>p,zdr p,fun _=>zbR (zdr p) (fun _=>rfl),rfl⟩
  ·cases h
 ·cases h
theorem zne:∀n,zbC cl G k (ztD G n)
 | 0=>fun _ _ _ _ _ _ _ _ h=>by cases h
 | n+1=>zmv (zne n)
end
end S2
namespace S2
open PySem PySem.Spec PyProof.Rows L2
def zli(X:Cx)(E:St->XK):Prop:=∀(C:Addr) (pins:Z3) (σ:St) (H:Hp) (s:Shared) (e:Addr) (h':Heap) (vs:List Value),Inv X pins σ H s->Heap.MadeExcOf s.heap h' e (.ref C) vs->E σ (.ref C) none H->X.xe (.ref e) { s with heap:=h' }
def znv(C:Addr)(E:St->XK)(t:TA):TS:=fun _ σ H=>t σ H fun vs H1=>vs.length<=sizeLine/\E σ (.ref C) none H1
theorem zjY{X:Cx}{x:Str}{C:Addr}{E:St->XK}{np cpos pos:Pos}{e:Expr}{es:List Expr}{t:TA}(hr:zli X E)(hc:X.calm=true)(hg:Gl X x)(hm:X.mg x=some (.ref C))
  (z:PySem.W.excIn X.K C bmV "ValueError.__new__" = true) (ha:PA X (e::es) t)
  (he:starEach (e::es) X.env=(false,eval e X.env)::starEach es X.env) (hpl:(backTo cpos (starEach es X.env)).any (·.1)=false) (hdb:(x == ("__debug__":Str))=false) :
  PS X (.Raise (some (.Call (.Name x np) (e::es) [] cpos)) none pos) (znv C E t):=by
 intro pins s σ H D I h;obtain ⟨bm,N,nm,qn,bs,hd,sn,sub,ab,col,dd,c0,c1,c2,c3,c5,mN,o1,o2,o3,o4⟩:=zoK I.mod.kin z
 refine wpAny_Raise_call_subU (C:=C) (nm:=nm) (q:=qn) (N:=N) (bs:=bs) (bm:=bm) (hdct:=hd) (sn:=sn) (sub:=sub) (ab:=ab) (col:=col) (dd:=dd) (k0:=c0) (k1:=c1) (k2:=c2) (k3:=c3) (k5:=c5)
  PySem.F.excBase_ValueError (by decide +kernel) PySem.F.excBase_ValueError (mN:=mN) (o4.hasType PySem.F.excBase_ValueError.hasBase) (I.ok.hd hc) (by rw [he];show (false||(backTo cpos (starEach es X.env)).any (·.1))=false;rw [hpl];rfl) o3 (ze1 I hg hm ⟨rfl,?_⟩ hdb)
 have go:=ha cpos pins s σ H _ I h;rw [he] at go ⊢;exact Calls.evalArgs_plain (thn go fun us s2 ⟨vs,H2,I2,r2,q1,q2⟩=>⟨rfl,by rw [<-r2.length];exact q1,I2.bk _ _ o1,o2.keeps I2.bk,o4.keeps I2.bk,fun h' a mk=>hr C pins σ H2 s2 a h' us I2 mk q2⟩)
def sRz(c:Str)(fs:List Fe):Fs:=fun ρ S=>match zan fs ρ S with | .ok ds S'=>if zbr ds.length then .ex c ρ S' else .bad | .exc x S'=>.ex x ρ S' | .bad=>.bad
def zxy(X:Cx)(pins:Z3)(E:St->XK):Cx:={ X with pn:=X.pn++pins,xe:=fun e s'=>∃σ H1 s1,Inv X pins σ H1 s1/\CXE X.prog X.w X.stack H1 s1 (E σ) e s' }
section
variable{X:Cx}{pins:Z3}{σ:St}{H:Hp}{s:Shared}{E:St->XK}
end
def zxz(K:PySem.W.Frag)(C:Addr)(i:Nat)(th:TS)(De:Ends):St->XK:=fun σ cls _ H'=>∃C',cls=.ref C'/\zo9 K C' C/\∀a ob,H' a=none->ob.cls=.ref C'->th (De.goes i) (σ.set i (some (.ref a))) (upd H' a (.frz ob (.own a)))
section
variable{X:Cx}{cl:Cf}{E:St->XK}{own:Bool}
end
end S2
namespace S2
open PySem PySem.Spec PyProof.Rows L2
section
variable{cl:Cf}{B:Base}{σ:St}{w:Wd}{ρ:Env}{S:Sto}
end
def tO(cl:Cf)(E:St->XK):Bool->Fe->TE | true,f=>tN cl E f | false,f=>tE cl E f
section
variable{X:Cx}{cl:Cf}{E:St->XK}{own:Bool}
end
def zgW:Expr->Bool | .ListComp _ _ _ _=>true | .SetComp _ _ _ _=>true | .DictComp _ _ _ _ _=>true | _=>false
theorem zfO{e:Expr}{t:Option Expr}{l:Nat}{env:PySem.Env}(h:zgW e=false):swapsWith e t l env=pure false:=by
 cases e<;>first | rfl | cases h
structure Gd(cl:Cf)(G:Genv)(k:Nat)(X:Cx)(nm:Names)(N:List Str)(E:St->XK)(full:Bool):Prop where
 gx:Gx cl G k X nm N E
 fn:∀x,X.fn x=true
 kind:X.env.scope.kind=.function
 sc:X.env.scope.names=nm
 own:full=true->PassesOwn (model X.prog X.w) X.A X.env X.xe
 raises:full=true->zli X E
 stk:X.stack=X.env::X.outer
 frm:X.env.frame=some X.env.locals
def zcD:Nat->Names->List Str->Expr->List Nat
 | 0,_,_,_=>[]
 | n+1,nm,N,e =>
  let rc:=zcD n nm N
  let op:=fun (e:Expr)=>match e with | .Name _ _=>[] | e=>rc e
  match e with
  | .Name x _=>(zdq nm N x).toList
  | .Tuple es _ _=>es.flatMap rc
  | .List es _=>es.flatMap rc
  | .BinOp a _ b _=>op a++op b
  | .UnaryOp _ a _=>rc a
  | .BoolOp _ es _=>es.flatMap rc
  | .Compare a _ bs _=>op a++bs.flatMap op
  | .IfExp c a b _=>rc c++rc a++rc b
  | .Subscript a (.Slice lo hi _ _) _=>op a++lo.toList.flatMap op++hi.toList.flatMap op
  | .Subscript a i _=>op a++op i
  | .Call (.Name f _) args [] _=>if (zk9 f).isSome||decide (f = "isinstance") then args.flatMap op else args.flatMap rc
  | .Call (.Attribute o _ _) args [] _=>op o++args.flatMap rc
  | .Attribute o _ _=>op o
  | .ListComp _ [g] scope _=>rc g.iter++(zbb scope.names N).map (·.2)
  | _=>[]
def zhi(t:Tg)(f:Fe):Fs:=fun ρ S=>match f ρ S with
 | .ok d S'=>(match t.put ρ d with | some ρ'=>.nx ρ' S' | none=>.bad)
 | .exc c S'=>.ex c ρ S'
 | .bad=>.bad
def zvJ:Expr->Bool | .Constant _ _ _=>true | _=>false
def zoM:Expr->Option (List (Option Expr)×List Expr×Pos) | .Dict ks vs p=>some (ks,vs,p) | _=>none
theorem zmt{e:Expr}{x:List (Option Expr)×List Expr×Pos}(h:zoM e=some x):e=.Dict x.1 x.2.1 x.2.2:=by cases e<;>first | (cases h;done) | (cases h;rfl)
def zhv(e:Expr):Bool:=match zoM e with | some x=>x.1.isEmpty&&x.2.1.isEmpty | none=>false
theorem zmu{e:Expr}(h:zhv e=true):∃p,e=.Dict [] [] p:=by
 unfold zhv at h
 cases h1:zoM e with
 | none=>rw [h1] at h;cases h
 | some x =>
  rw [h1] at h;dsimp only at h;rw [Bool.and_eq_true,List.isEmpty_iff,List.isEmpty_iff] at h;exact ⟨_,by rw [zmt h1,h.1,h.2]⟩
def zqE{α:Type}:List α->Option α | [a]=>some a | _=>none
theorem zke{α:Type}{l:List α}{a:α}(h:zqE l=some a):l=[a]:=by
 cases l with
 | nil=>cases h
 | cons b t=>cases t with
  | nil=>cases h;rfl
  | cons _ _=>cases h
def zhs:Expr->Option (Str×Pos) | .Name x p=>some (x,p) | _=>none
theorem zeA{e:Expr}{x:Str×Pos}(h:zhs e=some x):e=.Name x.1 x.2:=by cases e<;>first | (cases h;done) | (cases h;rfl)
def zo0:Expr->Option (Expr×List Expr×List Keyword×Pos) | .Call f a k p=>some (f,a,k,p) | _=>none
theorem ziC{e:Expr}{x:Expr×List Expr×List Keyword×Pos}(h:zo0 e=some x):e=.Call x.1 x.2.1 x.2.2.1 x.2.2.2:=by cases e<;>first | (cases h;done) | (cases h;rfl)
def zpg:Expr->Option (Expr×Str×Pos) | .Attribute o m p=>some (o,m,p) | _=>none
theorem zhJ{e:Expr}{x:Expr×Str×Pos}(h:zpg e=some x):e=.Attribute x.1 x.2.1 x.2.2:=by cases e<;>first | (cases h;done) | (cases h;rfl)
def zxp:Stmt->Option (List Expr×Expr×Pos) | .Assign t e p=>some (t,e,p) | _=>none
theorem ztL{e:Stmt}{x:List Expr×Expr×Pos}(h:zxp e=some x):e=.Assign x.1 x.2.1 x.2.2:=by cases e<;>first | (cases h;done) | (cases h;rfl)
def zpa:Expr->Option (List Expr×Nat×Pos) | .Tuple es k p=>some (es,k,p) | _=>none
theorem znp{e:Expr}{x:List Expr×Nat×Pos}(h:zpa e=some x):e=.Tuple x.1 x.2.1 x.2.2:=by cases e<;>first | (cases h;done) | (cases h;rfl)
def zuG:Expr->Option (Expr×Expr×Pos) | .Subscript a i p=>some (a,i,p) | _=>none
theorem znx{e:Expr}{x:Expr×Expr×Pos}(h:zuG e=some x):e=.Subscript x.1 x.2.1 x.2.2:=by cases e<;>first | (cases h;done) | (cases h;rfl)
def lcE:Expr->Option (Expr×List Comprehension×Scope×Pos) | .ListComp elt gs scope p=>some (elt,gs,scope,p) | _=>none
theorem zqX{e:Expr}{x:Expr×List Comprehension×Scope×Pos}(h:lcE e=some x):e=.ListComp x.1 x.2.1 x.2.2.1 x.2.2.2:=by cases e<;>first | (cases h;done) | (cases h;rfl)
def ztM(G:Genv)(rc:Rec)(nm:Names)(N:List Str)(x:Str)(e:Expr):Option Fs :=
 (tgI true nm N N.length x).bind fun i=>match lcE e with
  | some c=>(zqE c.2.1).bind fun g=>(zi5 G rc nm N c.1 g c.2.2.1).bind fun f=>some (zbT i true f)
  | none=>if zgW e then none else (rc nm N e).bind fun p=>some (zbT i p.1 p.2)
def ztK(rc:Rec)(nm:Names)(N:List Str)(t:List Expr×Nat×Pos)(e:Expr):Option Fs:=match zpa e with
 | some _=>none
 | none=>(tgG true nm N N.length (.Tuple t.1 t.2.1 t.2.2)).bind fun t=>(shE rc nm N e).bind fun f=>some (zhi t f)
def ztO(G:Genv)(rc:Rec)(nm:Names)(N:List Str)(o:Expr)(f:Str)(e:Expr):Option Fs :=
 (nmF o).bind fun x=>if zhv e then (if G.ob.df f&&G.ob.fk G.ob.cur f then (zdq nm N x.1).map fun i=>zfS G.ob.cur f i else none) else (if G.ob.df f||!G.ob.fk G.ob.cur f then none else (shE rc nm N o).bind fun fo=>(shE rc nm N e).bind fun fe=>some (zd5 G.ob.cur f fo fe))
def ztN(G:Genv)(rc:Rec)(nm:Names)(N:List Str)(o:Expr)(f:Str)(ix e:Expr):Option Fs :=
 if zf7 o&&G.ob.df f&&!zgW e&&G.ob.fk G.ob.cur f then (nmF ix).bind fun x=>(zdq nm N x.1).bind fun i=>(shE rc nm N o).bind fun fo=>(shE rc nm N e).bind fun fe=>some (zhh G.ob.cur f fo i fe) else none
def zrK(G:Genv)(rc:Rec)(nm:Names)(N:List Str)(q:Expr×Expr×Pos)(e:Expr):Option Fs:=match zpg q.1 with
 | some a=>ztN G rc nm N a.1 a.2.1 q.2.1 e
 | none=>none
def zsa(G:Genv)(rc:Rec)(nm:Names)(N:List Str)(tg e:Expr):Option Fs:=match zhs tg with
 | some x=>ztM G rc nm N x.1 e
 | none=>match zpa tg with
  | some t=>ztK rc nm N t e
  | none=>match zpg tg with
   | some a=>ztO G rc nm N a.1 a.2.1 e
   | none=>(zuG tg).bind fun q=>zrK G rc nm N q e
structure Mc where
 x:Str
 px:Pos
 m:Str
 ap:Pos
 a:Expr
 cp:Pos
def zl4(e:Expr):Option Mc:=(zo0 e).bind fun c=>if c.2.2.1.isEmpty then (zpg c.1).bind fun t=>(zhs t.1).bind fun x=>(zqE c.2.1).bind fun a=>some ⟨x.1,x.2,t.2.1,t.2.2,a,c.2.2.2⟩ else none
def zoJ(G:Genv)(rc:Rec)(nm:Names)(N:List Str)(e:Expr):Option Fs:=match zl4 e with
 | some c=>if decide (c.m = "append")&&(c.ap.endLine == c.cp.line) then (zdq nm N c.x).bind fun i=>(shE rc nm N c.a).bind fun f=>some (zjJ i f)
  else if zgW e then none else (shE rc nm N e).map zmS
 | none=>if zgW e then none else (shE rc nm N e).map zmS
def zsQ(rc:Rec)(nm:Names)(N:List Str)(own:Bool)(e:Expr):Option Fs:=match own with
 | true=>(match e with
  | .Name x _=>(zdq nm N x).map ziP
  | e=>(rc nm N e).bind fun p=>if p.1 then some (zbn p.2) else none)
 | false=>(shE rc nm N e).map zbn
def rzG(G:Genv)(rc:Rec)(nm:Names)(N:List Str)(full:Bool)(a b:Option Expr):Option Fs:=if b.isNone then a.bind fun e=>(zo0 e).bind fun c=>(zhs c.1).bind fun x=>if c.2.2.1.isEmpty&&!c.2.1.isEmpty&&full&&zcR nm x.1&&G.exc x.1 then (shL rc nm N c.2.1).bind fun fs=>some (sRz x.1 fs) else none else none
def stG(G:Genv)(rc:Rec)(rs:Bool->List Stmt->Option Fs)(nm:Names)(N:List Str)(own full:Bool)(st:Stmt):Option Fs:=match st with
 | .Pass _=>some sNx
 | .Break _=>some sBk
 | .Assign ts e _=>(zqE ts).bind fun tg=>zsa G rc nm N tg e
 | .Expr e _=>zoJ G rc nm N e
 | .AugAssign tg op e _=>(zhs tg).bind fun x=>(zr8 op).bind fun gg=>(tgI true nm N N.length x.1).bind fun i=>(shE rc nm N e).bind fun f=>some (zp6 i gg f)
 | .Return o _=>(match o with | some e=>zsQ rc nm N own e | none=>if own then none else some zlD)
 | .If c a b _=>if zbq c then (shE rc nm N c).bind fun f=>(rs full a).bind fun g=>(rs full b).bind fun h=>some (sIf f g h) else none
 | .For tg it body el _=>if full&&el.isEmpty then (zi1 G rc nm N tg it).bind fun i=>(tgG true nm N N.length tg).bind fun t=>(rs full body).bind fun b=>some (zhZ t i b) else none
 | .While c body el _=>if full&&zbq c&&el.isEmpty then (shE rc nm N c).bind fun f=>(rs full body).bind fun b=>some (zgC 100000 f b) else none
 | .Raise a b _=>rzG G rc nm N full a b
 | _=>none
end S2
namespace S2
open PySem PySem.Spec PyProof.Rows L2
def zn3(n:Nat)(own:Bool)(nm:Names)(N:List Str):Stmt->List Nat
 | .Assign [_] e _=>zcD n nm N e
 | .Expr (.Call (.Attribute _ _ _) args [] _) _=>args.flatMap (zcD n nm N)
 | .Expr e _=>zcD n nm N e
 | .Return (some (.Name x p)) _=>if own then [] else zcD n nm N (.Name x p)
 | .Return (some e) _=>zcD n nm N e
 | .If c _ _ _=>zcD n nm N c
 | .For _ it _ _ _=>zcD n nm N it
 | .While c _ _ _=>zcD n nm N c
 | _=>[]
def blk(ds:Stmt->Option Fs):List Stmt->Option Fs
 | []=>some sNx
 | s::r=>(ds s).bind fun f=>(blk ds r).bind fun g=>some (zal f g)
def zmw(G:Genv)(own:Bool):Nat->Bool->Names->List Str->Stmt->Option Fs
 | 0,_,_,_,_=>none
 | n+1,full,nm,N,st=>(stG G (ztD G n) (fun fl b=>blk (zmw G own n fl nm N) b) nm N own full st).map (sFz (zn3 n own nm N st))
section
variable{cl:Cf}{G:Genv}{k:Nat}{rc:Rec}{X:Cx}{nm:Names}{N:List Str}{E:St->XK}{own full:Bool}
theorem Gd.sto(g:Gd cl G k X nm N E full):Sto' X nm true:=⟨fun _ x _=>g.fn x⟩
theorem ziM{elt:Expr}{gs:List Comprehension}{scope:Scope}{p px:Pos}{x:Str}{l:Nat}{env:PySem.Env}:∃b,swapsWith (.ListComp elt gs scope p) (some (.Name x px)) l env=pure b:=⟨_,rfl⟩
theorem zlg{n:Nat}{t:Tg}{f:Fe}{De:Ends}{σ:St}{H:Hp}(q:tS cl E own (zhi t f) De σ H):zpc (tE cl E f) (tG cl n t) De σ H:=by
 obtain ⟨B,w,ρ,S,rfl,R,q⟩:=q;refine ⟨B,w,ρ,S,rfl,R,?_⟩;unfold zhi at q
 cases hf:f ρ S with
 | bad=>rw [hf] at q;exact q
 | exc c S1=>rw [hf] at q;exact fun w' R' F'=>q σ w' R' F'
 | ok d S1 =>
  rw [hf] at q;intro v w' R' F' h';dsimp only at q
  cases hp:t.put ρ d with
  | none=>rw [hp] at q;exact q.elim
  | some ρ'=>rw [hp] at q;exact ⟨B,w',ρ,S1,d,ρ',rfl,R',h',hp,fun σ' _ _ R2=>q σ' w' R2 F'⟩
theorem zmz(hs:zbC cl G k rc)(g:Gd cl G k X nm N E full){elt:Expr}{gg:Comprehension}{scope:Scope}{x:Str}{i:Nat}{f:Fe}{p px pos:Pos}(hi:tgI true nm N N.length x=some i)(h:zi5 G rc nm N elt gg scope=some f) :
  PS X (.Assign [.Name x px] (.ListComp elt [gg] scope p) pos) (tS cl E own (zbT i true f)):=by
 obtain ⟨a1,a2,a3,a4,a5⟩:=zgt g.gx g.sto hi;obtain ⟨b,hb⟩:=ziM (elt:=elt) (gs:=[gg]) (scope:=scope) (p:=p) (px:=px) (x:=x) (l:=pos.line) (env:=X.env)
 cases b with
 | false=>exact zjA a2 a3 a4 (zkZ hs g.gx h) hb a5
 | true =>
  obtain ⟨it,t,c,el,rfl,eg,S,i1,i2,i3,i4,i5⟩:=zfH hs g.gx h;rw [eg] at hb ⊢;refine PS.imp (zlL g.gx.calm S a2 a3 a4 i1 i3 i4 i5 hb a5 (zf3 i2)) ?_;intro De σ H q;exact znh (zrJ q)
theorem zpy{a i e:Expr}{p:Pos}{l:Nat}{env:PySem.Env}:swapsWithSole [.Subscript a i p] e l env=pure false:=by cases e<;>rfl
theorem zpB{a i e:Expr}{p:Pos}{env:PySem.Env}:swappedStores [.Subscript a i p] e env=pure none:=by cases e<;>rfl
theorem zpx{es:List Expr}{kk l:Nat}{p:Pos}{e:Expr}{env:PySem.Env}:swapsWithSole [.Tuple es kk p] e l env=pure false:=by cases e<;>rfl
theorem zpA{es:List Expr}{kk:Nat}{p:Pos}{e:Expr}{env:PySem.Env}(h:zpa e=none):swappedStores [.Tuple es kk p] e env=pure none:=by cases e<;>first | rfl | cases h
theorem zmN{o e:Expr}{f:Str}{p:Pos}{l:Nat}{env:PySem.Env}:swapsWith e (some (.Attribute o f p)) l env=pure false:=by cases e<;>rfl
theorem zo4(hs:zbC cl G k rc)(g:Gd cl G k X nm N E full){e:Expr}{x:Str}{px:Pos}{f:Fs}{pos:Pos}(h:ztM G rc nm N x e=some f):PS X (.Assign [.Name x px] e pos) (tS cl E own f):=by
 unfold ztM at h;obtain ⟨i,h1,h⟩:=zab h
 cases hl:lcE e with
 | some c =>
  rw [hl] at h;obtain ⟨gg,h2,h⟩:=zab h;obtain ⟨fe,h3,h⟩:=zab h;cases h;rw [zqX hl,zke h2];exact zmz hs g h1 h3
 | none =>
  rw [hl] at h;dsimp only at h;split at h
  ·cases h
  ·rename_i hc;obtain ⟨⟨o,fe⟩,h2,h⟩:=zab h;cases h;obtain ⟨a1,a2,a3,a4,a5⟩:=zgt g.gx g.sto h1;obtain ⟨b1,b2,_,_⟩:=hs X nm N E g.gx _ o fe h2;have sw:=zfO (t:=some (.Name x px)) (l:=pos.line) (env:=X.env) (by simpa using hc)
   cases o with
   | false=>exact zpK a2 a3 a4 b2 sw a5
   | true=>exact zjA a2 a3 a4 (b1 rfl) sw a5
theorem zo3(hs:zbC cl G k rc)(g:Gd cl G k X nm N E full){e:Expr}{t:List Expr×Nat×Pos}{f:Fs}{pos:Pos}(h:ztK rc nm N t e=some f):PS X (.Assign [.Tuple t.1 t.2.1 t.2.2] e pos) (tS cl E own f):=by
 have tupCase:swappedStores [.Tuple t.1 t.2.1 t.2.2] e X.env=pure none->((tgG true nm N N.length (.Tuple t.1 t.2.1 t.2.2)).bind fun t=>(shE rc nm N e).bind fun f=>some (zhi t f))=some f->PS X (.Assign [.Tuple t.1 t.2.1 t.2.2] e pos) (tS cl E own f):=by
  intro sw2 h;obtain ⟨t',h1,h⟩:=zab h;obtain ⟨fe,h2,h⟩:=zab h;cases h;exact PS.imp (zmW (zaU hs g.gx h2).1 (znr g.gx g.sto h1) zpx sw2 rfl) fun _ _ _ q=>zlg q
 unfold ztK at h
 cases hv:zpa e with
 | none =>
  rw [hv] at h;exact tupCase (zpA hv) h
 | some v=>rw [hv] at h;cases h
theorem zo6(hs:zbC cl G k rc)(g:Gd cl G k X nm N E full){o e:Expr}{fl:Str}{ap:Pos}{f:Fs}{pos:Pos}(h:ztO G rc nm N o fl e=some f):PS X (.Assign [.Attribute o fl ap] e pos) (tS cl E own f):=by
 unfold ztO at h;obtain ⟨x,h1,hz⟩:=zab h;have e1:=zkg h1;clear h h1;subst e1;split at hz
 ·rename_i hd;split at hz
  ·rename_i hf;rw [Bool.and_eq_true] at hf;obtain ⟨i,h1,hz⟩:=zaR hz;subst hz;obtain ⟨s1,s2,s3,s4⟩:=g.gx.slot h1;obtain ⟨p,rfl⟩:=zmu hd;exact znE s1 s2 s3 s4 g.gx.same (g.gx.gok.fk _ _ hf.2) zmN
  ·cases hz
 ·split at hz
  ·cases hz
  ·rename_i hf;rw [Bool.not_eq_true,Bool.or_eq_false_iff,Bool.not_eq_false'] at hf;obtain ⟨fo,h2,hz⟩:=zab hz;obtain ⟨fe,h3,hz⟩:=zab hz;cases hz;exact znD g.gx.same (g.gx.gok.fk _ _ hf.2) (zaU hs g.gx h2).1 (zaU hs g.gx h3).1 zmN
theorem zo5(hs:zbC cl G k rc)(g:Gd cl G k X nm N E full){o ix e:Expr}{fl:Str}{ap p3:Pos}{f:Fs}{pos:Pos}(h:ztN G rc nm N o fl ix e=some f):PS X (.Assign [.Subscript (.Attribute o fl ap) ix p3] e pos) (tS cl E own f):=by
 unfold ztN at h;split at h
 ·rename_i hc;rw [Bool.and_eq_true,Bool.and_eq_true,Bool.and_eq_true,Bool.not_eq_true'] at hc;obtain ⟨x,h1,hz⟩:=zab h;have e1:=zkg h1;clear h h1;subst e1;obtain ⟨i,h1,hz⟩:=zab hz;obtain ⟨fo,h2,hz⟩:=zab hz;obtain ⟨fe,h3,hz⟩:=zab hz;cases hz;obtain ⟨s1,s2,s3,s4⟩:=g.gx.slot h1;refine znB s1 s2 s3 s4 g.gx.u16 g.gx.same (g.gx.gok.fk _ _ hc.2) (zaU hs g.gx h2).1 ?_ (zaU hs g.gx h3).1 zpy zpB ?_
  ·cases o<;>first | rfl | cases hc.1.1.1
  ·intro _;rfl
 ·cases h
theorem zrI(hs:zbC cl G k rc)(g:Gd cl G k X nm N E full){tg e:Expr}{f:Fs}{pos:Pos}(h:zsa G rc nm N tg e=some f):PS X (.Assign [tg] e pos) (tS cl E own f):=by
 unfold zsa at h
 cases h1:zhs tg with
 | some x=>rw [h1] at h;rw [zeA h1];exact zo4 hs g h
 | none =>
  rw [h1] at h
  cases h2:zpa tg with
  | some t=>rw [h2] at h;rw [znp h2];exact zo3 hs g h
  | none =>
   rw [h2] at h
   cases h3:zpg tg with
   | some a=>rw [h3] at h;rw [zhJ h3];exact zo6 hs g h
   | none =>
    rw [h3] at h;obtain ⟨q,h4,h⟩:=zab h;rw [znx h4];unfold zrK at h
    cases h5:zpg q.1 with
    | some a=>rw [h5] at h;rw [zhJ h5];exact zo5 hs g h
    | none =>
     rw [h5] at h;cases h
theorem zl3{e:Expr}{c:Mc}(h:zl4 e=some c):e=.Call (.Attribute (.Name c.x c.px) c.m c.ap) [c.a] [] c.cp:=by
 unfold zl4 at h;obtain ⟨c1,h1,h⟩:=zab h;split at h
 ·rename_i hk;obtain ⟨t,h2,h⟩:=zab h;obtain ⟨x,h3,h⟩:=zab h;obtain ⟨a,h4,h⟩:=zab h;cases h;rw [ziC h1,zhJ h2,zeA h3,zke h4,List.isEmpty_iff.mp hk]
 ·cases h
theorem zoI(hs:zbC cl G k rc)(g:Gd cl G k X nm N E full){e:Expr}{f:Fs}{pos:Pos}(h:zoJ G rc nm N e=some f):PS X (.Expr e pos) (tS cl E own f):=by
 unfold zoJ at h
 cases hc:zl4 e with
 | some c =>
  obtain ⟨x,px,m,ap,a,cp⟩:=c;obtain rfl:=zl3 hc;rw [hc] at h;dsimp only at h;split at h
  ·rename_i hm;rw [Bool.and_eq_true] at hm;have em:=of_decide_eq_true hm.1;subst em;obtain ⟨i,h1,h⟩:=zab h;obtain ⟨fe,h2,h⟩:=zab h;cases h;obtain ⟨s1,s2,s3,s4⟩:=g.gx.slot h1;obtain ⟨a1,_,a3⟩:=zaU hs g.gx h2;exact zpL s1 s2 s3 s4 a1 (zaH a3) hm.2
  split at h
  ·cases h
  ·rename_i hc;obtain ⟨fe,h2,h⟩:=zaR h;subst h;exact zmP (zaU hs g.gx h2).1 (zfO (by simpa using hc))
 | none =>
  rw [hc] at h;dsimp only at h;split at h
  ·cases h
  ·rename_i hc;obtain ⟨fe,h2,h⟩:=zaR h;subst h;exact zmP (zaU hs g.gx h2).1 (zfO (by simpa using hc))
theorem zp7(hs:zbC cl G k rc)(g:Gd cl G k X nm N E full){e:Expr}{f:Fs}{pos:Pos}(h:zsQ rc nm N own e=some f):PS X (.Return (some e) pos) (tS cl E own f):=by
 unfold zsQ at h;split at h
 ·split at h
  ·obtain ⟨i,h1,h⟩:=zaR h;subst h;obtain ⟨s1,s2,s3,s4⟩:=g.gx.slot h1;exact zny s1 s2 s3 s4
  ·obtain ⟨⟨o,fe⟩,h1,h⟩:=zab h;dsimp only at h;split at h
   ·rename_i ho;cases h;exact znz ((hs X nm N E g.gx _ o fe h1).1 ho)
   ·cases h
 ·obtain ⟨fe,h2,h⟩:=zaR h;subst h;exact zpF (zaU hs g.gx h2).1
theorem zsE(hs:zbC cl G k rc){rs:Bool->List Stmt->Option Fs}(hr:∀(fl:Bool) (X:Cx) (E:St->XK),Gd cl G k X nm N E fl->∀b f,rs fl b=some f->PSs X b (tS cl E own f))(g:Gd cl G k X nm N E full){st:Stmt}{f:Fs}(h:stG G rc rs nm N own full st=some f):PS X st (tS cl E own f):=by
 cases st with
 | Pass p=>cases h;exact znC
 | Break p=>cases h;exact zpI
 | Assign ts e p =>
  obtain ⟨tg,h1,h⟩:=zab (show ((zqE ts).bind fun tg=>zsa G rc nm N tg e)=some f from h);obtain rfl:=zke h1;exact zrI hs g h
 | Expr e p=>exact zoI hs g h
 | AugAssign tg op e p =>
  obtain ⟨x,h1,hz⟩:=zab (show ((zhs tg).bind fun x=>(zr8 op).bind fun gg=>(tgI true nm N N.length x.1).bind fun i=>(shE rc nm N e).bind fun f=>some (zp6 i gg f))=some f from h);obtain ⟨gg,h2,hz⟩:=zab hz;obtain ⟨i,h3,hz⟩:=zab hz;obtain ⟨fe,h4,hz⟩:=zab hz;cases hz;rw [zeA h1];obtain ⟨_,a2,a3,a4,a5⟩:=zgt g.gx g.sto h3;exact zpJ h2 a2 a3 a4 (zaU hs g.gx h4).1 a5
 | Return o p =>
  cases o with
  | some e=>exact zp7 hs g h
  | none =>
   have h':(if own then none else some zlD)=some f:=h;split at h'
   ·cases h'
   ·rename_i ho;cases h'
    have:own=false:=by simpa using ho
    subst this;exact znA
 | If c a b p =>
  have h':(if zbq c then (shE rc nm N c).bind fun f=>(rs full a).bind fun g=>(rs full b).bind fun h=>some (sIf f g h) else none)=some f:=h;split at h'
  ·rename_i ht;obtain ⟨fc,h1,h⟩:=zab h';obtain ⟨fa,h2,h⟩:=zab h;obtain ⟨fb,h3,h⟩:=zab h;cases h;exact zsF ((zaU hs g.gx h1).2.1 ht) (hr full X E g a fa h2) (hr full X E g b fb h3)
  ·cases h'
 | For tg it body el p =>
  have h':(if full&&el.isEmpty then (zi1 G rc nm N tg it).bind fun i=>(tgG true nm N N.length tg).bind fun t=>(rs full body).bind fun b=>some (zhZ t i b) else none)=some f:=h;split at h'
  ·rename_i hf;rw [Bool.and_eq_true] at hf;obtain rfl:=List.isEmpty_iff.mp hf.2;obtain ⟨it,h1,h⟩:=zab h';obtain ⟨t,h2,h⟩:=zab h;obtain ⟨fb,h3,h⟩:=zab h;cases h;obtain ⟨i1,i2⟩:=zkx hs g.gx (tg:=_) h1;exact zpH (g.own hf.1) g.gx.calm i1 (znr g.gx g.sto h2) (hr full X E g _ fb h3) (zf3 i2)
  ·cases h'
 | While c body el p =>
  have h':(if full&&zbq c&&el.isEmpty then (shE rc nm N c).bind fun f=>(rs full body).bind fun b=>some (zgC 100000 f b) else none)=some f:=h;split at h'
  ·rename_i hf;rw [Bool.and_eq_true,Bool.and_eq_true] at hf;obtain rfl:=List.isEmpty_iff.mp hf.2;obtain ⟨fc,h1,h⟩:=zab h';obtain ⟨fb,h3,h⟩:=zab h;cases h;exact zlx 100000 (g.own hf.1.1) ((zaU hs g.gx h1).2.1 hf.1.2) (hr full X E g _ fb h3)
  ·cases h'
 | Raise ea eb p =>
  have h':rzG G rc nm N full ea eb=some f:=h;unfold rzG at h';split at h'
  ·rename_i hb;obtain rfl:=Option.isNone_iff_eq_none.mp hb;obtain ⟨e0,e1,hz⟩:=zab h';obtain ⟨c0,h1,hy⟩:=zab hz;obtain ⟨⟨c,p⟩,h2,hx⟩:=zab hy;have e2:=ziC h1;obtain ⟨fn,args,kws,cp⟩:=c0;have e3:fn=.Name c p:=zeA h2;clear h h' hz hy h1 h2;subst e1;subst e2;subst e3;dsimp only at hx ⊢;split at hx
   ·rename_i hf;simp only [Bool.and_eq_true] at hf;obtain ⟨⟨⟨⟨k0,a0⟩,f0⟩,g0⟩,x0⟩:=hf;obtain rfl:=List.isEmpty_iff.mp k0
    cases args with
    | nil=>cases a0
    | cons e es =>
    obtain ⟨fs,h1,h⟩:=zab hx;cases h;obtain ⟨g1,g2,_⟩:=g.gx.glob g0;obtain ⟨m,z⟩:=g.gx.gok.exc c x0;obtain ⟨a1,a2,_⟩:=zeI hs g.gx h1;rw [List.all_cons,Bool.and_eq_true] at a2;refine PS.imp (zjY (g.raises f0) g.gx.calm g1 m z a1 (zcr a2.1) (zbx a2.2) g2) ?_;rintro De σ H ⟨B,w,ρ,S,rfl,R,q⟩;refine ⟨B,w,ρ,S,rfl,R,?_⟩;unfold sRz at q
    cases hv:zan fs ρ S with
    | bad=>rw [hv] at q;exact q
    | exc c S1=>rw [hv] at q;exact fun w' R' F'=>q σ w' R' F'
    | ok ds S1 =>
     rw [hv] at q;dsimp only at q
     cases hz:zbr ds.length with
     | false=>rw [hz,if_neg (by decide)] at q;exact q.elim
     | true =>
      rw [hz,if_pos rfl] at q;exact fun vs w' R' F' sh=>⟨by rw [sh.length];exact zbj hz,q σ w' R' F'⟩
   ·cases hx
  ·cases h'
 | _=>cases h
theorem ziD{ds:Stmt->Option Fs}(hd:∀st f,ds st=some f->PS X st (tS cl E own f)):∀{b:List Stmt} {f:Fs},blk ds b=some f->PSs X b (tS cl E own f)
 | [],f,h=>by cases h;exact zpG
 | s::r,f,h=>by
  unfold blk at h;obtain ⟨f1,h1,h⟩:=zab h;obtain ⟨f2,h2,h⟩:=zab h;cases h;exact znF (hd s f1 h1) (ziD hd h2)
theorem zgf:∀(n:Nat) (fl:Bool) (X:Cx) (E:St->XK),Gd cl G k X nm N E fl->∀st f,zmw G own n fl nm N st=some f->PS X st (tS cl E own f)
 | 0,_,_,_,_,_,_,h=>by cases h
 | n+1,fl,X,E,g,st,f,h=>by
  unfold zmw at h;obtain ⟨f1,h1,h⟩:=zaR h;subst h;exact zsG _ (zsE (zne n) (fun fl X E g b f hb=>ziD (fun st f hst=>zgf n fl X E g st f hst) hb) g h1)
end
def zbo(nN:Nat)(own:Bool)(fs:Fs)(ds:List D)(S:Sto):Out D:=match fs (ds.map (fun d=>some (false,d))++List.replicate (nN-ds.length) none) S with
 | .rt d S'=>.ok d S'
 | .nx _ S'=>if own then .bad else .ok .non S'
 | .ex c _ S'=>.exc c S'
 | _=>.bad
def zaf(G:Genv)(own:Bool)(N:List Str)(st:Stmt):Option Fs:=blk (zmw G own 40 true (zaa st).names N) (zbi st)
theorem zgZ{P:Program}{wo:PySem.World}{K:PySem.W.Frag}{mg:Z6}{base:Heap}{cl:Cf}{G:Genv}{k:Nat}{x qual:Str}{st:Stmt}{f:Addr}{fd:FuncData}{N ps:List Str}{own:Bool}{fs:Fs}(F:Fun K x qual st f fd)(S:FnScope N ps (zaa st))(hG:GOk cl G P wo K mg base k)
  (hk:K=cl.K) (hP:P=cl.P) (hW:wo=cl.wo) (hd:zaf G own N st=some fs):FnOk P wo K mg base (CXE P wo) (k+1) f fd ps (zgy cl ps.length own (zbo N.length own fs)):=by
 obtain ⟨oc,od,kV,doc,pm,an,cdv,ct,osl,rfl,lk,hcd⟩:=F.ex;refine zrj lk hcd S (fun vs H Q E h=>h.1) fun A outer s H vs Q E hr hsp=>?_
 refine ⟨tS cl (fun _=>E) own fs,?_,?_⟩
 ·have g:Gd cl G k (zkU (CXE P wo) P wo K mg base N qual (zaa st) f cdv A outer s H E) (zaa st).names N (fun _=>E) true :=
   ⟨⟨hG,hr,rfl,fun pins σ H1 s1 e s' I q=>zqx pins σ H1 s1 e s' I q,rfl,hk,hP,hW,S.nd,fun x kd h=>⟨kd,h,.inl rfl⟩,fun x h=>h⟩,fun _=>rfl,S.kind,rfl,fun _=>PassesOwn.leaving,fun _ C pins σ H1 s1 e h' vs I mk q=>zjT C pins σ H1 s1 e h' vs I mk q,rfl,rfl⟩
  exact ziD (fun st f hst=>zgf 40 true _ _ g st f hst) hd
 ·obtain ⟨hl,B,w,ds,S0,rfl,W,sh,q⟩:=hsp;have hdl:ds.length=vs.length:=sh.length.symm;refine ⟨B,w,ds.map (fun d=>some (false,d))++List.replicate (N.length-ds.length) none,S0,rfl,⟨W,?_,fun i o d hi=>?_⟩,?_⟩
  ·unfold L2.zeH;rw [List.length_append,List.length_append,List.length_map,List.length_map,List.length_replicate,List.length_replicate,hdl]
  ·by_cases hlt:i<ds.length
   ·rw [List.getElem?_append_left (by rw [List.length_map];exact hlt),List.getElem?_map] at hi
    cases hdi:ds[i]? with
    | none=>rw [hdi] at hi;cases hi
    | some d' =>
     rw [hdi] at hi;cases hi;obtain ⟨v,e1,e2⟩:=sh.at hdi;refine ⟨v,?_,e2⟩;unfold L2.zeH;rw [List.getElem?_append_left (by rw [List.length_map];omega),List.getElem?_map,e1];rfl
   ·rw [List.getElem?_append_right (by rw [List.length_map];omega),List.getElem?_replicate] at hi
    split at hi<;>cases hi
  ·unfold zbo at q
   cases hf:fs (ds.map (fun d=>some (false,d))++List.replicate (N.length-ds.length) none) S0 with
   | bad=>rw [hf] at q;exact q
   | bk _ _=>rw [hf] at q;exact q.elim
   | ct _ _=>rw [hf] at q;exact q.elim
   | rt d S'=>rw [hf] at q;exact q
   | ex c ρ' S'=>rw [hf] at q;exact fun σ' w' R' F'=>q w' R'.wd F'
   | nx ρ' S' =>
    rw [hf] at q;dsimp only at q
    cases own with
    | true=>exact q.elim
    | false=>exact fun σ' w' R' F'=>q .non w' R'.wd F' .non
structure FunD(K:PySem.W.Frag)(x qual:Str)(st:Stmt)(f:Addr)(fd:FuncData)(items:Array Value):Prop where
 ex:∃(oc:Value) (od:Option Addr) (T:Addr) (o:Obj) (n:Nat) (kV doc pm:Value) (an:Option Addr) (cdv ct:Value) (osl:Array (Option Value)),
  fd=PySem.W.fnOf x qual (zbA st) (zbi st) (zaa st) (.ref T) kV doc pm an cdv ct/\K.lookup f=some ⟨oc,od,.func fd,osl⟩/\PySem.W.codeIn K cdv qual=true/\K.lookup T=some o/\o.data=.seq items n
def inC(j:Nat):Stmt->Stmt | .ClassDef _ _ _ b ..=>b.getD j (.Pass ⟨0,0,0,0⟩) | s=>s
theorem zri{P:Program}{wo:PySem.World}{K:PySem.W.Frag}{mg:Z6}{base:Heap}{cl:Cf}{G:Genv}{k:Nat}{x qual:Str}{st:Stmt}{f:Addr}{fd:FuncData}{N ps:List Str}{own:Bool}{fs:Fs}{items:Array Value}(F:FunD K x qual st f fd items)(S:FnScope N ps (zaa st))(hG:GOk cl G P wo K mg base k)
  (hk:K=cl.K) (hP:P=cl.P) (hW:wo=cl.wo) (hd:zaf G own N st=some fs):FnOk P wo K mg base (CXE P wo) (k+1) f fd ps (zgy cl ps.length own (zbo N.length own fs)):=by
 obtain ⟨oc,od,T,o,n,kV,doc,pm,an,cdv,ct,osl,rfl,lk,hcd,_⟩:=F.ex;refine zrj lk hcd S (fun vs H Q E h=>h.1) fun A outer s H vs Q E hr hsp=>?_
 refine ⟨tS cl (fun _=>E) own fs,?_,?_⟩
 ·have g:Gd cl G k (zkU (CXE P wo) P wo K mg base N qual (zaa st) f cdv A outer s H E) (zaa st).names N (fun _=>E) true :=
   ⟨⟨hG,hr,rfl,fun pins σ H1 s1 e s' I q=>zqx pins σ H1 s1 e s' I q,rfl,hk,hP,hW,S.nd,fun x kd h=>⟨kd,h,.inl rfl⟩,fun x h=>h⟩,fun _=>rfl,S.kind,rfl,fun _=>PassesOwn.leaving,fun _ C pins σ H1 s1 e h' vs I mk q=>zjT C pins σ H1 s1 e h' vs I mk q,rfl,rfl⟩
  exact ziD (fun st f hst=>zgf 40 true _ _ g st f hst) hd
 ·obtain ⟨hl,B,w,ds,S0,rfl,W,sh,q⟩:=hsp;have hdl:ds.length=vs.length:=sh.length.symm;refine ⟨B,w,ds.map (fun d=>some (false,d))++List.replicate (N.length-ds.length) none,S0,rfl,⟨W,?_,fun i o d hi=>?_⟩,?_⟩
  ·unfold L2.zeH;rw [List.length_append,List.length_append,List.length_map,List.length_map,List.length_replicate,List.length_replicate,hdl]
  ·by_cases hlt:i<ds.length
   ·rw [List.getElem?_append_left (by rw [List.length_map];exact hlt),List.getElem?_map] at hi
    cases hdi:ds[i]? with
    | none=>rw [hdi] at hi;cases hi
    | some d' =>
     rw [hdi] at hi;cases hi;obtain ⟨v,e1,e2⟩:=sh.at hdi;refine ⟨v,?_,e2⟩;unfold L2.zeH;rw [List.getElem?_append_left (by rw [List.length_map];omega),List.getElem?_map,e1];rfl
   ·rw [List.getElem?_append_right (by rw [List.length_map];omega),List.getElem?_replicate] at hi
    split at hi<;>cases hi
  ·unfold zbo at q
   cases hf:fs (ds.map (fun d=>some (false,d))++List.replicate (N.length-ds.length) none) S0 with
   | bad=>rw [hf] at q;exact q
   | bk _ _=>rw [hf] at q;exact q.elim
   | ct _ _=>rw [hf] at q;exact q.elim
   | rt d S'=>rw [hf] at q;exact q
   | ex c ρ' S'=>rw [hf] at q;exact fun σ' w' R' F'=>q w' R'.wd F'
   | nx ρ' S' =>
    rw [hf] at q;dsimp only at q
    cases own with
    | true=>exact q.elim
    | false=>exact fun σ' w' R' F'=>q .non w' R'.wd F' .non
end S2
namespace S2
open PySem PySem.Spec PyProof.Rows L2
structure Tab where
 con:List (Str×D)
 blt:List Str
 exc:List Str
 und:List (Str×Str)
 rz:List Str
 fk:List (Str×Str)
 df:List Str
def ztp(rz exc:List Str)(c C:Str):Option Bool:=if rz.contains c then (if C = "ValueError" then some true else if exc.contains C then some (decide (C=c)||decide (C = "FloorError")) else none) else none
def zuB(l:List (Str×Str))(c C:Str):Bool:=l.contains (c,C)
structure Fn3 where
 cur:Str
 fs:List (Str×FnI)
 ms:List (Str×Str×FnI)
 ks:List (Str×List D×FnI)
def Gn(T:Tab)(F:Fn3):Genv:=⟨fun x=>T.con.lookup x,fun x=>F.fs.lookup x,fun x=>T.blt.contains x,fun x=>T.exc.contains x,zuB T.und,ztp T.rz T.exc,⟨F.cur,zuB T.fk,fun f=>T.df.contains f,fun m=>F.ms.lookup m,fun c=>F.ks.lookup c⟩⟩
def Fn3.fn(F:Fn3)(x:Str)(fi:FnI):Fn3:=⟨F.cur,(x,fi)::F.fs,F.ms,F.ks⟩
def Fn3.mt(F:Fn3)(m c:Str)(fi:FnI):Fn3:=⟨F.cur,F.fs,(m,c,fi)::F.ms,F.ks⟩
def Fn3.cls(F:Fn3)(c:Str)(dds:List D)(fi:FnI):Fn3:=⟨F.cur,F.fs,F.ms,(c,dds,fi)::F.ks⟩
def Fn3.at(F:Fn3)(c:Str):Fn3:=⟨c,F.fs,F.ms,F.ks⟩
section
variable{cl:Cf}{T:Tab}{P:Program}{wo:PySem.World}{K:PySem.W.Frag}{mg:Z6}{base:Heap}{k:Nat}{fs:Fn3}
theorem zcn{α:Type}{x y:Str}{a:α}{l:List (Str×α)}{b:α}(h:((x,a)::l).lookup y=some b):(y=x/\b=a)\/l.lookup y=some b:=by
 rw [List.lookup_cons] at h
 cases e:y == x with
 | true=>rw [e] at h;cases h;exact .inl ⟨eq_of_beq e,rfl⟩
 | false=>rw [e] at h;exact .inr h
theorem zfC{α:Type}{p:α->Prop}:∀x∈([]:List α),p x:=fun _ h=>nomatch h
theorem zap{α:Type}{p:α->Prop}{a:α}{l:List α}(h:p a)(t:∀x∈l,p x):∀x∈a::l,p x:=fun x hx=>(List.mem_cons.mp hx).elim (fun e=>e ▸ h) (t x)
theorem zgS{α:Type}{x:Str}{a:α}:∀{l:List (Str×α)},l.lookup x=some a->(x,a)∈l
 | [],h=>by cases h
 | (y,b)::l,h=>by
  rcases zcn h with ⟨rfl,rfl⟩ | h
  ·exact List.mem_cons_self
  ·exact List.mem_cons_of_mem _ (zgS h)
def ztP(K:PySem.W.Frag)(cl:Cf)(exc:List Str)(c:Str):Prop:=PySem.W.ExcCls K (cl c)/\PySem.W.kitOne K (.ref (cl c)) (.type "ValueError")=some true/\∀C∈exc,PySem.W.kitOne K (.ref (cl c)) (.ref (cl C))=some (decide (C=c)||decide (C = "FloorError"))
theorem zxh(hc:∀p∈T.con,∃v u,mg p.1=some u/\zbp v u/\∀w,Shd cl w v p.2)(hb:∀x∈T.blt,mg x=none)(he:∀c∈T.exc,mg c=some (.ref (cl c))/\PySem.W.excIn K (cl c) bmV "ValueError.__new__" = true)(hu:∀p∈T.und,L2.zo9 K (cl p.1) (cl p.2))(hx:∀c∈T.rz,ztP K cl T.exc c)(hfk:∀p∈T.fk,Cls cl.K (cl p.1)/\zdA cl.K (cl p.1) p.2):GOk cl (Gn T ⟨"",[],[],[]⟩) P wo K mg base 0 where
 fk:=fun c f h=>hfk (c,f) (by simpa using (show T.fk.contains (c,f)=true from h))
 mt:=fun m c fi h=>by cases h
 mks:=fun c dds fi h=>by cases h
 con:=fun x d h=>hc (x,d) (zgS h)
 fn:=fun x fi h=>by cases h
 blt:=fun x h=>hb x (by simpa using (show T.blt.contains x=true from h))
 exc:=fun c h=>he c (by simpa using (show T.exc.contains c=true from h))
 und:=fun c C h=>hu (c,C) (by simpa using (show T.und.contains (c,C)=true from h))
 isx:=fun c C b h=>by
  have h':ztp T.rz T.exc c C=some b:=h;unfold ztp at h';split at h'
  ·rename_i hc;obtain ⟨x1,x2,x3⟩:=hx c (by simpa using hc);refine ⟨x1,?_⟩;unfold zvN;split at h'
   ·rename_i hC;cases h';rw [if_pos hC];exact x2
   ·rename_i hC;rw [if_neg hC];split at h'
    ·rename_i hm;cases h';exact x3 C (by simpa using hm)
    ·cases h'
  ·cases h'
theorem GOk.add{x:Str}{fi:FnI}{f:Addr}{fd:FuncData}{ps:List Str}(g:GOk cl (Gn T fs) P wo K mg base k)(m:mg x=some (.ref f))(kp:PySem.W.keepIn K (.ref f)=true)(b:zbG K fd ps [])(F:FnOk P wo K mg base (CXE P wo) (k+1) f fd ps (zgy cl fi.ar fi.own fi.run)) :
  GOk cl (Gn T (fs.fn x fi)) P wo K mg base (k+1) where
 con:=g.con
 fn:=fun y fj h=>by
  rcases zcn h with ⟨rfl,rfl⟩ | h
  ·exact ⟨f,fd,ps,m,kp,b,F⟩
  ·obtain ⟨f',fd',ps',h1,h2,h3,h4⟩:=g.fn y fj h;exact ⟨f',fd',ps',h1,h2,h3,h4.mono (Nat.le_succ _)⟩
 blt:=g.blt
 exc:=g.exc
 und:=g.und
 isx:=g.isx
 fk:=g.fk
 mt:=fun m c fi h=>by
  obtain ⟨f',fd',ps',h1,h2,h3,h4⟩:=g.mt m c fi h;exact ⟨f',fd',ps',h1,h2,h3,h4.mono (Nat.le_succ _)⟩
 mks:=fun c dds fi h=>by
  obtain ⟨f',fd',ps',dvs,ds,k',hk,z⟩:=g.mks c dds fi h;exact ⟨f',fd',ps',dvs,ds,k',Nat.le_succ_of_le hk,z⟩
theorem GOk.at(g:GOk cl (Gn T fs) P wo K mg base k)(c:Str):GOk cl (Gn T (fs.at c)) P wo K mg base k:=⟨g.con,g.fn,g.blt,g.exc,g.und,g.isx,g.fk,g.mt,g.mks⟩
theorem GOk.up{k':Nat}(g:GOk cl (Gn T fs) P wo K mg base k)(hk:k<=k'):GOk cl (Gn T fs) P wo K mg base k' where
 con:=g.con
 fn:=fun y fj h=>by
  obtain ⟨f',fd',ps',h1,h2,h3,h4⟩:=g.fn y fj h;exact ⟨f',fd',ps',h1,h2,h3,h4.mono hk⟩
 blt:=g.blt
 exc:=g.exc
 und:=g.und
 isx:=g.isx
 fk:=g.fk
 mt:=fun m c fi h=>by
  obtain ⟨f',fd',ps',h1,h2,h3,h4⟩:=g.mt m c fi h;exact ⟨f',fd',ps',h1,h2,h3,h4.mono hk⟩
 mks:=fun c dds fi h=>by
  obtain ⟨f',fd',ps',dvs,ds,j,hj,z⟩:=g.mks c dds fi h;exact ⟨f',fd',ps',dvs,ds,j,Nat.le_trans hj hk,z⟩
theorem GOk.addM{m c:Str}{fi:FnI}{f:Addr}{fd:FuncData}{ps:List Str}(g:GOk cl (Gn T fs) P wo K mg base k)(cc:Cls K (cl c))(hm:Meth K (cl c) m f)(b:zbG K fd ps [])(F:FnOk P wo K mg base (CXE P wo) k f fd ps (zgy cl fi.ar fi.own fi.run)) :
  GOk cl (Gn T (fs.mt m c fi)) P wo K mg base k where
 con:=g.con
 fn:=g.fn
 blt:=g.blt
 exc:=g.exc
 und:=g.und
 isx:=g.isx
 fk:=g.fk
 mt:=fun m' c' fi' h=>by
  rcases zcn h with ⟨rfl,e⟩ | h
  ·cases e;exact ⟨f,fd,ps,cc,hm,b,F⟩
  ·exact g.mt m' c' fi' h
 mks:=g.mks
theorem GOk.addK{c:Str}{dds:List D}{fi:FnI}{f:Addr}{fd:FuncData}{ps:List Str}{dvs:List V}{ds:List Value}{k':Nat}(g:GOk cl (Gn T fs) P wo K mg base k)(hk:k'+1<=k)(hm:mg c=some (.ref (cl c)))(M:Mk K (cl c) f)(b0:zbG K fd ps [])(bD:zbG K fd ps ds)(vd:Vals dvs ds)(sd:∀w,Shds cl w dvs dds)(F:FnOk P wo K mg base (CXE P wo) k' f fd ps (zgy cl fi.ar false fi.run)) :
  GOk cl (Gn T (fs.cls c dds fi)) P wo K mg base k where
 con:=g.con
 fn:=g.fn
 blt:=g.blt
 exc:=g.exc
 und:=g.und
 isx:=g.isx
 fk:=g.fk
 mt:=g.mt
 mks:=fun c' dds' fi' h=>by
  rcases zcn h with ⟨rfl,e⟩ | h
  ·cases e;exact ⟨f,fd,ps,dvs,ds,k',hk,hm,M,b0,bD,vd,sd,F⟩
  ·exact g.mks c' dds' fi' h
def zlH(nN:Nat)(own:Bool)(body:(List D->Sto->Out D)->Fs):Nat->List D->Sto->Out D
 | 0=>fun _ _=>.bad
 | n+1=>zbo nN own (body (zlH nN own body n))
theorem zel{n:Nat}{own:Bool}{vs:List V}{H:Hp}{Q:VK}{E:XK}(h:zgy cl n own (fun _ _=>.bad) vs H Q E):False:=by
 obtain ⟨_,B,w,ds,S,_,_,_,q⟩:=h;exact q
theorem GOk.addR{m c qual:Str}{st:Stmt}{f:Addr}{fd:FuncData}{N ps:List Str}{own:Bool}{body:(List D->Sto->Out D)->Fs}(g:GOk cl (Gn T fs) P wo K mg base k)(U:Fun K m qual st f fd)(S:FnScope N ps (zaa st))(hK:K=cl.K)(hP:P=cl.P)(hW:wo=cl.wo)(cc:Cls K (cl c))(hm:Meth K (cl c) m f)(b:zbG K fd ps [])
  (hd:∀r,zaf (Gn T ((fs.mt m c ⟨ps.length,own,r⟩).at c)) own N st=some (body r)):∀n,GOk cl (Gn T (fs.mt m c ⟨ps.length,own,zlH N.length own body n⟩)) P wo K mg base (k+n)
 | 0=>g.addM cc hm b ⟨fun vs H Q E h=>(zel h).elim,fun A outer s H args us vs Q E hr he hb hv h=>(zel h).elim⟩
 | n+1=>(g.up (Nat.le_add_right k (n+1))).addM cc hm b (zgZ U S ((g.addR U S hK hP hW cc hm b hd n).at c) hK hP hW (hd _))
end
def zly(K:PySem.W.Frag):Sp:=fun vs H Q _=>∃(a:Addr) (ns:List Int),vs=[.ref a]/\ns.length<=63/\zsb H/\SqL K H a (ns.map V.int)/\∀H',Q (.bl true) H'
theorem zqY{cl:Cf}{run:List D->Sto->Out D}(hr:∀l:List Int,l.length<=63->∃S,run [.scr l] []=.ok (.bl true) S):∀vs H Q E,zly cl.K vs H Q E->zgy cl 1 false run vs H Q E:=by
 rintro vs H Q E ⟨a,ns,rfl,hl,hO,hS,q⟩;refine ⟨rfl,⟨fun _=>none,fun _=>none⟩,⟨H,fun _=>none,[]⟩,[.scr ns],[],rfl,⟨(fun a o h=>by cases h),(fun a r h=>by cases h),rfl,(fun n ob h=>by simp at h)⟩,.cons ?_ .nil,?_⟩
 ·rcases hS with (hS | ⟨o,hS⟩) | hS
  ·rcases hO a with z | ⟨o,xs,z⟩
   ·rw [hS] at z;cases z
   ·rw [hS] at z;cases z
  ·exact .scr hS rfl
  ·exact .scrK fun H=>.inr hS
 ·obtain ⟨S',e⟩:=hr ns hl;rw [e];intro v w' _ _ r;have r':Shd cl w' v (.bl true):=r;cases r';exact q _
end S2
namespace S2
open PySem PySem.Spec PyProof.Rows L2
abbrev Rn:=List D->Sto->Out D
def zfi(n1 n2 n3:Nat)(b1 b2 b3:Rn->Rn->Rn->Fs):Nat->Rn×Rn×Rn
 | 0=>(fun _ _=>.bad,fun _ _=>.bad,fun _ _=>.bad)
 | n+1=>(zbo n1 false (b1 (zfi n1 n2 n3 b1 b2 b3 n).1 (zfi n1 n2 n3 b1 b2 b3 n).2.1 (zfi n1 n2 n3 b1 b2 b3 n).2.2),zbo n2 false (b2 (zfi n1 n2 n3 b1 b2 b3 n).1 (zfi n1 n2 n3 b1 b2 b3 n).2.1 (zfi n1 n2 n3 b1 b2 b3 n).2.2),zbo n3 false (b3 (zfi n1 n2 n3 b1 b2 b3 n).1 (zfi n1 n2 n3 b1 b2 b3 n).2.1 (zfi n1 n2 n3 b1 b2 b3 n).2.2))
section
variable{cl:Cf}{T:Tab}{P:Program}{wo:PySem.World}{K:PySem.W.Frag}{mg:Z6}{base:Heap}{k:Nat}{fs:Fn3}
theorem GOk.addR3{m1 m2 m3 c q1 q2 q3:Str}{st1 st2 st3:Stmt}{f1 f2 f3:Addr}{fd1 fd2 fd3:FuncData}{N1 N2 N3 ps1 ps2 ps3:List Str}{b1 b2 b3:Rn->Rn->Rn->Fs}(g:GOk cl (Gn T fs) P wo K mg base k)
  (U1:Fun K m1 q1 st1 f1 fd1) (U2:Fun K m2 q2 st2 f2 fd2) (U3:Fun K m3 q3 st3 f3 fd3) (S1:FnScope N1 ps1 (zaa st1)) (S2:FnScope N2 ps2 (zaa st2)) (S3:FnScope N3 ps3 (zaa st3)) (hK:K=cl.K) (hP:P=cl.P) (hW:wo=cl.wo) (cc:Cls K (cl c))
  (e1:Meth K (cl c) m1 f1) (e2:Meth K (cl c) m2 f2) (e3:Meth K (cl c) m3 f3) (w1:zbG K fd1 ps1 []) (w2:zbG K fd2 ps2 []) (w3:zbG K fd3 ps3 [])
  (d1:∀r1 r2 r3,zaf (Gn T ((((fs.mt m1 c ⟨ps1.length,false,r1⟩).mt m2 c ⟨ps2.length,false,r2⟩).mt m3 c ⟨ps3.length,false,r3⟩).at c)) false N1 st1=some (b1 r1 r2 r3))
  (d2:∀r1 r2 r3,zaf (Gn T ((((fs.mt m1 c ⟨ps1.length,false,r1⟩).mt m2 c ⟨ps2.length,false,r2⟩).mt m3 c ⟨ps3.length,false,r3⟩).at c)) false N2 st2=some (b2 r1 r2 r3))
  (d3:∀r1 r2 r3,zaf (Gn T ((((fs.mt m1 c ⟨ps1.length,false,r1⟩).mt m2 c ⟨ps2.length,false,r2⟩).mt m3 c ⟨ps3.length,false,r3⟩).at c)) false N3 st3=some (b3 r1 r2 r3)) :
  ∀n,GOk cl (Gn T (((fs.mt m1 c ⟨ps1.length,false,(zfi N1.length N2.length N3.length b1 b2 b3 n).1⟩).mt m2 c ⟨ps2.length,false,(zfi N1.length N2.length N3.length b1 b2 b3 n).2.1⟩).mt m3 c ⟨ps3.length,false,(zfi N1.length N2.length N3.length b1 b2 b3 n).2.2⟩)) P wo K mg base (k+n)
 | 0=>((g.addM cc e1 w1 ⟨fun vs H Q E h=>(zel h).elim,fun A outer s H args us vs Q E hr he hb hv h=>(zel h).elim⟩).addM cc e2 w2 ⟨fun vs H Q E h=>(zel h).elim,fun A outer s H args us vs Q E hr he hb hv h=>(zel h).elim⟩).addM cc e3 w3 ⟨fun vs H Q E h=>(zel h).elim,fun A outer s H args us vs Q E hr he hb hv h=>(zel h).elim⟩
 | n+1 =>
  have ih:=(GOk.addR3 g U1 U2 U3 S1 S2 S3 hK hP hW cc e1 e2 e3 w1 w2 w3 d1 d2 d3 n).at c
  (((g.up (Nat.le_add_right k (n+1))).addM cc e1 w1 (zgZ U1 S1 ih hK hP hW (d1 _ _ _))).addM cc e2 w2 (zgZ U2 S2 ih hK hP hW (d2 _ _ _))).addM cc e3 w3 (zgZ U3 S3 ih hK hP hW (d3 _ _ _))
theorem GOk.addR3x{m1 m2 m3 c q1 q2 q3:Str}{st1 st2 st3:Stmt}{f1 f2 f3:Addr}{fd1 fd2 fd3:FuncData}{N1 N2 N3 ps1 ps2 ps3:List Str}{b1 b2 b3:Rn->Rn->Rn->Fs}{n n1 n2 n3 l1 l2 l3:Nat}{r1 r2 r3:Rn}(g:GOk cl (Gn T fs) P wo K mg base k)
  (U1:Fun K m1 q1 st1 f1 fd1) (U2:Fun K m2 q2 st2 f2 fd2) (U3:Fun K m3 q3 st3 f3 fd3) (S1:FnScope N1 ps1 (zaa st1)) (S2:FnScope N2 ps2 (zaa st2)) (S3:FnScope N3 ps3 (zaa st3)) (hK:K=cl.K) (hP:P=cl.P) (hW:wo=cl.wo) (cc:Cls K (cl c))
  (e1:Meth K (cl c) m1 f1) (e2:Meth K (cl c) m2 f2) (e3:Meth K (cl c) m3 f3) (w1:zbG K fd1 ps1 []) (w2:zbG K fd2 ps2 []) (w3:zbG K fd3 ps3 [])
  (d1:∀r1 r2 r3,zaf (Gn T ((((fs.mt m1 c ⟨ps1.length,false,r1⟩).mt m2 c ⟨ps2.length,false,r2⟩).mt m3 c ⟨ps3.length,false,r3⟩).at c)) false N1 st1=some (b1 r1 r2 r3))
  (d2:∀r1 r2 r3,zaf (Gn T ((((fs.mt m1 c ⟨ps1.length,false,r1⟩).mt m2 c ⟨ps2.length,false,r2⟩).mt m3 c ⟨ps3.length,false,r3⟩).at c)) false N2 st2=some (b2 r1 r2 r3))
  (d3:∀r1 r2 r3,zaf (Gn T ((((fs.mt m1 c ⟨ps1.length,false,r1⟩).mt m2 c ⟨ps2.length,false,r2⟩).mt m3 c ⟨ps3.length,false,r3⟩).at c)) false N3 st3=some (b3 r1 r2 r3))
  (a1:N1.length=n1) (a2:N2.length=n2) (a3:N3.length=n3) (p1:ps1.length=l1) (p2:ps2.length=l2) (p3:ps3.length=l3) (z1:r1=(zfi n1 n2 n3 b1 b2 b3 n).1) (z2:r2=(zfi n1 n2 n3 b1 b2 b3 n).2.1) (z3:r3=(zfi n1 n2 n3 b1 b2 b3 n).2.2) :
  GOk cl (Gn T (((fs.mt m1 c ⟨l1,false,r1⟩).mt m2 c ⟨l2,false,r2⟩).mt m3 c ⟨l3,false,r3⟩)) P wo K mg base (k+n):=by
 subst a1 a2 a3 p1 p2 p3 z1 z2 z3;exact GOk.addR3 g U1 U2 U3 S1 S2 S3 hK hP hW cc e1 e2 e3 w1 w2 w3 d1 d2 d3 n
end
end S2
namespace S2
open PySem PySem.Spec PyProof.Rows L2
structure FnT(K:PySem.W.Frag)(x q:Str)(st:Stmt)(f:Addr):Prop where
 ex:∃(oc:Value) (od:Option Addr) (kV dc pm:Value) (an:Option Addr) (cd ct:Value) (sl:Array (Option Value)),K.lookup f=some ⟨oc,od,.func (PySem.W.fnOf x q (zbA st) (zbi st) (zaa st) .none kV dc pm an cd ct),sl⟩/\PySem.W.codeIn K cd q=true/\PySem.W.keepIn K (.ref f)=true/\PySem.W.isFn K (.ref f)=true
structure GFn(K:PySem.W.Frag)(x:Str)(st:Stmt):Prop where
 ex:∃f,PySem.W.nsIn K mainGlobals x=some (some (.ref f))/\FnT K x x st f
structure MFn(K:PySem.W.Frag)(C:Addr)(m q:Str)(st:Stmt):Prop where
 ex:∃f,PySem.W.findIn K (.ref C) m=some (some (.ref f))/\FnT K m q st f
def BB(x q:Str)(st:Stmt)(ps:List Str):Prop:=∀(kV doc pm:Value) (an:Option Addr) (cdv ct:Value) (us:List Value),us.length=ps.length->bindArgs (PySem.W.fnOf x q (zbA st) (zbi st) (zaa st) .none kV doc pm an cdv ct) ⟨us,[]⟩=pure (ps.zip us)
theorem bb0{p:List Value->Prop}(h:p []):∀us:List Value,us.length=0->p us:=fun us e=>by rw [List.eq_nil_of_length_eq_zero e];exact h
theorem bbS{n:Nat}{p:List Value->Prop}(h:∀a:Value,∀us:List Value,us.length=n->p (a::us)):∀us:List Value,us.length=n+1->p us:=fun us e=>by
 cases us with
 | nil=>cases e
 | cons a us=>exact h a us (Nat.succ.inj e)
theorem bb1{p:List Value->Prop}(h:∀a0:Value,p [a0]):∀us:List Value,us.length=1->p us:=bbS fun a0=>bb0 (h a0)
theorem bb2{p:List Value->Prop}(h:∀a0 a1:Value,p [a0,a1]):∀us:List Value,us.length=2->p us:=bbS fun a0=>bbS fun a1=>bb0 (h a0 a1)
theorem bb3{p:List Value->Prop}(h:∀a0 a1 a2:Value,p [a0,a1,a2]):∀us:List Value,us.length=3->p us:=bbS fun a0=>bbS fun a1=>bbS fun a2=>bb0 (h a0 a1 a2)
theorem bb4{p:List Value->Prop}(h:∀a0 a1 a2 a3:Value,p [a0,a1,a2,a3]):∀us:List Value,us.length=4->p us:=bbS fun a0=>bbS fun a1=>bbS fun a2=>bbS fun a3=>bb0 (h a0 a1 a2 a3)
theorem bb6{p:List Value->Prop}(h:∀a0 a1 a2 a3 a4 a5:Value,p [a0,a1,a2,a3,a4,a5]):∀us:List Value,us.length=6->p us:=bbS fun a0=>bbS fun a1=>bbS fun a2=>bbS fun a3=>bbS fun a4=>bbS fun a5=>bb0 (h a0 a1 a2 a3 a4 a5)
section
variable{cl:Cf}{T:Tab}{P:Program}{wo:PySem.World}{K:PySem.W.Frag}{mg:Z6}{base:Heap}{k:Nat}{fs:Fn3}
theorem FnT.un{x q:Str}{st:Stmt}{f:Addr}{ps:List Str}(p:FnT K x q st f)(b:BB x q st ps):∃fd,Fun K x q st f fd/\zbG K fd ps []/\PySem.W.keepIn K (.ref f)=true/\PySem.W.isFn K (.ref f)=true:=by
 obtain ⟨oc,od,kV,dc,pm,an,cd,ct,sl,l,c,kp,i⟩:=p.ex;have U:=zm9 (st:=st) l c kp;exact ⟨_,U,U.binds b,kp,i⟩
theorem GOk.addG{x:Str}{st:Stmt}{N ps:List Str}{own:Bool}{f_:Fs}{h:Heap}(g:GOk cl (Gn T fs) P wo K mg base k)(X:K.In h)(G:h.Ns mainGlobals mg)(p:GFn K x st)(S:FnScope N ps (zaa st))(hK:K=cl.K)(hP:P=cl.P)(hW:wo=cl.wo)(b:BB x x st ps)(hd:zaf (Gn T fs) own N st=some f_) :
  GOk cl (Gn T (fs.fn x ⟨ps.length,own,zbo N.length own f_⟩)) P wo K mg base (k+1):=by
 obtain ⟨f,a,p⟩:=p.ex;obtain ⟨fd,U,B,kp,_⟩:=p.un b;exact GOk.add g (PySem.W.mg_of X G a) kp B (zgZ U S g hK hP hW hd)
theorem GOk.addMG{m c q:Str}{st:Stmt}{N ps:List Str}{own:Bool}{f_:Fs}(g:GOk cl (Gn T fs) P wo K mg base k)(cc:Cls K (cl c))(p:MFn K (cl c) m q st)(S:FnScope N ps (zaa st))(hK:K=cl.K)(hP:P=cl.P)(hW:wo=cl.wo)(b:BB m q st ps)(hd:zaf (Gn T (fs.at c)) own N st=some f_) :
  GOk cl (Gn T (fs.mt m c ⟨ps.length,own,zbo N.length own f_⟩)) P wo K mg base (k+1):=by
 obtain ⟨f,a,p⟩:=p.ex;obtain ⟨fd,U,B,kp,i⟩:=p.un b;exact GOk.addM (g.up (Nat.le_succ _)) cc ⟨a,i,kp⟩ B (zgZ U S (g.at c) hK hP hW hd)
theorem GOk.addRG{m c q:Str}{st:Stmt}{N ps:List Str}{own:Bool}{body:(List D->Sto->Out D)->Fs}(g:GOk cl (Gn T fs) P wo K mg base k)(cc:Cls K (cl c))(p:MFn K (cl c) m q st)(S:FnScope N ps (zaa st))(hK:K=cl.K)(hP:P=cl.P)(hW:wo=cl.wo)(b:BB m q st ps)
  (hd:∀r,zaf (Gn T ((fs.mt m c ⟨ps.length,own,r⟩).at c)) own N st=some (body r)) (n:Nat):GOk cl (Gn T (fs.mt m c ⟨ps.length,own,zlH N.length own body n⟩)) P wo K mg base (k+n):=by
 obtain ⟨f,a,p⟩:=p.ex;obtain ⟨fd,U,B,kp,i⟩:=p.un b;exact GOk.addR g U S hK hP hW cc ⟨a,i,kp⟩ B hd n
theorem GOk.addKG{c q:Str}{st:Stmt}{N ps:List Str}{f_:Fs}{h:Heap}(g:GOk cl (Gn T fs) P wo K mg base k)(X:K.In h)(G:h.Ns mainGlobals mg)(ny:PySem.W.nsIn K mainGlobals c=some (some (.ref (cl c))))(mk:PySem.W.makesIn K (cl c)=true)(kpc:PySem.W.keepIn K (.ref (cl c))=true)(p:MFn K (cl c) "__init__" q st)(S:FnScope N ps (zaa st))(hK:K=cl.K)(hP:P=cl.P)(hW:wo=cl.wo)(b:BB "__init__" q st ps)(hd:zaf (Gn T (fs.at c)) false N st=some f_) :
  GOk cl (Gn T (fs.cls c [] ⟨ps.length,false,zbo N.length false f_⟩)) P wo K mg base (k+2):=by
 obtain ⟨f,a,p⟩:=p.ex;obtain ⟨fd,U,B,kp,i⟩:=p.un b;exact GOk.addK (k':=k+1) (dvs:=[]) (fi:=⟨ps.length,false,zbo N.length false f_⟩) (g.up (Nat.le_add_right k 2)) (Nat.le_refl _) (PySem.W.mg_of X G ny) ⟨mk,a,i,kpc⟩ B B .nil (fun _=>.nil) (zgZ U S (g.at c) hK hP hW hd)
theorem GOk.addR3G{m1 m2 m3 c q1 q2 q3:Str}{st1 st2 st3:Stmt}{N1 N2 N3 ps1 ps2 ps3:List Str}{b1 b2 b3:Rn->Rn->Rn->Fs}{n n1 n2 n3 l1 l2 l3:Nat}{r1 r2 r3:Rn}(g:GOk cl (Gn T fs) P wo K mg base k)(cc:Cls K (cl c))(e1:MFn K (cl c) m1 q1 st1)(e2:MFn K (cl c) m2 q2 st2)(e3:MFn K (cl c) m3 q3 st3)
  (S1:FnScope N1 ps1 (zaa st1)) (S2:FnScope N2 ps2 (zaa st2)) (S3:FnScope N3 ps3 (zaa st3)) (hK:K=cl.K) (hP:P=cl.P) (hW:wo=cl.wo) (w1:BB m1 q1 st1 ps1) (w2:BB m2 q2 st2 ps2) (w3:BB m3 q3 st3 ps3)
  (d1:∀r1 r2 r3,zaf (Gn T ((((fs.mt m1 c ⟨ps1.length,false,r1⟩).mt m2 c ⟨ps2.length,false,r2⟩).mt m3 c ⟨ps3.length,false,r3⟩).at c)) false N1 st1=some (b1 r1 r2 r3))
  (d2:∀r1 r2 r3,zaf (Gn T ((((fs.mt m1 c ⟨ps1.length,false,r1⟩).mt m2 c ⟨ps2.length,false,r2⟩).mt m3 c ⟨ps3.length,false,r3⟩).at c)) false N2 st2=some (b2 r1 r2 r3))
  (d3:∀r1 r2 r3,zaf (Gn T ((((fs.mt m1 c ⟨ps1.length,false,r1⟩).mt m2 c ⟨ps2.length,false,r2⟩).mt m3 c ⟨ps3.length,false,r3⟩).at c)) false N3 st3=some (b3 r1 r2 r3))
  (a1:N1.length=n1) (a2:N2.length=n2) (a3:N3.length=n3) (p1:ps1.length=l1) (p2:ps2.length=l2) (p3:ps3.length=l3) (z1:r1=(zfi n1 n2 n3 b1 b2 b3 n).1) (z2:r2=(zfi n1 n2 n3 b1 b2 b3 n).2.1) (z3:r3=(zfi n1 n2 n3 b1 b2 b3 n).2.2) :
  GOk cl (Gn T (((fs.mt m1 c ⟨l1,false,r1⟩).mt m2 c ⟨l2,false,r2⟩).mt m3 c ⟨l3,false,r3⟩)) P wo K mg base (k+n):=by
 obtain ⟨f1,x1,y1⟩:=e1.ex;obtain ⟨f2,x2,y2⟩:=e2.ex;obtain ⟨f3,x3,y3⟩:=e3.ex;obtain ⟨_,U1,B1,k1,i1⟩:=y1.un w1;obtain ⟨_,U2,B2,k2,i2⟩:=y2.un w2;obtain ⟨_,U3,B3,k3,i3⟩:=y3.un w3;exact GOk.addR3x g U1 U2 U3 S1 S2 S3 hK hP hW cc ⟨x1,i1,k1⟩ ⟨x2,i2,k2⟩ ⟨x3,i3,k3⟩ B1 B2 B3 d1 d2 d3 a1 a2 a3 p1 p2 p3 z1 z2 z3
end
end S2
namespace S2
open PySem
open L2 hiding D
noncomputable def zb2:Fs :=
  (zal (sFz [] (zbn (zhD (eUn (zew "tuple") (zao 0)) (zdz leD leD (zao 1) (zaJ zeD [(zao 0)]) (zao 2)))))
  sNx)
noncomputable def zay:List S2.D->Sto->Out S2.D:=zbo 3 false zb2
noncomputable def zfd:Fs :=
  (zal (sFz [] (zbT 1 false (eIf (zai gtD (zaJ zeD [(zao 0)]) (zaj (.int 0))) (zaJ zeD [(zai ixD (zao 0) (zaj (.int 0)))]) (zaj (.int 0)))))
  (zal (sFz [1] (zbn (zdy [(zaJ zeD [(zao 0)]),(zad 1)])))
  sNx))
noncomputable def zbs:List S2.D->Sto->Out S2.D:=zbo 2 false zfd
noncomputable def zb4:Fs :=
  (zal (sFz [3,4] (zjJ 2 (zdy [(zad 3),(zad 4)]))) sNx)
noncomputable def zcM:Fs :=
  (zal (sFz [] (zhZ (.one 4) (zdp (zai ixD (zao 1) (zaj (.int 1)))) zb4)) sNx)
noncomputable def zdG:Fs :=
  (zal (sFz [0] (zbT 1 false (eFn zbs [(zad 0)])))
  (zal (sFz [] (zbT 2 true (zg1 [])))
  (zal (sFz [] (zhZ (.one 3) (zdp (zai ixD (zao 1) (zaj (.int 0)))) zcM))
  (zal (sFz [] (ziP 2))
  sNx))))
noncomputable def zaP:List S2.D->Sto->Out S2.D:=zbo 5 true zdG
noncomputable def zcJ:Fs :=
  (zal (sFz [1] (zbn (eFn zay [(zad 1),(zaJ zeD [(zao 0)]),(zaJ zeD [(zao 0)])])))
  sNx)
noncomputable def zbu:List S2.D->Sto->Out S2.D:=zbo 2 false zcJ
noncomputable def zdW:Fs :=
  (zal (sFz [1] (sIf (eUn zfl (eFn zay [(zad 1),(zaJ zeD [(zao 0)]),(zaJ zeD [(zao 0)])])) (zal (sFz [] (zbn (zaj (.bl false)))) sNx) sNx))
  (zal (sFz [0,1] (zbn (zaJ zph [(zcv 2 (.tup [0,1]) (zpd (zad 0) (zad 1)) zet (eFn zbu [(zad 0),(zad 1)]) [])])))
  sNx))
noncomputable def zcZ:List S2.D->Sto->Out S2.D:=zbo 2 false zdW
noncomputable def zdH:Fs :=
  (zal (sFz [] (zbn (zai ixD (zai ixD (zao 0) (zai ixD (zao 1) (zaj (.int 0)))) (zai ixD (zao 1) (zaj (.int 1))))))
  sNx)
noncomputable def zaD:List S2.D->Sto->Out S2.D:=zbo 2 false zdH
noncomputable def zcI:Fs :=
  (zal (sFz [0,0] (zbn (zcv 1 (.one 0) (zaX (eFn zaP [(zad 0)])) (zai zdo (eFn zaD [(zad 1),(zad 0)]) (zaj .non)) (zad 0) [0])))
  sNx)
noncomputable def zaQ:List S2.D->Sto->Out S2.D:=zbo 1 true zcI
noncomputable def zca:Fs :=
  (zal (sFz [] (sIf (zai ltD (zao 1) (zaJ zeD [(zao 0)])) (zal (sFz [] (zbn (zai ixD (zao 0) (zao 1)))) sNx) sNx))
  (zal (sFz [] (sIf (zai eqD (zao 0) (zg1 [])) (zal (sFz [] (zbn (zaj (.int 0)))) sNx) sNx))
  (zal (sFz [] (zbn (zai zcg (zai zfv (zai ixD (zao 0) (zai zll (zao 1) (zaJ zeD [(zao 0)]))) (zaj (.int 31))) (zao 1))))
  sNx)))
noncomputable def zbI:List S2.D->Sto->Out S2.D:=zbo 2 false zca
noncomputable def zdI:Fs :=
  (zal (sFz [0,1] (zbT 3 false (zai zll (zai zfv (zai zcg (eFn zbI [(zad 0),(zad 1)]) (zai zfv (zaj (.int 6151)) (zai zcg (zao 1) (zaj (.int 1))))) (zaj (.int 40692))) (zaj (.int 2147483399)))))
  (zal (sFz [] (zbn (zai zll (zai zll (zai zcg (zai zfv (zao 3) (zao 3)) (zai zrq (zao 3) (zaj (.int 31)))) (zaj (.int 2147483629))) (zao 2))))
  sNx))
noncomputable def zaw:List S2.D->Sto->Out S2.D:=zbo 4 false zdI
noncomputable def zbc:Fs :=
  (zal (sFz [1,3,5,0] (zbT 6 false (zaJ zch [(zcv 1 (.one 0) (zdp (zaj (.int 4))) zet (eFn zaw [(zad 4),(zai zcg (zai zcg (zai zcg (zao 1) (zai zfv (zaj (.int 4)) (zao 3))) (zaj (.int 2))) (zao 0)),(zad 2)]) [1,3,5,0])]))) (zal (sFz [0] (sIf (zai eqD (eFn zaw [(zad 0),(zai zcg (zai zcg (zao 1) (zaj (.int 60))) (zao 5)),(zaj (.int 3))]) (zaj (.int 0))) (zal (sFz [] (zbT 6 false (zdy [(zai ixD (zao 6) (zaj (.int 0))),(zai ixD (zao 6) (zaj (.int 1))),(zai ixD (zao 6) (zaj (.int 0))),(zai ixD (zao 6) (zaj (.int 1)))]))) sNx) sNx)) (zal (sFz [] (sIf (zai zom (zao 6) (zao 4)) (zal (sFz [6] (zjJ 4 (zad 6))) sNx) sNx)) sNx)))
noncomputable def zc6:Fs :=
  (zal (sFz [0,1] (zbT 3 false (zai zcg (zaj (.int 2)) (eFn zaw [(zad 0),(zad 1),(zaj (.int 2))]))))
  (zal (sFz [] (zbT 4 true (zg1 [])))
  (zal (sFz [0,2] (zhZ (.one 5) (zdp (zai zcg (zaj (.int 1)) (eFn zaw [(zad 0),(zai zcg (zao 1) (zaj (.int 1))),(zad 2)]))) zbc))
  (zal (sFz [] (zbn (zaJ zch [(zao 4)])))
  sNx))))
noncomputable def zcj:List S2.D->Sto->Out S2.D:=zbo 7 false zc6
noncomputable def zbd:Fs :=
  (zal (sFz [0] (zbT 10 false (eFn zaw [(zad 0),(zai zcg (zai zcg (zao 1) (zai zfv (zaj (.int 7)) (zao 7))) (zao 9)),(zai zfv (zaJ zeD [(zao 2)]) (zao 5))]))) (zal (sFz [10] (zjJ 8 (eIf (zai ltD (zao 10) (zaJ zeD [(zao 2)])) (zad 10) (zaj .non)))) sNx))
noncomputable def zcx:Fs :=
  (zal (sFz [] (zbT 8 true (zg1 []))) (zal (sFz [4] (zhZ (.one 9) (zdp (zad 4)) zbd)) (zal (sFz [] (zjJ 6 (zaJ zch [(zao 8)]))) sNx)))
noncomputable def zc8:Fs :=
  (zal (sFz [] (zbT 6 true (zg1 [])))
  (zal (sFz [3] (zhZ (.one 7) (zdp (zad 3)) zcx))
  (zal (sFz [] (zbn (zaJ zch [(zao 6)])))
  sNx)))
noncomputable def zcl:List S2.D->Sto->Out S2.D:=zbo 11 false zc8
noncomputable def zdl:Fs :=
  (zal (sFz [] (zbn (zhD (eUn (zew "int") (zao 0)) (eUn zfl (eUn (zew "bool") (zao 0))))))
  sNx)
noncomputable def zbk:List S2.D->Sto->Out S2.D:=zbo 1 false zdl
noncomputable def zco:Fs :=
  (zal (sFz [1] (zbn (zhD (eFn zbk [(zad 1)]) (zdz leD ltD (zaj (.int 0)) (zao 1) (zaJ zeD [(zao 0)])))))
  sNx)
noncomputable def zbl:List S2.D->Sto->Out S2.D:=zbo 2 false zco
noncomputable def zbM:Fs :=
  (zal (sFz [1] (sIf (eOr (eUn zfl (eFn zay [(zad 1),(zaj (.int 2)),(zaj (.int 2))])) (eOr (eUn zfl (eFn zbk [(zai ixD (zao 1) (zaj (.int 0)))])) (eUn zfl (eFn zbk [(zai ixD (zao 1) (zaj (.int 1)))])))) (zal (sFz [] (zbn (zaj (.bl false)))) sNx) sNx))
  (zal (sFz [0] (zbT 2 false (eFn zbs [(zad 0)])))
  (zal (sFz [] (zbn (zhD (zdz leD ltD (zaj (.int 0)) (zai ixD (zao 1) (zaj (.int 0))) (zai ixD (zao 2) (zaj (.int 0)))) (zdz leD ltD (zaj (.int 0)) (zai ixD (zao 1) (zaj (.int 1))) (zai ixD (zao 2) (zaj (.int 1)))))))
  sNx)))
noncomputable def za1:List S2.D->Sto->Out S2.D:=zbo 3 false zbM
noncomputable def zc7:Fs :=
  (zal (sFz [0,1] (zbn (zai ixD (zg1 [(zdy [(zaj (.int 1)),(zaj (.int 1))]),(zdy [(zaj (.int 1)),(zaj (.int 2))]),(zdy [(zaj (.int 2)),(zaj (.int 1))]),(zdy [(zaj (.int 2)),(zaj (.int 2))]),(zdy [(zaj (.int 2)),(zaj (.int 2))]),(zdy [(zaj (.int 1)),(zaj (.int 4))]),(zdy [(zaj (.int 2)),(zaj (.int 3))]),(zdy [(zaj (.int 3)),(zaj (.int 2))]),(zdy [(zaj (.int 3)),(zaj (.int 1))]),(zdy [(zaj (.int 2)),(zaj (.int 3))])]) (eFn zaw [(zad 0),(zad 1),(zaj (.int 10))]))))
  sNx)
noncomputable def zck:List S2.D->Sto->Out S2.D:=zbo 2 false zc7
noncomputable def zhz:Fs :=
  (zal (sFz [] (zbn (zai zfv (zdy [(zai zfv (zdy [(zaj .non)]) (zao 1))]) (zao 0))))
  sNx)
noncomputable def zd7:List S2.D->Sto->Out S2.D:=zbo 2 false zhz
noncomputable def zb9:Fs :=
  (zal (sFz [0,1] (sIf (eUn zfl (eFn zcZ [(zad 0),(zad 1)])) (zal (sFz [] (sRz "Unlike" [(zaj (.str "the sizes are unlike"))])) sNx) sNx))
  sNx)
noncomputable def zbt:List S2.D->Sto->Out S2.D:=zbo 2 false zb9
noncomputable def zhy:Fs :=
  (zal (sFz [] (zbn (eOr (zai zmg (zao 0) (zaj .non)) (zai eqD (zao 0) (zao 1)))))
  sNx)
noncomputable def zeR:List S2.D->Sto->Out S2.D:=zbo 2 false zhy
noncomputable def zcc:Fs :=
  (zal (sFz [1] (zd5 "Ways" "tiles" (zad 0) (zad 1)))
  (zal (sFz [2,2] (zd5 "Ways" "ground" (zad 0) (zcv 1 (.one 0) (zaX (eFn zaP [(zad 2)])) zet (eFn zaD [(zad 1),(zad 0)]) [2])))
  (zal (sFz [2] (zd5 "Ways" "size" (zad 0) (eFn zbs [(zad 2)])))
  (zal (sFz [3] (zd5 "Ways" "is_round" (zad 0) (zad 3)))
  (zal (sFz [] (zfS "Ways" "known" 0))
  sNx)))))
noncomputable def zaN:List S2.D->Sto->Out S2.D:=zbo 4 false zcc
noncomputable def zbN:Fs :=
  (zal (sFz [] (zbn (zai zfv (zdy [(zaj .non)]) (zai zcg (zai ixD (zeE "Ways" "size" (zad 0)) (zaj (.int 1))) (zaj (.int 2))))))
  sNx)
noncomputable def zaM:List S2.D->Sto->Out S2.D:=zbo 1 false zbN
noncomputable def zcb:Fs :=
  (zal (sFz [] (zbn (zai eqD (zai zll (zai zcg (zao 1) (zaj (.int 1))) (zai ixD (zeE "Ways" "size" (zad 0)) (zaj (.int 1)))) (zaj (.int 0)))))
  sNx)
noncomputable def za2:List S2.D->Sto->Out S2.D:=zbo 2 false zcb
noncomputable def zaT:Fs :=
  (zal (sFz [] (zbn (eIf (zai eqD (zai zll (zao 1) (zai ixD (zeE "Ways" "size" (zad 0)) (zaj (.int 1)))) (zaj (.int 0))) (zai ixD (zao 3) (zaj (.int 3))) (zai ixD (zao 2) (eUn zon (zaj (.int 1)))))))
  sNx)
noncomputable def zas:List S2.D->Sto->Out S2.D:=zbo 4 false zaT
noncomputable def zbz:Fs :=
  (zal (sFz [1] (zbT 4 false (zbD "Ways" "ends_row" za2 (zad 0) [(zad 1)])))
  (zal (sFz [] (zbT 5 false (zai geD (zai zcg (zao 1) (zai ixD (zeE "Ways" "size" (zad 0)) (zaj (.int 1)))) (zaJ zeD [(zeE "Ways" "ground" (zad 0))]))))
  (zal (sFz [4] (zbT 6 false (eIf (zad 4) (zaj .non) (zai ixD (zao 3) (zaj (.int 1))))))
  (zal (sFz [5] (zbT 7 false (eIf (zad 5) (zaj .non) (zai ixD (zao 3) (zaj (.int 2))))))
  (zal (sFz [4,1,2,3] (zbT 8 false (eIf (zhD (zeE "Ways" "is_round" (zad 0)) (eUn zfl (zad 4))) (zbD "Ways" "colour_round" zas (zad 0) [(zad 1),(zad 2),(zad 3)]) (zaj .non))))
  (zal (sFz [6,7,8] (zbn (zai zcg (zai zcg (zdy [(zad 6)]) (eSl (zao 2) (some (zaj (.int 2))) (some (eUn zon (zaj (.int 1)))))) (zdy [(zad 7),(zad 8)]))))
  sNx))))))
noncomputable def zaY:List S2.D->Sto->Out S2.D:=zbo 9 false zbz
noncomputable def za0:Fs :=
  (zal (sFz [] (zbT 2 false (zai ixD (zeE "Ways" "ground" (zad 0)) (zao 1))))
  (zal (sFz [] (sIf (zai zmg (zao 2) (zaj .non)) (zal (sFz [] (zbn (eUn lrD (zaJ zeD [(zeE "Ways" "tiles" (zad 0))])))) sNx) sNx))
  (zal (sFz [2,2] (zbn (eIf (eFn zbl [(zeE "Ways" "tiles" (zad 0)),(zad 2)]) (zg1 [(zad 2)]) (zg1 []))))
  sNx)))
noncomputable def zaG:List S2.D->Sto->Out S2.D:=zbo 3 false za0
noncomputable def za5:Fs :=
  (zal (sFz [1] (sIf (eOr (eUn zfl (zeE "Ways" "is_round" (zad 0))) (eUn zfl (zbD "Ways" "ends_row" za2 (zad 0) [(zad 1)]))) (zal (sFz [] (zbn (zaj (.bl true)))) sNx) sNx))
  (zal (sFz [1,2,3] (zbn (zai eqD (zai ixD (zao 3) (zaj (.int 1))) (zbD "Ways" "colour_round" zas (zad 0) [(zad 1),(zad 2),(zad 3)]))))
  sNx))
noncomputable def zaL:List S2.D->Sto->Out S2.D:=zbo 4 false za5
noncomputable def zdJ:Fs :=
  (zal (sFz [] (sIf (eOr (eUn zfl (eFn zeR [(zai ixD (zao 2) (zaj (.int 0))),(zai ixD (zao 3) (zaj (.int 3)))])) (eUn zfl (eFn zeR [(zai ixD (zao 2) (zaj (.int 1))),(zai ixD (zao 3) (zaj (.int 0)))]))) (zal (sFz [] (zbn (zaj (.bl false)))) sNx) sNx))
  (zal (sFz [1,2,3] (zbn (zbD "Ways" "fits_round" zaL (zad 0) [(zad 1),(zad 2),(zad 3)])))
  sNx))
noncomputable def zcB:List S2.D->Sto->Out S2.D:=zbo 4 false zdJ
noncomputable def zaW:Fs :=
  (zal (sFz [] (zbT 5 false (zai ixD (zeE "Ways" "tiles" (zad 0)) (zao 4)))) (zal (sFz [1,2,5] (sIf (zbD "Ways" "fits" zcB (zad 0) [(zad 1),(zad 2),(zad 5)]) (zal (sFz [4,1,2,5] (zjJ 3 (zdy [(zad 4),(zbD "Ways" "seam_behind" zaY (zad 0) [(zad 1),(zad 2),(zad 5)])]))) sNx) sNx)) sNx))
noncomputable def zcu:Fs :=
  (zal (sFz [] (zbT 3 true (zg1 [])))
  (zal (sFz [1] (zhZ (.one 4) (zaX (zbD "Ways" "numbers_for" zaG (zad 0) [(zad 1)])) zaW))
  (zal (sFz [] (ziP 3))
  sNx)))
noncomputable def za9:List S2.D->Sto->Out S2.D:=zbo 6 true zcu
noncomputable def zag(rec_:List S2.D->Sto->Out S2.D):Fs :=
  (zal (sFz [] (sIf (zai eqD (zao 1) (zaJ zeD [(zeE "Ways" "ground" (zad 0))])) (zal (sFz [] (zbn (zaj (.int 1)))) sNx) sNx))
  (zal (sFz [1,2] (zbT 3 false (zdy [(zad 1),(zad 2)])))
  (zal (sFz [] (sIf (zmr "Ways" "known" (zad 3) (zad 0)) (zal (sFz [1,2,0,1] (zhh "Ways" "known" (zad 0) 3 (zaJ znw [(zcv 1 (.one 0) (zaX (zbD "Ways" "choices" za9 (zad 0) [(zad 1),(zad 2)])) zet (zbD "Ways" "count_from" rec_ (zad 1) [(zai zcg (zao 2) (zaj (.int 1))),(zai ixD (zao 0) (zaj (.int 1)))]) [0,1])]))) sNx) sNx))
  (zal (sFz [] (zbn (zhC "Ways" "known" (zad 0) 3)))
  sNx))))
noncomputable def zbJ:List S2.D->Sto->Out S2.D:=zlH 4 false zag 40
noncomputable def zbV:Fs :=
  (zal (sFz [] (zbn (zbD "Ways" "count_from" zbJ (zad 0) [(zaj (.int 0)),(zbD "Ways" "first_seam" zaM (zad 0) [])])))
  sNx)
noncomputable def zbe:List S2.D->Sto->Out S2.D:=zbo 1 false zbV
noncomputable def zcK:Fs :=
  (zal (sFz [0,1] (zbn (zbD "Ways" "count_all" zbe (eMk "Ways" [(.bl false)] zaN [(zad 0),(zad 1)]) [])))
  sNx)
noncomputable def zaF:List S2.D->Sto->Out S2.D:=zbo 2 false zcK
noncomputable def zdV:Fs :=
  (zal (sFz [0,1] (zbn (eOr (zai zmg (zao 1) (zaj .non)) (eFn zbl [(zad 0),(zad 1)]))))
  sNx)
noncomputable def zcY:List S2.D->Sto->Out S2.D:=zbo 2 false zdV
noncomputable def zbU:Fs :=
  (zal (sFz [0,1] (sIf (eUn zfl (eFn za1 [(zad 0),(zad 1)])) (zal (sFz [] (sRz "NoPlace" [(zaj (.str "there is no such place"))])) sNx) sNx))
  sNx)
noncomputable def zaV:List S2.D->Sto->Out S2.D:=zbo 2 false zbU
noncomputable def zcH:Fs :=
  (zal (sFz [] (zbT 3 false (zai ixD (zao 0) (zai ixD (zao 1) (zaj (.int 0))))))
  (zal (sFz [2] (zbT 4 false (zai zcg (zai zcg (eSl (zao 3) none (some (zai ixD (zao 1) (zaj (.int 1))))) (zdy [(zad 2)])) (eSl (zao 3) (some (zai zcg (zai ixD (zao 1) (zaj (.int 1))) (zaj (.int 1)))) none))))
  (zal (sFz [4] (zbn (zai zcg (zai zcg (eSl (zao 0) none (some (zai ixD (zao 1) (zaj (.int 0))))) (zdy [(zad 4)])) (eSl (zao 0) (some (zai zcg (zai ixD (zao 1) (zaj (.int 0))) (zaj (.int 1)))) none))))
  sNx)))
noncomputable def zb0:List S2.D->Sto->Out S2.D:=zbo 5 false zcH
noncomputable def zdF:Fs :=
  (zal (sFz [1,2] (zmS (eFn zaV [(zad 1),(zad 2)])))
  (zal (sFz [0,3] (sIf (eUn zfl (eFn zcY [(zad 0),(zad 3)])) (zal (sFz [] (sRz "NoTile" [(zaj (.str "the set has no such number"))])) sNx) sNx))
  (zal (sFz [1,2,3] (zbn (eFn zb0 [(zad 1),(zad 2),(zad 3)])))
  sNx)))
noncomputable def zbh:List S2.D->Sto->Out S2.D:=zbo 4 false zdF
noncomputable def zei:Fs :=
  (zal (sFz [0,1] (zbn (zai gtD (eFn zaF [(zad 0),(zad 1)]) (zaj (.int 0)))))
  sNx)
noncomputable def zcy:List S2.D->Sto->Out S2.D:=zbo 2 false zei
noncomputable def zfb:Fs :=
  (zal (sFz [0,1,2] (zbn (eFn zbh [(zad 0),(zad 1),(zad 2),(zaj .non)])))
  sNx)
noncomputable def zdO:List S2.D->Sto->Out S2.D:=zbo 3 false zfb
noncomputable def zd2:Fs :=
  (zal (sFz [0,2,3] (zbT 4 false (eFn zdO [(zad 0),(zad 2),(zad 3)]))) (zal (sFz [0,4] (sIf (eUn zfl (eFn zcy [(zad 0),(zad 4)])) (zal (sFz [4] (zbT 2 false (zad 4))) sNx) sNx)) sNx))
noncomputable def zge:Fs :=
  (zal (sFz [0,1] (sIf (eFn zcy [(zad 0),(zad 1)]) (zal (sFz [] (zbn (zaj .non))) sNx) sNx))
  (zal (sFz [1] (zbT 2 false (zad 1)))
  (zal (sFz [1] (zhZ (.one 3) (zaX (eFn zaQ [(zad 1)])) zd2))
  (zal (sFz [2] (zbn (zad 2)))
  sNx))))
noncomputable def zcX:List S2.D->Sto->Out S2.D:=zbo 5 false zge
noncomputable def zfc:Fs :=
  (zal (sFz [0,1] (zmS (eFn zaV [(zad 0),(zad 1)])))
  (zal (sFz [0,1] (zbn (eFn zaD [(zad 0),(zad 1)])))
  sNx))
noncomputable def zcW:List S2.D->Sto->Out S2.D:=zbo 2 false zfc
noncomputable def zdX:Fs :=
  (zal (sFz [1] (zbn (eIf (eOr (zai zmg (zao 0) (zaj .non)) (zai eqD (zao 0) (zao 2))) (zaj (.int 0)) (zad 1))))
  sNx)
noncomputable def zc0:List S2.D->Sto->Out S2.D:=zbo 3 false zdX
noncomputable def zbW:Fs :=
  (zal (sFz [2] (zd5 "Mends" "size" (zad 0) (eFn zbs [(zad 2)])))
  (zal (sFz [1] (zd5 "Mends" "ways" (zad 0) (eMk "Ways" [(.bl false)] zaN [(zad 1),(eFn zd7 [(zai ixD (zeE "Mends" "size" (zad 0)) (zaj (.int 0))),(zai ixD (zeE "Mends" "size" (zad 0)) (zaj (.int 1)))])])))
  (zal (sFz [2,2] (zd5 "Mends" "laid" (zad 0) (zcv 1 (.one 0) (zaX (eFn zaP [(zad 2)])) zet (eFn zaD [(zad 1),(zad 0)]) [2])))
  (zal (sFz [2,3] (zd5 "Mends" "weights" (zad 0) (zcv 1 (.one 0) (zaX (eFn zaP [(zad 2)])) zet (eFn zaD [(zad 1),(zad 0)]) [3])))
  (zal (sFz [] (zfS "Mends" "known" 0))
  sNx)))))
noncomputable def zbf:List S2.D->Sto->Out S2.D:=zbo 4 false zbW
noncomputable def zbg(rec_least_from:List S2.D->Sto->Out S2.D):Fs :=
  (zal (sFz [5] (zbT 6 false (zbD "Mends" "least_from" rec_least_from (zad 0) [(zai zcg (zao 1) (zaj (.int 1))),(zad 5)]))) (zal (sFz [] (sIf (zai zdo (zao 6) (zaj .non)) (zal (sFz [4] (zbT 7 false (zai zcg (eFn zc0 [(zai ixD (zeE "Mends" "laid" (zad 0)) (zao 1)),(zai ixD (zeE "Mends" "weights" (zad 0)) (zao 1)),(zad 4)]) (zai ixD (zao 6) (zaj (.int 0)))))) (zal (sFz [7,4,5] (zjJ 3 (zdy [(zad 7),(zai ixD (zao 6) (zaj (.int 1))),(zad 4),(zad 5)]))) sNx)) sNx)) sNx))
noncomputable def zaz(rec_offers rec_least_by_offers rec_least_from:List S2.D->Sto->Out S2.D):Fs :=
  (zal (sFz [] (zbT 3 true (zg1 [])))
  (zal (sFz [1,2] (zhZ (.tup [4,5]) (zaX (zbD "Ways" "choices" za9 (zeE "Mends" "ways" (zad 0)) [(zad 1),(zad 2)])) (zbg rec_least_from)))
  (zal (sFz [3] (zbn (zad 3)))
  sNx)))
noncomputable def zae(rec_offers rec_least_by_offers rec_least_from:List S2.D->Sto->Out S2.D):Fs :=
  (zal (sFz [1,2] (zbT 3 false (zbD "Mends" "offers" rec_offers (zad 0) [(zad 1),(zad 2)])))
  (zal (sFz [] (sIf (zai eqD (zaJ zeD [(zao 3)]) (zaj (.int 0))) (zal (sFz [] (zbn (zaj .non))) sNx) sNx))
  (zal (sFz [3] (zbT 4 false (zaJ zgR [(zcv 1 (.one 0) (zaX (zad 3)) zet (zai ixD (zao 0) (zaj (.int 0))) [])])))
  (zal (sFz [4,3,4] (zbn (zdy [(zad 4),(zaJ znw [(zcv 1 (.one 0) (zaX (zad 3)) (zai eqD (zai ixD (zao 0) (zaj (.int 0))) (zao 1)) (zai ixD (zao 0) (zaj (.int 1))) [4])])])))
  sNx))))
noncomputable def zah(rec_offers rec_least_by_offers rec_least_from:List S2.D->Sto->Out S2.D):Fs :=
  (zal (sFz [] (sIf (zai eqD (zao 1) (zaJ zeD [(zeE "Mends" "laid" (zad 0))])) (zal (sFz [] (zbn (zdy [(zaj (.int 0)),(zaj (.int 1))]))) sNx) sNx))
  (zal (sFz [1,2] (zbT 3 false (zdy [(zad 1),(zad 2)])))
  (zal (sFz [] (sIf (zmr "Mends" "known" (zad 3) (zad 0)) (zal (sFz [1,2] (zhh "Mends" "known" (zad 0) 3 (zbD "Mends" "least_by_offers" rec_least_by_offers (zad 0) [(zad 1),(zad 2)]))) sNx) sNx))
  (zal (sFz [] (zbn (zhC "Mends" "known" (zad 0) 3)))
  sNx))))
noncomputable def zdw:List S2.D->Sto->Out S2.D:=(zfi 8 5 4 zaz zae zah 60).1
noncomputable def zbv:List S2.D->Sto->Out S2.D:=(zfi 8 5 4 zaz zae zah 60).2.1
noncomputable def zaZ:List S2.D->Sto->Out S2.D:=(zfi 8 5 4 zaz zae zah 60).2.2
noncomputable def zbO:Fs :=
  (zal (sFz [] (zbn (zbD "Mends" "least_from" zaZ (zad 0) [(zaj (.int 0)),(zbD "Ways" "first_seam" zaM (zeE "Mends" "ways" (zad 0)) [])])))
  sNx)
noncomputable def za4:List S2.D->Sto->Out S2.D:=zbo 1 false zbO
noncomputable def zc5:Fs :=
  (zal (sFz [1,2] (zmS (eFn zbt [(zad 1),(zad 2)])))
  (zal (sFz [0,1,2] (zbn (zbD "Mends" "least_all" za4 (eMk "Mends" [] zbf [(zad 0),(zad 1),(zad 2)]) [])))
  sNx))
noncomputable def zaE:List S2.D->Sto->Out S2.D:=zbo 3 false zc5
end S2
namespace S2
open PySem
open L2 hiding D
def Fo.seq(b:Fs):Fo->Fo | .nx ρ' S'=>b ρ' S' | o=>o
def zr1(a b:Fs)(ρ:Env):Out D->Fo | .ok d S'=>(match isB d with | some true=>a ρ S' | some false=>b ρ S' | none=>.bad) | .exc x S'=>.ex x ρ S' | .bad=>.bad
def ztn(i:Nat)(o:Bool)(ρ:Env):Out D->Fo | .ok d S'=>.nx (ρ.set i (some (o,d))) S' | .exc c S'=>.ex c ρ S' | .bad=>.bad
def ztl(ρ:Env):Out D->Fo | .ok _ S'=>.nx ρ S' | .exc c S'=>.ex c ρ S' | .bad=>.bad
def ztj(ρ:Env):Out D->Fo | .ok d S'=>.rt d S' | .exc c S'=>.ex c ρ S' | .bad=>.bad
def zq7(S:Sto):Option (Option (Bool×D))->Fo | some (some (true,d))=>.rt d S | _=>.bad
def zmc(i:Nat)(ρ:Env)(l:List D):Out D->Fo
 | .ok d S'=>if zbr l.length then .nx (ρ.set i (some (true,.lst (l++[d])))) S' else .bad
 | .exc c S'=>.ex c ρ S' | .bad=>.bad
def zvH(i:Nat)(f:Fe)(ρ:Env)(S:Sto):Option (Option (Bool×D))->Fo | some (some (true,.lst l))=>zmc i ρ l (f ρ S) | _=>.bad
def ztk(S:Sto):Option Env->Fo | some ρ'=>.nx ρ' S | none=>.bad
def zoz(t:Tg)(ρ:Env):Out D->Fo | .ok d S'=>ztk S' (t.put ρ d) | .exc c S'=>.ex c ρ S' | .bad=>.bad
def zvD(t:Tg)(a:Fs)(ρ:Env):Out (List D)->Fo | .ok ds S'=>zef t a ds ρ S' | .exc c S'=>.ex c ρ S' | .bad=>.bad
def zvw(S:Sto):Option (Option (Bool×D))->Out D | some (some (false,d))=>.ok d S | _=>.bad
def zvG(S:Sto):Option (Option (Bool×D))->Out D | some (some (_,d))=>.ok d S | _=>.bad
def kUn(u:D->Option D):Out D->Out D | .ok a S=>Out.of (u a) S | .exc c S=>.exc c S | .bad=>.bad
def zkv(u:D->D->Option D)(a:D):Out D->Out D | .ok b S=>Out.of (u a b) S | .exc c S=>.exc c S | .bad=>.bad
def ztm(u:D->D->Option D)(g:Fe)(ρ:Env):Out D->Out D | .ok a S=>zkv u a (g ρ S) | .exc c S=>.exc c S | .bad=>.bad
def kIf(f g:Fe)(ρ:Env):Out D->Out D | .ok d S1=>(match isB d with | some true=>f ρ S1 | some false=>g ρ S1 | none=>.bad) | .exc c S=>.exc c S | .bad=>.bad
def zto(g:Fe)(ρ:Env):Out D->Out D | .ok d S1=>(match isB d with | some true=>g ρ S1 | some false=>.ok (.bl false) S1 | none=>.bad) | .exc c S=>.exc c S | .bad=>.bad
def kOr(g:Fe)(ρ:Env):Out D->Out D | .ok d S1=>(match isB d with | some true=>.ok (.bl true) S1 | some false=>g ρ S1 | none=>.bad) | .exc c S=>.exc c S | .bad=>.bad
def zgU(d:D):Out (List D)->Out (List D) | .ok ds S=>.ok (d::ds) S | .exc c S=>.exc c S | .bad=>.bad
def zow(fs:List Fe)(ρ:Env):Out D->Out (List D) | .ok d S=>zgU d (zan fs ρ S) | .exc c S=>.exc c S | .bad=>.bad
def zvx:Out (List D)->Out D | .ok ds S=>if zbr ds.length then .ok (.tup ds) S else .bad | .exc c S=>.exc c S | .bad=>.bad
def zvA:Out (List D)->Out D | .ok ds S=>if zbr ds.length then .ok (.lst ds) S else .bad | .exc c S=>.exc c S | .bad=>.bad
def zoy(u:List D->Option D):Out (List D)->Out D | .ok ds S=>Out.of (u ds) S | .exc c S=>.exc c S | .bad=>.bad
def kFn(r:List D->Sto->Out D):Out (List D)->Out D | .ok ds S=>r ds S | .exc c S=>.exc c S | .bad=>.bad
def ze5(v:D->D->Option D)(b:D):Out D->Out D | .ok c S=>Out.of (v b c) S | .exc c S=>.exc c S | .bad=>.bad
def ze4(v:D->D->Option D)(h:Fe)(ρ:Env)(b:D)(S:Sto):Option D->Out D | some d=>(match isB d with | some true=>ze5 v b (h ρ S) | some false=>.ok (.bl false) S | none=>.bad) | none=>.bad
def zf6(u v:D->D->Option D)(h:Fe)(ρ:Env)(a:D):Out D->Out D | .ok b S=>ze4 v h ρ b S (u a b) | .exc c S=>.exc c S | .bad=>.bad
def zm4(u v:D->D->Option D)(g h:Fe)(ρ:Env):Out D->Out D | .ok a S=>zf6 u v h ρ a (g ρ S) | .exc c S=>.exc c S | .bad=>.bad
def zvB:Out D->Out (Option Int) | .ok (.int i) S=>.ok (some i) S | .ok _ _=>.bad | .exc c S=>.exc c S | .bad=>.bad
def zrX(d:D)(l:Option Int):Out (Option Int)->Out D | .ok u S=>Out.of (slD d l u) S | .exc c S=>.exc c S | .bad=>.bad
def zrY(d:D)(u:Option Fe)(ρ:Env):Out (Option Int)->Out D | .ok l S=>zrX d l (zcS u ρ S) | .exc c S=>.exc c S | .bad=>.bad
def kSl(l u:Option Fe)(ρ:Env):Out D->Out D | .ok d S=>zrY d u ρ (zcS l ρ S) | .exc c S=>.exc c S | .bad=>.bad
def zkt:Out D->Out (List D) | .ok (.lst l) S=>.ok l S | .ok (.tup l) S=>.ok l S | .ok _ _=>.bad | .exc c S=>.exc c S | .bad=>.bad
def zq4:Out (List D)->Out (List D) | .ok ds S1=>(match ds with | [x,y]=>(match zpU x,zpU y with | some l,some k=>.ok (zfn l k) S1 | _,_=>.bad) | _=>.bad) | .exc c S=>.exc c S | .bad=>.bad
def zq6:Out (List D)->Out (List D) | .ok ds S1=>(match ds with | [.int j]=>if -1000000<=j/\j<=1000000 then .ok (zaC 0 j) S1 else .bad | _=>.bad) | .exc c S=>.exc c S | .bad=>.bad
def zq5:Out (List D)->Out (List D) | .ok ds S1=>(match ds with | [.int i,.int j]=>if (-1000000<=i/\i<=1000000)/\-1000000<=j/\j<=1000000 then .ok (zaC i j) S1 else .bad | _=>.bad) | .exc c S=>.exc c S | .bad=>.bad
def zku:Out (List D)->Out D | .ok ys S2=>if zbr ys.length then .ok (.lst ys) S2 else .bad | _=>.bad
def zox(tg:Tg)(c elt:Fe)(ρ0:Env):Out (List D)->Out D | .ok ds S1=>zku (zbY tg c elt ρ0 ds S1) | .exc c S=>.exc c S | .bad=>.bad
def zvF:Option (Option (Bool×D))->Option (Bool×D) | some (some (false,d))=>some (false,d) | _=>none
def zr2(ρ:Env)(i:Nat):Option (Option (Bool×D))->Env | some (some (true,d))=>ρ.set i (some (false,d)) | _=>ρ
def zrZ(own:Bool):Fo->Out D | .rt d S'=>.ok d S' | .nx _ S'=>if own then .bad else .ok .non S' | .ex c _ S'=>.exc c S' | _=>.bad
def kRz(c:Str)(ρ:Env):Out (List D)->Fo | .ok ds S'=>if zbr ds.length then .ex c ρ S' else .bad | .exc x S'=>.ex x ρ S' | .bad=>.bad
section
variable{ρ:Env}{S:Sto}{f g h k c:Fe}{a b:Fs}
@[simp] theorem ztU:zal a b ρ S=(a ρ S).seq b:=by
 show (match a ρ S with | .nx ρ' S'=>b ρ' S' | o=>o)=_
 cases a ρ S<;>rfl
@[simp] theorem zuZ:(Fo.nx ρ S).seq b=b ρ S:=(rfl)
@[simp] theorem zuY{d:D}:(Fo.rt d S).seq b=.rt d S:=(rfl)
@[simp] theorem zuX:(Fo.bk ρ S).seq b=.bk ρ S:=(rfl)
@[simp] theorem zuW:(Fo.ct ρ S).seq b=.ct ρ S:=(rfl)
@[simp] theorem zuV{x:Str}:(Fo.ex x ρ S).seq b=.ex x ρ S:=(rfl)
@[simp] theorem zuU:Fo.bad.seq b=.bad:=(rfl)
@[simp] theorem zv0{is:List Nat}:sFz is a ρ S=a (frz is ρ) S:=(rfl)
@[simp] theorem zul:frz [] ρ=ρ:=(rfl)
@[simp] theorem zuk{i:Nat}{is:List Nat}:frz (i::is) ρ=frz is (frz1 ρ i):=(rfl)
@[simp] theorem zwf(i:Nat):frz1 ρ i=zr2 ρ i ρ[i]?:=(rfl)
@[simp] theorem zvg{i:Nat}{d:D}:zr2 ρ i (some (some (true,d)))=ρ.set i (some (false,d)):=(rfl)
@[simp] theorem zvf{i:Nat}{d:D}:zr2 ρ i (some (some (false,d)))=ρ:=(rfl)
@[simp] theorem zve{i:Nat}:zr2 ρ i (some none)=ρ:=(rfl)
@[simp] theorem zvY:sNx ρ S=.nx ρ S:=(rfl)
@[simp] theorem zv1:sBk ρ S=.bk ρ S:=(rfl)
@[simp] theorem ztY{i:Nat}{o:Bool}:zbT i o f ρ S=ztn i o ρ (f ρ S):=(rfl)
@[simp] theorem zvr{i:Nat}{o:Bool}{d:D}:ztn i o ρ (.ok d S)=.nx (ρ.set i (some (o,d))) S:=(rfl)
@[simp] theorem zvq{i:Nat}{o:Bool}{x:Str}:ztn i o ρ (.exc x S)=.ex x ρ S:=(rfl)
@[simp] theorem ztX:zmS f ρ S=ztl ρ (f ρ S):=(rfl)
@[simp] theorem zvj{d:D}:ztl ρ (.ok d S)=.nx ρ S:=(rfl)
@[simp] theorem zvi{x:Str}:ztl ρ (.exc x S)=.ex x ρ S:=(rfl)
@[simp] theorem ztV:zbn f ρ S=ztj ρ (f ρ S):=(rfl)
@[simp] theorem zu7{d:D}:ztj ρ (.ok d S)=.rt d S:=(rfl)
@[simp] theorem zu6{x:Str}:ztj ρ (.exc x S)=.ex x ρ S:=(rfl)
@[simp] theorem zsg:zlD ρ S=.rt .non S:=(rfl)
@[simp] theorem zsf{i:Nat}:ziP i ρ S=zq7 S ρ[i]?:=(rfl)
@[simp] theorem zu5{d:D}:zq7 S (some (some (true,d)))=.rt d S:=(rfl)
@[simp] theorem zvZ:sIf c a b ρ S=zr1 a b ρ (c ρ S):=(rfl)
@[simp] theorem zvd:zr1 a b ρ (.ok (.bl true) S)=a ρ S:=(rfl)
@[simp] theorem zvc:zr1 a b ρ (.ok (.bl false) S)=b ρ S:=(rfl)
@[simp] theorem zvb{x:Str}:zr1 a b ρ (.exc x S)=.ex x ρ S:=(rfl)
@[simp] theorem ztZ{i:Nat}:zjJ i f ρ S=zvH i f ρ S ρ[i]?:=(rfl)
@[simp] theorem zxd{i:Nat}{l:List D}:zvH i f ρ S (some (some (true,.lst l)))=zmc i ρ l (f ρ S):=(rfl)
@[simp] theorem zvt{i:Nat}{l:List D}{d:D}:zmc i ρ l (.ok d S)=if zbr l.length then .nx (ρ.set i (some (true,.lst (l++[d])))) S else .bad:=(rfl)
@[simp] theorem zvs{i:Nat}{l:List D}{x:Str}:zmc i ρ l (.exc x S)=.ex x ρ S:=(rfl)
@[simp] theorem zsj{t:Tg}:zhi t f ρ S=zoz t ρ (f ρ S):=by
 unfold zhi zoz
 cases f ρ S with
 | ok d S'=>dsimp only;cases t.put ρ d<;>rfl
 | exc c S'=>rfl
 | bad=>rfl
@[simp] theorem zvp{t:Tg}{d:D}:zoz t ρ (.ok d S)=ztk S (t.put ρ d):=(rfl)
@[simp] theorem zwQ{ρ':Env}:ztk S (some ρ')=.nx ρ' S:=(rfl)
@[simp] theorem ztW{t:Tg}{it:Fi}:zhZ t it a ρ S=zvD t a ρ (it ρ S):=(rfl)
@[simp] theorem zw2{t:Tg}{ds:List D}:zvD t a ρ (.ok ds S)=zef t a ds ρ S:=(rfl)
@[simp] theorem zvX{x:Str}{fs:List Fe}:sRz x fs ρ S=kRz x ρ (zan fs ρ S):=(rfl)
@[simp] theorem zxC{x:Str}{ds:List D}:kRz x ρ (.ok ds S)=if zbr ds.length then .ex x ρ S else .bad:=(rfl)
@[simp] theorem zt5{i:Nat}{d:D}:(Tg.one i).put ρ d=some (ρ.set i (some (false,d))):=(rfl)
@[simp] theorem zt2{is:List Nat}{ds:List D}:(Tg.tup is).put ρ (.tup ds)=zep is ds ρ:=(rfl)
@[simp] theorem zt4{i:Nat}{is:List Nat}{d:D}{ds:List D}:zep (i::is) (d::ds) ρ=zep is ds (ρ.set i (some (false,d))):=(rfl)
@[simp] theorem zt3:zep [] [] ρ=some ρ:=(rfl)
@[simp] theorem zum{i:Nat}:zad i ρ S=zvw S ρ[i]?:=(rfl)
@[simp] theorem zwK{d:D}:zvw S (some (some (false,d)))=.ok d S:=(rfl)
@[simp] theorem zut{i:Nat}:zao i ρ S=zvG S ρ[i]?:=(rfl)
@[simp] theorem zxc{o:Bool}{d:D}:zvG S (some (some (o,d)))=.ok d S:=(rfl)
@[simp] theorem zus{d:D}:zaj d ρ S=.ok d S:=(rfl)
@[simp] theorem zwh{u:D->Option D}:eUn u f ρ S=kUn u (f ρ S):=by
 unfold eUn;cases f ρ S<;>rfl
@[simp] theorem zwM{u:D->Option D}{d:D}:kUn u (.ok d S)=Out.of (u d) S:=(rfl)
@[simp] theorem zwL{u:D->Option D}{x:Str}:kUn u (.exc x S)=.exc x S:=(rfl)
@[simp] theorem zuu{u:D->D->Option D}:zai u f g ρ S=ztm u g ρ (f ρ S):=by
 unfold zai
 cases f ρ S with
 | ok a S1=>show ((g ρ S1).bind fun b S2=>Out.of (u a b) S2)=zkv u a (g ρ S1);cases g ρ S1<;>rfl
 | exc c S=>rfl
 | bad=>rfl
@[simp] theorem zvo{u:D->D->Option D}{d:D}:ztm u g ρ (.ok d S)=zkv u d (g ρ S):=(rfl)
@[simp] theorem zvn{u:D->D->Option D}{x:Str}:ztm u g ρ (.exc x S)=.exc x S:=(rfl)
@[simp] theorem zvm{u:D->D->Option D}{d e:D}:zkv u d (.ok e S)=Out.of (u d e) S:=(rfl)
@[simp] theorem zvl{u:D->D->Option D}{d:D}{x:Str}:zkv u d (.exc x S)=.exc x S:=(rfl)
@[simp] theorem zwl:eIf c f g ρ S=kIf f g ρ (c ρ S):=by
 unfold eIf;cases c ρ S<;>rfl
@[simp] theorem zw0:kIf f g ρ (.ok (.bl true) S)=f ρ S:=(rfl)
@[simp] theorem zwZ:kIf f g ρ (.ok (.bl false) S)=g ρ S:=(rfl)
@[simp] theorem zuv:zhD f g ρ S=zto g ρ (f ρ S):=by
 unfold zhD;cases f ρ S<;>rfl
@[simp] theorem zvv:zto g ρ (.ok (.bl true) S)=g ρ S:=(rfl)
@[simp] theorem zvu:zto g ρ (.ok (.bl false) S)=.ok (.bl false) S:=(rfl)
@[simp] theorem zwj:eOr f g ρ S=kOr g ρ (f ρ S):=by
 unfold eOr;cases f ρ S<;>rfl
@[simp] theorem zwS:kOr g ρ (.ok (.bl true) S)=.ok (.bl true) S:=(rfl)
@[simp] theorem zwR:kOr g ρ (.ok (.bl false) S)=g ρ S:=(rfl)
@[simp] theorem zsl:zan [] ρ S=.ok [] S:=(rfl)
@[simp] theorem zsm{fs:List Fe}:zan (f::fs) ρ S=zow fs ρ (f ρ S):=by
 show ((f ρ S).bind fun d S1=>(zan fs ρ S1).bind fun ds S2=>.ok (d::ds) S2)=_
 cases f ρ S with
 | ok a S1=>show ((zan fs ρ S1).bind fun ds S2=>.ok (a::ds) S2)=zgU a (zan fs ρ S1);cases zan fs ρ S1<;>rfl
 | exc c S=>rfl
 | bad=>rfl
@[simp] theorem ztf{fs:List Fe}{d:D}:zow fs ρ (.ok d S)=zgU d (zan fs ρ S):=(rfl)
@[simp] theorem zte{fs:List Fe}{x:Str}:zow fs ρ (.exc x S)=.exc x S:=(rfl)
@[simp] theorem ztd{d:D}{ds:List D}:zgU d (.ok ds S)=.ok (d::ds) S:=(rfl)
@[simp] theorem ztc{d:D}{x:Str}:zgU d (.exc x S)=.exc x S:=(rfl)
@[simp] theorem zun{fs:List Fe}:zdy fs ρ S=zvx (zan fs ρ S):=by
 unfold zdy;cases zan fs ρ S<;>rfl
@[simp] theorem zwN{ds:List D}:zvx (.ok ds S)=if zbr ds.length then .ok (.tup ds) S else .bad:=(rfl)
@[simp] theorem zup{fs:List Fe}:zg1 fs ρ S=zvA (zan fs ρ S):=by
 unfold zg1;cases zan fs ρ S<;>rfl
@[simp] theorem zwV{ds:List D}:zvA (.ok ds S)=if zbr ds.length then .ok (.lst ds) S else .bad:=(rfl)
@[simp] theorem zso{u:List D->Option D}{fs:List Fe}:zaJ u fs ρ S=zoy u (zan fs ρ S):=by
 unfold zaJ;cases zan fs ρ S<;>rfl
@[simp] theorem zti{u:List D->Option D}{ds:List D}:zoy u (.ok ds S)=Out.of (u ds) S:=(rfl)
@[simp] theorem zth{u:List D->Option D}{x:Str}:zoy u (.exc x S)=.exc x S:=(rfl)
@[simp] theorem zwm{r:List D->Sto->Out D}{fs:List Fe}:eFn r fs ρ S=kFn r (zan fs ρ S):=by
 unfold eFn;cases zan fs ρ S<;>rfl
@[simp] theorem zw4{r:List D->Sto->Out D}{ds:List D}:kFn r (.ok ds S)=r ds S:=(rfl)
@[simp] theorem zw3{r:List D->Sto->Out D}{x:Str}:kFn r (.exc x S)=.exc x S:=(rfl)
@[simp] theorem zrR{u v:D->D->Option D}:zdz u v f g h ρ S=zm4 u v g h ρ (f ρ S):=by
 show ((f ρ S).bind fun a S1=>(g ρ S1).bind fun b S2=>match (u a b).bind isB with
  | some true=>(h ρ S2).bind fun c S3=>Out.of (v b c) S3
  | some false=>.ok (.bl false) S2
  | none=>.bad)=_
 cases f ρ S with
 | ok a S1 =>
  show ((g ρ S1).bind fun b S2=>match (u a b).bind isB with
   | some true=>(h ρ S2).bind fun c S3=>Out.of (v b c) S3
   | some false=>.ok (.bl false) S2
   | none=>.bad)=zf6 u v h ρ a (g ρ S1)
  cases g ρ S1 with
  | ok b S2 =>
   show (match (u a b).bind isB with
    | some true=>(h ρ S2).bind fun c S3=>Out.of (v b c) S3
    | some false=>.ok (.bl false) S2
    | none=>.bad)=ze4 v h ρ b S2 (u a b)
   cases hu:u a b with
   | none=>rfl
   | some d =>
    show (match isB d with
     | some true=>(h ρ S2).bind fun c S3=>Out.of (v b c) S3
     | some false=>.ok (.bl false) S2
     | none=>.bad)=(match isB d with | some true=>ze5 v b (h ρ S2) | some false=>.ok (.bl false) S2 | none=>.bad)
    cases hb:isB d with
    | none=>rfl
    | some x=>cases x with
     | true=>show ((h ρ S2).bind fun c S3=>Out.of (v b c) S3)=ze5 v b (h ρ S2);cases h ρ S2<;>rfl
     | false=>rfl
  | exc c S=>rfl
  | bad=>rfl
 | exc c S=>rfl
 | bad=>rfl
@[simp] theorem zxa{u v:D->D->Option D}{d:D}:zm4 u v g h ρ (.ok d S)=zf6 u v h ρ d (g ρ S):=(rfl)
@[simp] theorem zw9{u v:D->D->Option D}{d e:D}:zf6 u v h ρ d (.ok e S)=ze4 v h ρ e S (u d e):=(rfl)
@[simp] theorem zw8{v:D->D->Option D}{e:D}:ze4 v h ρ e S (some (.bl true))=ze5 v e (h ρ S):=(rfl)
@[simp] theorem zw7{v:D->D->Option D}{e:D}:ze4 v h ρ e S (some (.bl false))=.ok (.bl false) S:=(rfl)
@[simp] theorem zw6{v:D->D->Option D}{d e:D}:ze5 v e (.ok d S)=Out.of (v e d) S:=(rfl)
@[simp] theorem zrQ:zcS none ρ S=.ok none S:=(rfl)
@[simp] theorem zrP:zcS (some f) ρ S=zvB (f ρ S):=by
 show ((f ρ S).bind fun d S1=>match d with | .int i=>.ok (some i) S1 | _=>.bad)=_
 cases f ρ S with
 | ok d S'=>cases d<;>rfl
 | exc c S'=>rfl
 | bad=>rfl
@[simp] theorem zwY{i:Int}:zvB (.ok (.int i) S)=.ok (some i) S:=(rfl)
@[simp] theorem zwi{l u:Option Fe}:eSl f l u ρ S=kSl l u ρ (f ρ S):=by
 unfold eSl
 cases f ρ S with
 | ok d S1 =>
  show ((zcS l ρ S1).bind fun l S2=>(zcS u ρ S2).bind fun u S3=>Out.of (slD d l u) S3)=zrY d u ρ (zcS l ρ S1)
  cases zcS l ρ S1 with
  | ok l S2=>show ((zcS u ρ S2).bind fun u S3=>Out.of (slD d l u) S3)=zrX d l (zcS u ρ S2);cases zcS u ρ S2<;>rfl
  | exc c S=>rfl
  | bad=>rfl
 | exc c S=>rfl
 | bad=>rfl
@[simp] theorem zxB{l u:Option Fe}{d:D}:kSl l u ρ (.ok d S)=zrY d u ρ (zcS l ρ S):=(rfl)
@[simp] theorem zwP{u:Option Fe}{d:D}{l:Option Int}:zrY d u ρ (.ok l S)=zrX d l (zcS u ρ S):=(rfl)
@[simp] theorem zwO{d:D}{l u:Option Int}:zrX d l (.ok u S)=Out.of (slD d l u) S:=(rfl)
@[simp] theorem zsk:zaX f ρ S=zkt (f ρ S):=by
 show ((f ρ S).bind fun d S1=>match d with | .lst l=>.ok l S1 | .tup l=>.ok l S1 | _=>.bad)=_
 cases f ρ S with
 | ok d S'=>cases d<;>rfl
 | exc c S'=>rfl
 | bad=>rfl
@[simp] theorem zwX{l:List D}:zkt (.ok (.lst l) S)=.ok l S:=(rfl)
@[simp] theorem zwW{l:List D}:zkt (.ok (.tup l) S)=.ok l S:=(rfl)
@[simp] theorem zvS:zpd f g ρ S=zq4 (zan [f,g] ρ S):=by
 unfold zpd;cases zan [f,g] ρ S<;>rfl
@[simp] theorem zuR{l k:List D}:zq4 (.ok [.tup l,.tup k] S)=.ok (zfn l k) S:=(rfl)
@[simp] theorem zuQ{l k:List D}:zq4 (.ok [.lst l,.tup k] S)=.ok (zfn l k) S:=(rfl)
@[simp] theorem zuP{l k:List D}:zq4 (.ok [.tup l,.lst k] S)=.ok (zfn l k) S:=(rfl)
@[simp] theorem zuO{l k:List D}:zq4 (.ok [.lst l,.lst k] S)=.ok (zfn l k) S:=(rfl)
@[simp] theorem zt1:zdp f ρ S=zq6 (zan [f] ρ S):=by
 unfold zdp;cases zan [f] ρ S<;>rfl
@[simp] theorem zu4{j:Int}:zq6 (.ok [.int j] S)=if -1000000<=j/\j<=1000000 then .ok (zaC 0 j) S else .bad:=(rfl)
@[simp] theorem zt0:zkR f g ρ S=zq5 (zan [f,g] ρ S):=by
 unfold zkR;cases zan [f,g] ρ S<;>rfl
@[simp] theorem zu3{i j:Int}:zq5 (.ok [.int i,.int j] S)=if (-1000000<=i/\i<=1000000)/\-1000000<=j/\j<=1000000 then .ok (zaC i j) S else .bad:=(rfl)
@[simp] theorem zuw{n:Nat}{t:Tg}{it:Fi}{caps:List Nat}:zcv n t it c f caps ρ S=zox t c f (zbX n caps ρ) (it ρ S):=by
 unfold zcv
 cases it ρ S with
 | ok ds S' =>
  simp only [Out.bind,zox]
  cases zbY t c f (zbX n caps ρ) ds S'<;>rfl
 | exc c S'=>rfl
 | bad=>rfl
@[simp] theorem zvk{t:Tg}{ρ0:Env}{ds:List D}:zox t c f ρ0 (.ok ds S)=zku (zbY t c f ρ0 ds S):=(rfl)
@[simp] theorem ztg{ys:List D}:zku (.ok ys S)=if zbr ys.length then .ok (.lst ys) S else .bad:=(rfl)
@[simp] theorem zvT:zet ρ S=.ok (.bl true) S:=(rfl)
@[simp] theorem zpm{n:Nat}{caps:List Nat}:zbX n caps ρ=List.replicate n none++caps.map (zrB ρ):=(rfl)
@[simp] theorem zux{i:Nat}:zrB ρ i=zvF ρ[i]?:=(rfl)
@[simp] theorem zxb{d:D}:zvF (some (some (false,d)))=some (false,d):=(rfl)
theorem zaq{n:Nat}{own:Bool}{fs:Fs}{ds:List D}:zbo n own fs ds S=zrZ own (fs (ds.map (fun d=>some (false,d))++List.replicate (n-ds.length) none) S):=(rfl)
@[simp] theorem zu2{own:Bool}{d:D}:zrZ own (.rt d S)=.ok d S:=(rfl)
@[simp] theorem zu1:zrZ false (.nx ρ S)=.ok .non S:=(rfl)
@[simp] theorem zu0{own:Bool}{x:Str}:zrZ own (.ex x ρ S)=.exc x S:=(rfl)
@[simp] theorem zwe{b:Bool}:isB (.bl b)=some b:=(rfl)
@[simp] theorem zv2{b:Bool}:zfl (.bl b)=some (.bl (!b)):=(rfl)
@[simp] theorem zv3{i:Int}:zon (.int i)=some (.int (-i)):=(rfl)
@[simp] theorem zuA{i j:Int}:zcg (.int i) (.int j)=some (.int (i+j)):=(rfl)
@[simp] theorem zuy{x y:List D}:zcg (.tup x) (.tup y)=if zbr (x.length+y.length) then some (.tup (x++y)) else none:=(rfl)
@[simp] theorem zuz{x y:List D}:zcg (.lst x) (.lst y)=if zbr (x.length+y.length) then some (.lst (x++y)) else none:=(rfl)
@[simp] theorem zvU{i j:Int}:zrT (.int i) (.int j)=some (.int (i-j)):=(rfl)
@[simp] theorem zv5{i j:Int}:zfv (.int i) (.int j)=if zb8 i||zb8 j then some (.int (i*j)) else none:=(rfl)
@[simp] theorem zv6{i j:Int}:zll (.int i) (.int j)=if 0<j then some (.int (i % j)) else none:=(rfl)
@[simp] theorem zwn{i j:Int}:zrq (.int i) (.int j)=if 0<j/\j<1073741824 then some (.int (i / j)) else none:=(rfl)
@[simp] theorem zxu{i j:Int}:ltD (.int i) (.int j)=some (.bl (decide (i<j))):=(rfl)
@[simp] theorem zxv{i j:Int}:leD (.int i) (.int j)=some (.bl (decide (i<=j))):=(rfl)
@[simp] theorem zxw{i j:Int}:gtD (.int i) (.int j)=some (.bl (decide (j<i))):=(rfl)
@[simp] theorem zxx{i j:Int}:geD (.int i) (.int j)=some (.bl (decide (j<=i))):=(rfl)
@[simp] theorem zwa{l:List D}{i:Int}:ixD (.lst l) (.int i)=atI l i:=(rfl)
@[simp] theorem zv8{l:List D}{i:Int}:ixD (.tup l) (.int i)=atI l i:=(rfl)
@[simp] theorem zv9{l:List Int}{i:Int}:ixD (.scr l) (.int i)=(atI l i).map D.int:=(rfl)
@[simp] theorem zuj{l:List D}:zeD [.lst l]=some (.int l.length):=(rfl)
@[simp] theorem zuh{l:List D}:zeD [.tup l]=some (.int l.length):=(rfl)
@[simp] theorem zui{l:List Int}:zeD [.scr l]=some (.int l.length):=(rfl)
@[simp] theorem ztT{l:List D}:zch [.lst l]=some (.tup l):=(rfl)
@[simp] theorem ztS{l:List D}:zch [.tup l]=some (.tup l):=(rfl)
@[simp] theorem zug{l:List D}:zkn [.lst l]=some (.lst l):=(rfl)
@[simp] theorem zuf{l:List D}:zkn [.tup l]=some (.lst l):=(rfl)
@[simp] theorem zwc{d:D}:zmg d .non=some (.bl (zc4 d)):=(rfl)
@[simp] theorem zt6{d:D}:zdo d .non=some (.bl (!zc4 d)):=(rfl)
@[simp] theorem zuc:zc4 .non=true:=(rfl)
@[simp] theorem zub{i:Int}:zc4 (.int i)=false:=(rfl)
@[simp] theorem zua{l:List D}:zc4 (.tup l)=false:=(rfl)
@[simp] theorem zvV{l:List D}{x y:Option Int}:slD (.tup l) x y=some (.tup (zex l x y)):=(rfl)
@[simp] theorem zvW{l:List D}{x y:Option Int}:slD (.lst l) x y=some (.lst (zex l x y)):=(rfl)
@[simp] theorem zt7{x y:Bool}:zlZ (.bl x) (.bl y)=some (.bl (!decide (x=y))):=(rfl)
@[simp] theorem zue{i j:Int}:zgR [.int i,.int j]=some (.int (if j<i then j else i)):=(rfl)
@[simp] theorem zv7{i j:Int}:zrW [.int i,.int j]=some (.int (if j<i then j else i)):=(rfl)
@[simp] theorem zse{n:Nat}:zbr n=decide (n<=100000):=(rfl)
theorem zbP{α:Type}(xs:List α)(j:Nat):atI xs (j:Int)=xs[j]?:=by
 unfold atI ixN
 by_cases h:j<xs.length
 ·simp [h]
 ·simp [h]
@[simp] theorem zr9{α:Type}(xs:List α):atI xs 0=xs[0]?:=zbP xs 0
@[simp] theorem ztI{α:Type}(xs:List α):atI xs 1=xs[1]?:=zbP xs 1
@[simp] theorem ztH{α:Type}(xs:List α):atI xs 2=xs[2]?:=zbP xs 2
@[simp] theorem zrH{α:Type}(xs:List α):atI xs 3=xs[3]?:=zbP xs 3
theorem zgl{α:Type}{xs:List α}{i:Int}(h:0<=i):atI xs i=xs[i.toNat]?:=by
 obtain ⟨n,rfl⟩:=Int.eq_ofNat_of_zero_le h;exact zbP xs n
end
theorem zdT{tg:Tg}{body:Fs}{ds:List D}{S:Sto}(Iv:Nat->Env->Prop)(step:∀k d ρ,ds[k]?=some d->Iv k ρ->∃ρ1 ρ2,tg.put ρ d=some ρ1/\body ρ1 S=.nx ρ2 S/\Iv (k+1) ρ2){ρ:Env}(h0:Iv 0 ρ):∃ρ',zef tg body ds ρ S=.nx ρ' S/\Iv ds.length ρ':=by
 have go:∀(n:Nat) (es:List D) (k:Nat) (ρ:Env),es.length=n->ds.drop k=es->k+n=ds.length->Iv k ρ->∃ρ',zef tg body es ρ S=.nx ρ' S/\Iv ds.length ρ':=by
  intro n
  induction n with
  | zero =>
   intro es k ρ hl he hk hi;obtain rfl:es=[]:=List.eq_nil_of_length_eq_zero hl;exact ⟨ρ,rfl,by rw [show ds.length=k by omega];exact hi⟩
  | succ n ih =>
   intro es k ρ hl he hk hi
   cases es with
   | nil=>cases hl
   | cons d es =>
    have hd:ds[k]?=some d:=by
     have:=congrArg (fun l=>l[0]?) he;rw [List.getElem?_drop] at this;simpa using this
    obtain ⟨ρ1,ρ2,e1,e2,hi2⟩:=step k d ρ hd hi;obtain ⟨ρ',e3,e4⟩:=ih es (k+1) ρ2 (by simpa using hl) (by rw [<-List.drop_drop,he];rfl) (by omega) hi2;refine ⟨ρ',?_,e4⟩;unfold zef;rw [e1];dsimp only;rw [e2];exact e3
 exact go ds.length ds 0 ρ rfl (by simp) (by omega) h0
theorem zdZ{tg:Tg}{c elt:Fe}{ρ0:Env}{S:Sto}{g:D->D}{p:D->Bool}:∀{ds:List D},(∀d∈ds,∃ρ1,tg.put ρ0 d=some ρ1/\c ρ1 S=.ok (.bl (p d)) S/\(p d=true->elt ρ1 S=.ok (g d) S))->zbY tg c elt ρ0 ds S=.ok ((ds.filter p).map g) S
 | [],_=>rfl
 | d::ds,h=>by
  obtain ⟨ρ1,e1,e2,e3⟩:=h d List.mem_cons_self;have ih:=zdZ (ds:=ds) fun x hx=>h x (List.mem_cons_of_mem _ hx)
  unfold zbY;rw [e1];dsimp only;rw [e2]
  cases hp:p d with
  | true=>simp [e3 hp,ih,hp]
  | false=>simp [ih,hp]
theorem zbS{tg:Tg}{elt:Fe}{ρ0:Env}{S:Sto}{g:D->D}{ds:List D}(h:∀d∈ds,∃ρ1,tg.put ρ0 d=some ρ1/\elt ρ1 S=.ok (g d) S):zbY tg zet elt ρ0 ds S=.ok (ds.map g) S:=by
 have:=zdZ (c:=zet) (p:=fun _=>true) (tg:=tg) (elt:=elt) (ρ0:=ρ0) (S:=S) (g:=g) (ds:=ds) fun d hd=>by
  obtain ⟨ρ1,e1,e2⟩:=h d hd;exact ⟨ρ1,e1,rfl,fun _=>e2⟩
 rw [this,List.filter_eq_self.mpr (fun _ _=>rfl)]
mutual
def D.pl:D->Bool
 | .non=>true
 | .int _=>true
 | .str _=>true
 | .tup l=>D.pls l
 | .lst l=>D.pls l
 | _=>false
def D.pls:List D->Bool
 | []=>true
 | d::l=>d.pl&&D.pls l
end
theorem D.pls_iff:∀{l:List D},D.pls l=true↔∀d∈l,d.pl=true
 | []=>by simp [D.pls]
 | d::l=>by simp [D.pls,D.pls_iff (l:=l)]
mutual
theorem znc:∀(d e:D),d.pl=true->e.pl=true->(d.py.eqv e.py=true↔d=e)
 | .non,e,_,h=>by cases e<;>simp [D.py,PyData.eqv,D.pl] at h ⊢
 | .int i,e,_,h=>by cases e<;>simp [D.py,PyData.eqv,D.pl] at h ⊢
 | .str x,e,_,h=>by cases e<;>simp [D.py,PyData.eqv,D.pl] at h ⊢
 | .tup l,e,hd,h=>by
  cases e with
  | tup k =>
   simp only [D.py,PyData.eqv,D.pl] at hd h ⊢;rw [zhA l k hd h];simp
  | _=>simp [D.py,PyData.eqv,D.pl] at h ⊢
 | .lst l,e,hd,h=>by
  cases e with
  | lst k =>
   simp only [D.py,PyData.eqv,D.pl] at hd h ⊢;rw [zhA l k hd h];simp
  | _=>simp [D.py,PyData.eqv,D.pl] at h ⊢
 | .bl _,_,hd,_=>by simp [D.pl] at hd
 | .dic _,_,hd,_=>by simp [D.pl] at hd
 | .ref _,_,hd,_=>by simp [D.pl] at hd
 | .exc _,_,hd,_=>by simp [D.pl] at hd
 | .scr _,_,hd,_=>by simp [D.pl] at hd
theorem zhA:∀(l k:List D),D.pls l=true->D.pls k=true->(PyData.eqvAll (D.pys l) (D.pys k)=true↔l=k)
 | [],[],_,_=>by simp [D.pys,PyData.eqvAll]
 | [],_::_,_,_=>by simp [D.pys,PyData.eqvAll]
 | _::_,[],_,_=>by simp [D.pys,PyData.eqvAll]
 | d::l,e::k,h1,h2=>by
  simp only [D.pls,Bool.and_eq_true] at h1 h2;simp only [D.pys,PyData.eqvAll,Bool.and_eq_true,List.cons.injEq];rw [znc d e h1.1 h2.1,zhA l k h1.2 h2.2]
end
end S2
namespace S2
open PySem
open L2 hiding D
@[simp] theorem zoG{n:Nat}{i:Int}:D.fit n (.int i)=true:=by cases n<;>rfl
@[simp] theorem ztB{n:Nat}:D.fit n .non=true:=by cases n<;>rfl
@[simp] theorem ztA{n:Nat}{l:List D}:D.fit (n+1) (.tup l)=D.fits n l:=(rfl)
@[simp] theorem ztC{n:Nat}{l:List D}:D.fit (n+1) (.lst l)=D.fits n l:=(rfl)
@[simp] theorem zr4{n:Nat}:D.fits n []=true:=by cases n<;>rfl
@[simp] theorem zrl{n:Nat}{d:D}{l:List D}:D.fits n (d::l)=(d.fit n&&D.fits n l):=by cases n<;>rfl
@[simp] theorem zwg{i j:Int}:eqD (.int i) (.int j)=some (.bl (decide (i=j))):=by
 unfold eqD zjU;simp [D.py,PyData.eqv]
 cases h:(i == j)<;>simp_all
@[simp] theorem zv4{i j:Int}:neD (.int i) (.int j)=some (.bl (!decide (i=j))):=by
 unfold neD zjU;simp [D.py,PyData.eqv]
 cases h:(i == j)<;>simp_all
theorem zfD{l:List Int}:eqD (.scr l) (.lst [])=some (.bl (decide (l=[]))):=by
 cases l with
 | nil=>rfl
 | cons a l=>simp [eqD,D.fit,D.fits,zjU,D.py,D.pys,PyData.eqv,PyData.eqvAll]
def zi7(l:List Int)(k:Int):Int:=if k<l.length then l.getD k.toNat 0 else if l=[] then 0 else l.getD (k % l.length).toNat 0*31+k
def zb7(l:List Int)(k:Int)(many:Int):Int :=
 let d:=(zi7 l k+6151*(k+1))*40692 % 2147483399
 (d*d+d / 31) % 2147483629 % many
theorem zcs(l:List Int)(k:Int){many:Int}(h:0<many):0<=zb7 l k many/\zb7 l k many<many:=⟨Int.emod_nonneg _ (by omega),Int.emod_lt_of_pos _ h⟩
@[simp] theorem zvL:zb8 31=true:=by decide
@[simp] theorem zr5:zb8 6151=true:=by decide
@[simp] theorem zro:zb8 40692=true:=by decide
theorem zrn{i:Int}(h0:-(2 ^ 64)<i)(h:i<2 ^ 64):zb8 i=true:=by unfold zb8;simp;omega
theorem zlG{l:List Int}{k:Int}{S:Sto}(hk:0<=k):zbI [.scr l,.int k] S=.ok (.int (zi7 l k)) S:=by
 unfold zi7
 by_cases h:k<l.length
 ·have hx:l[k.toNat]?=some l[k.toNat]:=List.getElem?_eq_getElem (by omega);rw [if_pos h,List.getD_eq_getElem?_getD,hx];simp [zbI,zaq,zca,h,zgl hk,hx]
 ·by_cases h0:l=[]
  ·subst h0;simp [zbI,zaq,zca,zfD,show ¬ k<0 by omega]
  ·have hl:0<l.length:=by cases l with | nil=>exact absurd rfl h0 | cons _ _=>simp
   have hm0:0<=k % (l.length:Int):=Int.emod_nonneg _ (by omega);have hm1:k % (l.length:Int)<l.length:=Int.emod_lt_of_pos _ (by omega);have hx:l[(k % (l.length:Int)).toNat]?=some (l[(k % (l.length:Int)).toNat]'(by omega)):=List.getElem?_eq_getElem (by omega);rw [if_neg h,if_neg h0,List.getD_eq_getElem?_getD,hx];simp [zbI,zaq,zca,h,h0,zfD,zgl hm0,hx,hl]
theorem zci{l:List Int}{k many:Int}{S:Sto}(hk:0<=k)(hm:0<many):zaw [.scr l,.int k,.int many] S=.ok (.int (zb7 l k many)) S:=by
 unfold zb7;have h0:0<=(zi7 l k+6151*(k+1))*40692 % 2147483399:=Int.emod_nonneg _ (by omega);have h1:(zi7 l k+6151*(k+1))*40692 % 2147483399<2147483399:=Int.emod_lt_of_pos _ (by omega);have hf:zb8 ((zi7 l k+6151*(k+1))*40692 % 2147483399)=true:=zrn (by omega) (by omega);simp [zaw,zaq,zdI,zlG hk,hf,hm]
def zak(t:List Int):D:=.tup (t.map D.int)
theorem zmj{t u:List Int}:t.map D.int=u.map D.int↔t=u:=by
 constructor
 ·intro h
  induction t generalizing u with
  | nil=>cases u with | nil=>rfl | cons _ _=>cases h
  | cons a t ih=>cases u with
   | nil=>cases h
   | cons b u =>
    simp only [List.map_cons,List.cons.injEq,D.int.injEq] at h;rw [h.1,ih h.2]
 ·rintro rfl;rfl
theorem zlu{t u:List Int}:zak t=zak u↔t=u:=by unfold zak;rw [D.tup.injEq];exact zmj
theorem zlN{t:List Int}:D.pls (t.map D.int)=true:=by rw [D.pls_iff];intro d hd;obtain ⟨i,_,rfl⟩:=List.mem_map.mp hd;rfl
theorem zj1{t:List Int}:(zak t).pl=true:=zlN
theorem zkO{n:Nat}{t:List Int}:D.fits n (t.map D.int)=true:=by rw [D.fits_iff];intro d hd;obtain ⟨i,_,rfl⟩:=List.mem_map.mp hd;exact zoG
theorem ziq{n:Nat}{t:List Int}:(zak t).fit (n+1)=true:=zkO
theorem zm1{d:D}:∀{l:List D},d.pl=true->D.pls l=true->(zkl d l=true↔d∈l)
 | [],_,_=>by simp [zkl]
 | e::l,h,hl=>by
  simp only [D.pls,Bool.and_eq_true] at hl;have ih:=zm1 (d:=d) (l:=l) h hl.2;have e1:=znc e d hl.1 h;unfold zkl;simp only [List.any_cons,Bool.or_eq_true,List.mem_cons];unfold zkl at ih;rw [ih];unfold zjU;rw [e1]
  constructor<;>(intro z;rcases z with z | z<;>simp [z])
theorem zgQ{t:List Int}{ts:Z2}:zom (zak t) (.lst (ts.map zak))=some (.bl (!decide (t∈ts))):=by
 have f1:(zak t).fit 8=true:=ziq
 have f2:D.fits 8 (ts.map zak)=true:=by rw [D.fits_iff];intro d hd;obtain ⟨i,_,rfl⟩:=List.mem_map.mp hd;exact ziq
 have p2:D.pls (ts.map zak)=true:=by rw [D.pls_iff];intro d hd;obtain ⟨i,_,rfl⟩:=List.mem_map.mp hd;exact zj1
 have m:=zm1 (d:=zak t) zj1 p2
 have:(zak t∈ts.map zak)↔t∈ts:=by
  rw [List.mem_map];constructor
  ·rintro ⟨u,hu,e⟩;rw [<-zlu.mp e];exact hu
  ·intro h;exact ⟨t,h,rfl⟩
 rw [this] at m;unfold zom;simp only [zjE,f1,f2,Bool.and_self,if_true,Option.some.injEq,D.bl.injEq];congr 1
 by_cases h:t∈ts
 ·rw [m.mpr h];simp [h]
 ·cases hm:zkl (zak t) (ts.map zak)
  ·simp [h]
  ·exact absurd (m.mp hm) h
structure Tiles(most:Int)(ts:Z2):Prop where
 ne:1<=ts.length
 le:(ts.length:Int)<=most
 four:∀t∈ts,t.length=4
 col:∀t∈ts,∀c∈t,0<=c/\c<3
 nd:ts.Nodup
theorem zcV{hi:Int}{k:Nat}{d:D}(h:(zaC 0 hi)[k]?=some d):d=.int k/\(k:Int)<hi:=by
 unfold zaC at h;rw [List.getElem?_map] at h
 cases hr:(List.range (hi-0).toNat)[k]? with
 | none=>rw [hr] at h;cases h
 | some j =>
  rw [hr] at h;obtain ⟨h1,h2⟩:=List.getElem?_eq_some_iff.mp hr;simp at h1 h2;subst h2;simp at h;exact ⟨h.symm,by omega⟩
@[simp] theorem zjS{hi:Int}:(zaC 0 hi).length=hi.toNat:=by unfold zaC;simp
end S2
namespace S2
open PySem
open L2 hiding D
theorem zp9:zaC 0 4=[.int 0,.int 1,.int 2,.int 3]:=by rfl
@[simp] theorem zxn:zb8 4=true:=by decide
@[simp] theorem zxm:zb8 7=true:=by decide
theorem znq{l:List Int}{at' most col k:Int}{S:Sto}{ts:Z2}{y:Option (Bool×D)}(ha:0<=at')(hk:0<=k)(hc:0<col)(hc3:col<=3)(hn:ts.length<=1000) :
  ∃t y',t.length=4/\(∀c∈t,0<=c/\c<3)/\zbc [some (false,.scr l),some (false,.int at'),some (false,.int most),some (false,.int col),some (true,.lst (ts.map zak)),some (false,.int k),y] S
   = .nx [some (false,.scr l),some (false,.int at'),some (false,.int most),some (false,.int col),some (true,.lst ((if t∈ts then ts else ts++[t]).map zak)),some (false,.int k),y'] S:=by
 have hcomp:∀ρ0:Env,ρ0=[none,some (false,.int at'),some (false,.int col),some (false,.int k),some (false,.scr l)]->zbY (.one 0) zet (eFn zaw [(zad 4),(zai zcg (zai zcg (zai zcg (zao 1) (zai zfv (zaj (.int 4)) (zao 3))) (zaj (.int 2))) (zao 0)),(zad 2)]) ρ0 (zaC 0 4) S
   = .ok ([zb7 l (at'+4*k+2+0) col,zb7 l (at'+4*k+2+1) col,zb7 l (at'+4*k+2+2) col,zb7 l (at'+4*k+2+3) col].map D.int) S:=by
  rintro _ rfl;rw [zp9,zbS (g:=fun d=>match d with | .int i=>.int (zb7 l (at'+4*k+2+i) col) | _=>.non)]
  ·rfl
  ·intro d hd;simp only [List.mem_cons,List.not_mem_nil,or_false] at hd
   rcases hd with rfl | rfl | rfl | rfl<;>exact ⟨_,rfl,by simp;rw [zci (by omega) hc]⟩
 have b0:=zcs l (at'+4*k+2+0) hc;have b1:=zcs l (at'+4*k+2+1) hc;have b2:=zcs l (at'+4*k+2+2) hc;have b3:=zcs l (at'+4*k+2+3) hc;generalize zb7 l (at'+4*k+2+0) col=p0 at *;generalize zb7 l (at'+4*k+2+1) col=p1 at *;generalize zb7 l (at'+4*k+2+2) col=p2 at *;generalize zb7 l (at'+4*k+2+3) col=p3 at *
 have fin:∀t:List Int,(zal (sFz [] (sIf (zai zom (zao 6) (zao 4)) (zal (sFz [6] (zjJ 4 (zad 6))) sNx) sNx)) sNx) [some (false,.scr l),some (false,.int at'),some (false,.int most),some (false,.int col),some (true,.lst (ts.map zak)),some (false,.int k),some (false,zak t)] S
   = .nx [some (false,.scr l),some (false,.int at'),some (false,.int most),some (false,.int col),some (true,.lst ((if t∈ts then ts else ts++[t]).map zak)),some (false,.int k),some (false,zak t)] S:=by
  intro t
  by_cases h:t∈ts
  ·simp [zgQ,h]
  ·simp [zgQ,h,show ts.length<=100000 by omega]
 by_cases h3:zb7 l (at'+60+k) 3=0
 ·refine ⟨[p0,p1,p0,p1],some (false,zak [p0,p1,p0,p1]),rfl,by simp;omega,?_⟩;rw [<-fin];simp [zbc,hcomp,zci (show 0<=at'+60+k by omega) (show (0:Int)<3 by omega),h3];rfl
 ·refine ⟨[p0,p1,p2,p3],some (false,zak [p0,p1,p2,p3]),rfl,by simp;omega,?_⟩;rw [<-fin];simp [zbc,hcomp,zci (show 0<=at'+60+k by omega) (show (0:Int)<3 by omega),h3];rfl
theorem zjK{l:List Int}{at' most:Int}{S:Sto}(ha:0<=at')(hm:0<most)(hm2:most<=100):∃ts,Tiles most ts/\zcj [.scr l,.int at',.int most] S=.ok (.tup (ts.map zak)) S:=by
 have b:=zcs l at' (many:=2) (by omega);have n:=zcs l (at'+1) hm;have p1:=zci (l:=l) (S:=S) ha (show (0:Int)<2 by omega);have p2:=zci (l:=l) (S:=S) (show 0<=at'+1 by omega) hm;generalize zb7 l at' 2=c at *;generalize zb7 l (at'+1) most=m at *
 obtain ⟨ρ',e,ts,x,y,rfl,h1,h2,h3,h4,h5⟩:=zdT (tg:=.one 5) (body:=zbc) (ds:=zaC 0 (1+m)) (S:=S) (fun k ρ=>∃ts x y,ρ=[some (false,.scr l),some (false,.int at'),some (false,.int most),some (false,.int (2+c)),some (true,.lst (ts.map zak)),x,y]/\ts.length<=k/\(0<k->1<=ts.length)/\(∀t∈ts,t.length=4)/\(∀t∈ts,∀c∈t,0<=c/\c<3)/\ts.Nodup) (by
   rintro k d ρ hd ⟨ts,x,y,rfl,h1,h2,h3,h4,h5⟩;obtain ⟨rfl,hk⟩:=zcV hd;obtain ⟨t,y',a1,a2,a3⟩:=znq (l:=l) (at':=at') (most:=most) (col:=2+c) (k:=k) (S:=S) (ts:=ts) (y:=y) ha (by omega) (by omega) (by omega) (by omega);refine ⟨_,_,rfl,a3,_,_,_,rfl,?_,?_,?_,?_,?_⟩
   ·split<;>(try simp)<;>omega
   ·intro _;split
    ·rename_i h;exact List.length_pos_of_mem h
    ·simp
   ·intro u hu;split at hu
    ·exact h3 u hu
    ·rw [List.mem_append,List.mem_singleton] at hu
     rcases hu with hu | rfl
     ·exact h3 u hu
     ·exact a1
   ·intro u hu;split at hu
    ·exact h4 u hu
    ·rw [List.mem_append,List.mem_singleton] at hu
     rcases hu with hu | rfl
     ·exact h4 u hu
     ·exact a2
   ·split
    ·exact h5
    ·rename_i h;rw [List.nodup_append];refine ⟨h5,by simp,?_⟩
     intro a ha b hb;rw [List.mem_singleton] at hb;subst hb;rintro rfl;exact h ha)
  (ρ:=[some (false,.scr l),some (false,.int at'),some (false,.int most),some (false,.int (2+c)),some (true,.lst []),none,none]) ⟨[],none,none,rfl,by simp,by simp,by simp,by simp,by simp⟩
 rw [zjS] at h1 h2;refine ⟨ts,⟨h2 (by omega),by omega,h3,h4,h5⟩,?_⟩;simp [zcj,zaq,zc6,p1,p2,show -1000000<=1+m/\1+m<=1000000 by omega,e]
end S2
namespace S2
open PySem
open L2 hiding D
def oD:Option Int->D | none=>.non | some i=>.int i
def zdv(c:Nat)(g:Nat->Option Int):List D:=(List.range c).map fun j=>oD (g j)
def zfq(c:Nat)(g:Nat->Option Int):D:=.tup (zdv c g)
def zcG(r c:Nat)(g:Z1):List D:=(List.range r).map fun i=>zfq c (g i)
def flr(r c:Nat)(g:Z1):D:=.tup (zcG r c g)
@[simp] theorem zde{c:Nat}{g:Nat->Option Int}:(zdv c g).length=c:=by simp [zdv]
@[simp] theorem zdj{r c:Nat}{g:Z1}:(zcG r c g).length=r:=by simp [zcG]
theorem zfY{c j:Nat}{g:Nat->Option Int}(h:j<c):(zdv c g)[j]?=some (oD (g j)):=by simp [zdv,h]
theorem zdk{r c i:Nat}{g:Z1}(h:i<r):(zcG r c g)[i]?=some (zfq c (g i)):=by simp [zcG,h]
@[simp] theorem zsP{c j:Nat}{g:Nat->Option Int}(h:j<(zdv c g).length):(zdv c g)[j]=oD (g j):=by simp [zdv]
@[simp] theorem zty{r c i:Nat}{g:Z1}(h:i<(zcG r c g).length):(zcG r c g)[i]=zfq c (g i):=by simp [zcG]
theorem zjQ{k:Nat}{g:Nat->Option Int}:zdv (k+1) g=zdv k g++[oD (g k)]:=by simp [zdv,List.range_succ]
theorem zkN{k c:Nat}{g:Z1}:zcG (k+1) c g=zcG k c g++[zfq c (g k)]:=by simp [zcG,List.range_succ]
def zjd(l:List Int)(at' n m:Int)(i j:Nat):Option Int:=if zb7 l (at'+7*i+j) (n*m)<n then some (zb7 l (at'+7*i+j) (n*m)) else none
theorem zqQ{l:List Int}{at' n m:Int}{i j:Nat}(h:0<n*m):∀x,zjd l at' n m i j=some x->0<=x/\x<n:=by
 intro x e;unfold zjd at e;have:=zcs l (at'+7*i+j) h;split at e
 ·cases e;omega
 ·cases e
theorem zmp{l:List Int}{at' m:Int}{ts:List D}{r c:Nat}{i:Nat}{S:Sto}{A B Mm:Option (Bool×D)}{y:Option (Bool×D)}{z:Option (Bool×D)}(ha:0<=at')(hp:0<(ts.length:Int)*m)(hm:zb8 m=true)(hc:c<=1000) :
  ∃y' z',zef (.one 9) zbd (zaC 0 c) [some (false,.scr l),some (false,.int at'),some (false,.tup ts),A,B,some (false,.int m),Mm,some (false,.int i),some (true,.lst []),y,z] S
   = .nx [some (false,.scr l),some (false,.int at'),some (false,.tup ts),A,B,some (false,.int m),Mm,some (false,.int i),some (true,.lst (zdv c (zjd l at' ts.length m i))),y',z'] S:=by
 obtain ⟨ρ',e,y',z',rfl⟩:=zdT (tg:=.one 9) (body:=zbd) (ds:=zaC 0 c) (S:=S) (fun k ρ=>∃y z,ρ=[some (false,.scr l),some (false,.int at'),some (false,.tup ts),A,B,some (false,.int m),Mm,some (false,.int i),some (true,.lst (zdv k (zjd l at' ts.length m i))),y,z]) (by
  rintro k d ρ hd ⟨y,z,rfl⟩;obtain ⟨rfl,hk⟩:=zcV hd;have p:=zci (l:=l) (S:=S) (show 0<=at'+7*(i:Int)+(k:Int) by omega) hp;have pn:=zcs l (at'+7*(i:Int)+(k:Int)) hp;refine ⟨_,_,rfl,?_,some (false,.int k),some (false,.int (zb7 l (at'+7*i+k) (ts.length*m))),rfl⟩
  ·rw [zjQ]
   by_cases h:zb7 l (at'+7*(i:Int)+(k:Int)) (ts.length*m)<ts.length
   ·simp [zbd,p,hm,h,zjd,oD,show k<=100000 by omega]
   ·simp [zbd,p,hm,h,zjd,oD,show k<=100000 by omega])
  (ρ:=[some (false,.scr l),some (false,.int at'),some (false,.tup ts),A,B,some (false,.int m),Mm,some (false,.int i),some (true,.lst []),y,z]) ⟨y,z,rfl⟩
 exact ⟨y',z',by simpa using e⟩
theorem zjP{l:List Int}{at' m:Int}{ts:List D}{r c:Int}{S:Sto}(ha:0<=at')(hp:0<(ts.length:Int)*m)(hm:zb8 m=true)(hr:0<=r)(hr2:r<=1000)(hc:0<=c)(hc2:c<=1000) :
  zcl [.scr l,.int at',.tup ts,.int r,.int c,.int m] S=.ok (flr r.toNat c.toNat (zjd l at' ts.length m)) S:=by
 obtain ⟨r,rfl⟩:=Int.eq_ofNat_of_zero_le hr;obtain ⟨c,rfl⟩:=Int.eq_ofNat_of_zero_le hc
 obtain ⟨ρ',e,x1,x2,x3,x4,rfl⟩:=zdT (tg:=.one 7) (body:=zcx) (ds:=zaC 0 r) (S:=S) (fun k ρ=>∃x1 x2 x3 x4,ρ=[some (false,.scr l),some (false,.int at'),some (false,.tup ts),some (false,.int r),some (false,.int c),some (false,.int m),some (true,.lst (zcG k c (zjd l at' ts.length m))),x1,x2,x3,x4]) (by
  rintro k d ρ hd ⟨x1,x2,x3,x4,rfl⟩;obtain ⟨rfl,hk⟩:=zcV hd;obtain ⟨y',z',e⟩:=zmp (l:=l) (at':=at') (m:=m) (ts:=ts) (r:=r) (c:=c) (i:=k) (S:=S) (A:=some (false,.int r)) (B:=some (false,.int c)) (Mm:=some (true,.lst (zcG k c (zjd l at' ts.length m)))) (y:=x3) (z:=x4) ha hp hm (by omega);refine ⟨_,_,rfl,?_,some (false,.int k),some (true,.lst (zdv c (zjd l at' ts.length m k))),y',z',rfl⟩
  ·rw [zkN]
   simp [zcx,e,zfq,show -1000000<=(c:Int)/\(c:Int)<=1000000 by omega,show k<=100000 by omega])
  (ρ:=[some (false,.scr l),some (false,.int at'),some (false,.tup ts),some (false,.int r),some (false,.int c),some (false,.int m),some (true,.lst []),none,none,none,none]) ⟨none,none,none,none,rfl⟩
 simp at e;simp [zcl,zaq,zc8,e,flr,show -1000000<=(r:Int)/\(r:Int)<=1000000 by omega]
end S2
namespace S2
open PySem
open L2 hiding D
abbrev plD(i j:Nat):D:=.tup [.int i,.int j]
def zce(r c:Nat):List D:=(List.range r).flatMap fun i=>(List.range c).map fun j=>plD i j
theorem zgI{k c:Nat}:zce (k+1) c=zce k c++(List.range c).map fun j=>plD k j:=by simp [zce,List.range_succ]
theorem zcC{r c:Nat}{d:D}(h:d∈zce r c):∃i j,i<r/\j<c/\d=plD i j:=by
 simp only [zce,List.mem_flatMap,List.mem_range,List.mem_map] at h;obtain ⟨i,hi,j,hj,e⟩:=h;exact ⟨i,j,hi,hj,e.symm⟩
theorem zqi{r c i j:Nat}(hi:i<r)(hj:j<c):plD i j∈zce r c:=by
 simp only [zce,List.mem_flatMap,List.mem_range,List.mem_map];exact ⟨i,hi,j,hj,rfl⟩
theorem zf0{r c:Nat}:(zce r c).length=r*c:=by
 induction r with
 | zero=>simp [zce]
 | succ k ih=>rw [zgI,List.length_append,ih];simp [Nat.succ_mul]
theorem zcA{r c:Nat}{g:Z1}{S:Sto}(h:1<=r):zbs [flr r c g] S=.ok (.tup [.int r,.int c]) S:=by
 have e:=zdk (c:=c) (g:=g) (i:=0) (r:=r) (by omega);simp [zbs,zaq,zfd,flr,e,zfq,show 0<r by omega]
theorem zd6{r c:Nat}{g:Z1}{S:Sto}(h:1<=r)(hr:r<=100)(hc:c<=100):zaP [flr r c g] S=.ok (.lst (zce r c)) S:=by
 have inner:∀(k:Nat) (y:Option (Bool×D)),k<r->∃y',zef (.one 4) zb4 (zaC 0 c) [some (false,flr r c g),some (false,.tup [.int r,.int c]),some (true,.lst (zce k c)),some (false,.int k),y] S
   = .nx [some (false,flr r c g),some (false,.tup [.int r,.int c]),some (true,.lst (zce (k+1) c)),some (false,.int k),y'] S:=by
  intro k y hk
  obtain ⟨ρ',e,y',rfl⟩:=zdT (tg:=.one 4) (body:=zb4) (ds:=zaC 0 c) (S:=S) (fun j ρ=>∃y,ρ=[some (false,flr r c g),some (false,.tup [.int r,.int c]),some (true,.lst (zce k c++(List.range j).map fun j=>plD k j)),some (false,.int k),y]) (by
   rintro j d ρ hd ⟨y,rfl⟩;obtain ⟨rfl,hj⟩:=zcV hd
   have hl:k*c+j<=100000:=by
    have:k*c<=100*100:=Nat.mul_le_mul (by omega) (by omega);omega
   refine ⟨_,_,rfl,?_,some (false,.int j),rfl⟩
   simp [zb4,List.range_succ,zf0,hl])
   (ρ:=[some (false,flr r c g),some (false,.tup [.int r,.int c]),some (true,.lst (zce k c)),some (false,.int k),y]) ⟨y,by simp⟩
  refine ⟨y',?_⟩;rw [e,zgI];simp
 obtain ⟨ρ',e,x,y,rfl⟩:=zdT (tg:=.one 3) (body:=zcM) (ds:=zaC 0 r) (S:=S) (fun k ρ=>∃x y,ρ=[some (false,flr r c g),some (false,.tup [.int r,.int c]),some (true,.lst (zce k c)),x,y]) (by
  rintro k d ρ hd ⟨x,y,rfl⟩;obtain ⟨rfl,hk⟩:=zcV hd;obtain ⟨y',e⟩:=inner k y (by omega);refine ⟨_,_,rfl,?_,some (false,.int k),y',rfl⟩
  simp [zcM,e,show -1000000<=(c:Int)/\(c:Int)<=1000000 by omega])
  (ρ:=[some (false,flr r c g),some (false,.tup [.int r,.int c]),some (true,.lst []),none,none]) ⟨none,none,rfl⟩
 simp at e;simp [zaP,zaq,zdG,zcA h,e,show -1000000<=(r:Int)/\(r:Int)<=1000000 by omega]
theorem zdd{r c i j:Nat}{g:Z1}{S:Sto}(hi:i<r)(hj:j<c):zaD [flr r c g,plD i j] S=.ok (oD (g i j)) S:=by
 simp [zaD,zaq,zdH,flr,plD,zbP,zdk hi,zfY hj,zfq]
theorem zcU{l:List D}{a b:Int}{S:Sto}:zay [.tup l,.int a,.int b] S=.ok (.bl (decide (a<=l.length/\(l.length:Int)<=b))) S:=by
 by_cases h1:a<=(l.length:Int)
 ·by_cases h2:(l.length:Int)<=b<;>simp [zay,zaq,zb2,zew,h1,h2]
 ·simp [zay,zaq,zb2,zew,h1]
theorem zgE{l k:List D}{S:Sto}:zbu [.tup l,.tup k] S=.ok (.bl (decide (l.length=k.length))) S:=by
 simp [zbu,zaq,zcJ,zcU];rw [<-Bool.decide_and,decide_eq_decide];omega
theorem zo1{α:Type}{xs:List α}{p:α->Bool}:zgj (xs.map fun x=>D.bl (p x))=some (xs.map p):=by
 induction xs with
 | nil=>rfl
 | cons x xs ih=>simp [zgj,ih]
theorem all_map{α:Type}{xs:List α}{p:α->Bool}:zph [.lst (xs.map fun x=>D.bl (p x))]=some (.bl (xs.all p)):=by
 show Option.map _ (zgj _)=_;rw [zo1];simp [List.all_map]
end S2
namespace S2
open PySem
open L2 hiding D
@[simp] theorem zxo{a b:Option Int}:eqD (oD a) (oD b)=some (.bl (decide (a=b))):=by
 cases a<;>cases b<;>simp [oD]
 ·rfl
 ·rfl
 ·rfl
@[simp] theorem zuM{a:Option Int}:zc4 (oD a)=decide (a=none):=by cases a<;>simp [oD]
theorem zeK{l:List D}{n:Nat}{S:Sto}:zay [.tup l,.int n,.int n] S=.ok (.bl (decide (l.length=n))) S:=by
 rw [zcU];congr 3;apply propext;omega
theorem zlE{r c r' c':Nat}{g h:Z1}{S:Sto}(h1:1<=r)(hr:r<=1000):zcZ [flr r c g,flr r' c' h] S=.ok (.bl (decide (r'=r/\c'=c))) S:=by
 by_cases e:r'=r
 ·subst e
  have hz:zfn (zcG r' c g) (zcG r' c' h)=(List.range r').map fun i=>.tup [zfq c (g i),zfq c' (h i)]:=by
   apply List.ext_getElem?;intro i
   by_cases hi:i<r'
   ·have:i<(zfn (zcG r' c g) (zcG r' c' h)).length:=by rw [zey];simp;omega
    obtain ⟨x,y,e1,e2,e3⟩:=zfM (List.getElem?_eq_getElem this);rw [zdk hi] at e1 e2;cases e1;cases e2;rw [List.getElem?_eq_getElem this,e3];simp [hi]
   ·rw [List.getElem?_eq_none (by rw [zey];simp;omega),List.getElem?_eq_none (by simp;omega)]
  have ec:zbY (.tup [0,1]) zet (eFn zbu [(zad 0),(zad 1)]) [none,none] (zfn (zcG r' c g) (zcG r' c' h)) S=.ok ((List.range r').map fun _=>.bl (decide (c=c'))) S:=by
   rw [hz,zbS (g:=fun _=>.bl (decide (c=c')))]
   ·simp
   ·intro d hd;simp only [List.mem_map,List.mem_range] at hd;obtain ⟨i,hi,rfl⟩:=hd;exact ⟨_,rfl,by simp [zfq,zgE]⟩
  have ea:zph [.lst ((List.range r').map fun _=>.bl (decide (c=c')))]=some (.bl (decide (c'=c))):=by
   rw [all_map (p:=fun _=>decide (c=c'))]
   by_cases hc:c=c'
   ·subst hc;simp
   ·have:((List.range r').all fun _=>false)=false:=by
     cases r' with
     | zero=>omega
     | succ n=>simp [List.range_succ]
    simp only [hc,show ¬ c'=c from fun z=>hc z.symm,decide_false,this]
  simp only [List.map_const',List.length_range] at ec ea;simp [zcZ,zaq,zdW,flr,zeK,ec,ea,show r'<=100000 by omega]
 ·simp [zcZ,zaq,zdW,flr,zeK,e]
def zbL(g:Z1):D->Bool | .tup [.int i,.int j]=>(g i.toNat j.toNat).isSome | _=>false
theorem zfU{r c:Nat}{g:Z1}{S:Sto}(h:1<=r)(hr:r<=100)(hc:c<=100):zaQ [flr r c g] S=.ok (.lst ((zce r c).filter (zbL g))) S:=by
 have hl:((zce r c).filter (zbL g)).length<=100000:=by
  refine Nat.le_trans (List.length_filter_le _ _) ?_;rw [zf0];have:r*c<=100*100:=Nat.mul_le_mul hr hc;omega
 have e:zbY (.one 0) (zai zdo (eFn zaD [(zad 1),(zad 0)]) (zaj .non)) (zad 0) [none,some (false,flr r c g)] (zce r c) S=.ok ((zce r c).filter (zbL g)) S:=by
  rw [zdZ (g:=id) (p:=zbL g)]
  ·simp
  ·intro d hd;obtain ⟨i,j,hi,hj,rfl⟩:=zcC hd;refine ⟨_,rfl,?_,fun _=>by simp⟩;simp [zdd hi hj,zbL]
   cases g i j<;>rfl
 simp [zaQ,zaq,zcI,zd6 h hr hc,e,hl]
end S2
namespace S2
open PySem
open L2 hiding D
theorem zin{tg:Tg}{body:Fs}{S:Sto}{α:Type}(mk:List D->α->Env)(g:D->List D)(N:Nat):∀{ds:List D},(∀d∈ds,∀(L:List D) (x:α),L.length+(g d).length<=N->∃ρ1 x',tg.put (mk L x) d=some ρ1/\body ρ1 S=.nx (mk (L++g d) x') S) →
  ∀(L0:List D) (x0:α),L0.length+(ds.flatMap g).length<=N->∃x',zef tg body ds (mk L0 x0) S=.nx (mk (L0++ds.flatMap g) x') S
 | [],_,L0,x0,_=>⟨x0,by simp [zef]⟩
 | d::ds,step,L0,x0,hN=>by
  rw [List.flatMap_cons,List.length_append] at hN;obtain ⟨ρ1,x',e1,e2⟩:=step d List.mem_cons_self L0 x0 (by omega);obtain ⟨x2,e3⟩:=zin mk g N (ds:=ds) (fun d hd=>step d (List.mem_cons_of_mem _ hd)) (L0++g d) x' (by rw [List.length_append];omega);refine ⟨x2,?_⟩;unfold zef;rw [e1];dsimp only;rw [e2];dsimp only;rw [e3,List.flatMap_cons,List.append_assoc]
end S2
namespace S2
open PySem
open L2 hiding D
structure TOk(ts:Z2):Prop where
 four:∀t∈ts,t.length=4
 le:ts.length<=100
def zbF(ts:Z2)(n:Int)(s:Nat):Int:=(ts.getD n.toNat []).getD s 0
theorem zjj{ts:Z2}(ht:TOk ts){n:Int}(h0:0<=n)(h1:n<ts.length):atI (ts.map zak) n=some (.tup ([zbF ts n 0,zbF ts n 1,zbF ts n 2,zbF ts n 3].map D.int)):=by
 rw [zgl h0,List.getElem?_map,List.getElem?_eq_getElem (by omega)];have h4:=ht.four _ (List.getElem_mem (show n.toNat<ts.length by omega))
 have e:ts.getD n.toNat []=ts[n.toNat]:=by rw [List.getD_eq_getElem?_getD,List.getElem?_eq_getElem (by omega)];rfl
 unfold zbF;rw [e];generalize ts[n.toNat]=t at *
 match t,h4 with
 | [a,b,c,d],_=>rfl
theorem zb6{i:Int}{S:Sto}:zbk [.int i] S=.ok (.bl true) S:=by simp [zbk,zaq,zdl,zew]
theorem zhk{S:Sto}:zbk [.non] S=.ok (.bl false) S:=by simp [zbk,zaq,zdl,zew]
theorem zdt{ts:List D}{o:Option Int}{S:Sto}(h:∀x,o=some x->0<=x/\x<ts.length):zbl [.tup ts,oD o] S=.ok (.bl o.isSome) S:=by
 cases o with
 | none=>simp [zbl,zaq,zco,oD,zhk]
 | some x=>obtain ⟨h0,h1⟩:=h x rfl;simp [zbl,zaq,zco,oD,zb6,h0,h1]
theorem zfV{r c:Nat}{g:Z1}{i j:Int}{S:Sto}(h1:1<=r):za1 [flr r c g,.tup [.int i,.int j]] S=.ok (.bl (decide ((0<=i/\i<r)/\0<=j/\j<c))) S:=by
 have ht:zay [.tup [.int i,.int j],.int 2,.int 2] S=.ok (.bl true) S:=by rw [zcU];simp
 by_cases a:0<=i
 ·by_cases b:i<r
  ·by_cases d:0<=j
   ·by_cases e:j<c<;>simp [za1,zaq,zbM,ht,zb6,zcA h1,a,b,d,e]
   ·simp [za1,zaq,zbM,ht,zb6,zcA h1,a,b,d]
  ·simp [za1,zaq,zbM,ht,zb6,zcA h1,a,b]
 ·simp [za1,zaq,zbM,ht,zb6,zcA h1,a]
def InT(ts:Z2)(g:Z1):Prop:=∀i j x,g i j=some x->0<=x/\x<ts.length
def cl2:Option Int->Option Int->Bool | some a,some b=>!decide (a=b) | _,_=>false
end S2
namespace S2
open PySem
open L2 hiding D
end S2
namespace S2
open PySem
open L2 hiding D
theorem zlA(q:Int)(h0:0<=q)(h1:q<10):∃r c:Nat,1<=r/\r<=3/\1<=c/\c<=4/\r*c<=6/\atI [D.tup [.int 1,.int 1],.tup [.int 1,.int 2],.tup [.int 2,.int 1],.tup [.int 2,.int 2],.tup [.int 2,.int 2],.tup [.int 1,.int 4],.tup [.int 2,.int 3],.tup [.int 3,.int 2],.tup [.int 3,.int 1],.tup [.int 2,.int 3]] q=some (.tup [.int r,.int c]):=by
 have:q=0\/q=1\/q=2\/q=3\/q=4\/q=5\/q=6\/q=7\/q=8\/q=9:=by omega
 rcases this with rfl | rfl | rfl | rfl | rfl | rfl | rfl | rfl | rfl | rfl
 ·exact ⟨1,1,by omega,by omega,by omega,by omega,by omega,rfl⟩
 ·exact ⟨1,2,by omega,by omega,by omega,by omega,by omega,rfl⟩
 ·exact ⟨2,1,by omega,by omega,by omega,by omega,by omega,rfl⟩
 ·exact ⟨2,2,by omega,by omega,by omega,by omega,by omega,rfl⟩
 ·exact ⟨2,2,by omega,by omega,by omega,by omega,by omega,rfl⟩
 ·exact ⟨1,4,by omega,by omega,by omega,by omega,by omega,rfl⟩
 ·exact ⟨2,3,by omega,by omega,by omega,by omega,by omega,rfl⟩
 ·exact ⟨3,2,by omega,by omega,by omega,by omega,by omega,rfl⟩
 ·exact ⟨3,1,by omega,by omega,by omega,by omega,by omega,rfl⟩
 ·exact ⟨2,3,by omega,by omega,by omega,by omega,by omega,rfl⟩
theorem zjL{l:List Int}{at':Int}{S:Sto}(ha:0<=at'):∃r c:Nat,1<=r/\r<=3/\1<=c/\c<=4/\r*c<=6/\zck [.scr l,.int at'] S=.ok (.tup [.int r,.int c]) S:=by
 have p:=zci (l:=l) (S:=S) ha (show (0:Int)<10 by omega);have n:=zcs l at' (many:=10) (by omega);generalize zb7 l at' 10=q at *;obtain ⟨r,c,h1,h2,h3,h4,h5,e⟩:=zlA q n.1 n.2;refine ⟨r,c,h1,h2,h3,h4,h5,?_⟩;simp [zck,zaq,zc7,p,e]
def zlm(ts:Z2)(c:Nat)(t:List Int)(n:Int):Bool:=decide ((0<t.length % c->zbF ts (t.getLastD 0) 1=zbF ts n 3)/\(c<=t.length->zbF ts (t.getD (t.length-c) 0) 2=zbF ts n 0))
def InR(ts:Z2)(t:List Int):Prop:=∀x∈t,0<=x/\x<ts.length
end S2
namespace S2
open PySem
open L2 hiding D
theorem zim{t:List Int}{n:Int}{m:Nat}:(t++[n]).getD m 0=if m<t.length then t.getD m 0 else if m=t.length then n else 0:=by
 simp only [List.getD_eq_getElem?_getD]
 by_cases h:m<t.length
 ·rw [List.getElem?_append_left h,if_pos h]
 ·rw [List.getElem?_append_right (by omega),if_neg h]
  by_cases e:m=t.length
  ·subst e;simp
  ·rw [if_neg e,List.getElem?_eq_none (by simp;omega)];rfl
def unI:D->Int | .int i=>i | _=>0
section
variable{ts:Z2}{c:Nat}{S:Sto}{s1 s3 s4:Option (Bool×D)}
end
end S2
namespace S2
open PySem
open L2 hiding D
theorem znT{c:Nat}:(List.replicate c [D.non]).flatten=zdv c fun _=>none:=by
 simp [zdv,oD,List.flatten_replicate_singleton,List.map_const']
theorem znU{r c:Nat}:(List.replicate r [D.tup (zdv c fun _=>none)]).flatten=zcG r c fun _ _=>none:=by
 simp [zcG,zfq,List.flatten_replicate_singleton,List.map_const']
def zwp:D->List D | .tup l=>l | _=>[]
end S2
namespace S2
open PySem
open L2 hiding D
theorem zjR{n:Nat}{f:D->D}:(zaC 0 (n:Int)).map f=(List.range n).map fun k:Nat=>f (.int k):=by
 simp [zaC,List.map_map,Function.comp_def]
end S2
namespace S2
open PySem
open L2 hiding D
def zvy(und:Str->Str->Bool)(C:Str)(i j:Nat):Fo->Fo
 | .ex c ρ' S'=>if und c C&&decide (i<ρ'.length) then .nx ((ρ'.set j (some (false,.exc c))).set i none) S' else .bad
 | o=>o
section
variable{ρ:Env}{S:Sto}{f g:Fe}{a:Fs}
@[simp] theorem zuT{und:Str->Str->Bool}{C:Str}{i j:Nat}:zvy und C i j (.nx ρ S)=.nx ρ S:=(rfl)
@[simp] theorem zuS{und:Str->Str->Bool}{C c:Str}{i j:Nat}:zvy und C i j (.ex c ρ S)=if und c C&&decide (i<ρ.length) then .nx ((ρ.set j (some (false,.exc c))).set i none) S else .bad:=(rfl)
@[simp] theorem zwb{w:Str->Str->Option Bool}{C c:Str}:zxe w C (.exc c)=(w c C).map .bl:=(rfl)
@[simp] theorem zt9{c:Str}:zc4 (.exc c)=false:=(rfl)
@[simp] theorem zt8{l:List D}:zc4 (.lst l)=false:=(rfl)
@[simp] theorem zud{l:List D}{j:Int}:ziU (.lst l) (.int j)=if decide (0<=j/\j<=1000/\l.length<=1000) then some (.lst (List.replicate j.toNat l).flatten) else none:=(rfl)
end
abbrev Gf:=Nat->Nat->Option Int
def ov(g h:Gf):Gf:=fun i j=>(h i j).or (g i j)
def un(g h:Gf):Gf:=fun i j=>if (h i j).isSome then none else g i j
end S2
namespace S2
open PySem
open L2 hiding D
theorem zkM{r c:Nat}{g h:Z1}(e:∀i j,i<r->j<c->g i j=h i j):flr r c g=flr r c h:=by
 unfold flr zcG zfq zdv;congr 1;apply List.map_congr_left;intro i hi;congr 1;apply List.map_congr_left;intro j hj;rw [e i j (List.mem_range.mp hi) (List.mem_range.mp hj)]
end S2
namespace S2
open PySem
open L2 hiding D
end S2
namespace S2
open PySem
open L2 hiding D
def zvE(c f:Str):Out D->Out D | .ok d S=>(match zfj c f d S with | some r=>.ok r S | none=>.bad) | .exc c S=>.exc c S | .bad=>.bad
def zij(G:List D->Sto->Out D)(d:D):Out (List D)->Out D | .ok ds S=>G (d::ds) S | .exc c S=>.exc c S | .bad=>.bad
def zq8(c m:Str)(G:List D->Sto->Out D)(fs:List Fe)(ρ:Env):Out D->Out D | .ok d S=>if zcz c m d S then zij G d (zan fs ρ S) else .bad | .exc c S=>.exc c S | .bad=>.bad
def zr0(n:Nat):Out D->Out D | .ok r S=>(match r with | .non=>.ok (.ref n) S | _=>.bad) | .exc c S=>.exc c S | .bad=>.bad
def kMk(c:Str)(dds:List D)(G:List D->Sto->Out D):Out (List D)->Out D | .ok ds S=>zr0 S.length (G (.ref S.length::(ds++dds)) (S++[⟨c,[]⟩])) | .exc c S=>.exc c S | .bad=>.bad
def zmb(c f:Str)(dk:D):Out D->Out D | .ok d S=>(match zid dk,zfE c f d S with | some k,some (_,_,ds)=>.ok (.bl (zaK k ds).isNone) S | _,_=>.bad) | .exc c S=>.exc c S | .bad=>.bad
def zvz(c f:Str)(fo:Fe)(ρ:Env):Out D->Out D | .ok d S=>zmb c f d (fo ρ S) | .exc c S=>.exc c S | .bad=>.bad
def zvC(c f:Str)(o:Option NK):Out D->Out D | .ok d S=>(match o,zfE c f d S with | some k,some (_,_,ds)=>(match zaK k ds with | some r=>.ok r S | none=>.bad) | _,_=>.bad) | .exc c S=>.exc c S | .bad=>.bad
section
variable{ρ:Env}{S:Sto}{f g h k:Fe}
@[simp] theorem zur{c x:Str}:zeE c x f ρ S=zvE c x (f ρ S):=by unfold zeE;cases f ρ S<;>rfl
@[simp] theorem zw5{c x:Str}{d:D}:zvE c x (.ok d S)=(match zfj c x d S with | some r=>.ok r S | none=>.bad):=(rfl)
@[simp] theorem zsn{c m:Str}{G:List D->Sto->Out D}{fs:List Fe}:zbD c m G f fs ρ S=zq8 c m G fs ρ (f ρ S):=by
 unfold zbD
 cases f ρ S with
 | ok d S1 =>
  show (if zcz c m d S1 then (zan fs ρ S1).bind fun ds S2=>G (d::ds) S2 else .bad)=(if zcz c m d S1 then zij G d (zan fs ρ S1) else .bad)
  cases zan fs ρ S1<;>rfl
 | exc c S=>rfl
 | bad=>rfl
@[simp] theorem zva{c m:Str}{G:List D->Sto->Out D}{fs:List Fe}{d:D}:zq8 c m G fs ρ (.ok d S)=if zcz c m d S then zij G d (zan fs ρ S) else .bad:=(rfl)
@[simp] theorem ztb{G:List D->Sto->Out D}{d:D}{ds:List D}:zij G d (.ok ds S)=G (d::ds) S:=(rfl)
@[simp] theorem zwk{c:Str}{dds:List D}{G:List D->Sto->Out D}{fs:List Fe}:eMk c dds G fs ρ S=kMk c dds G (zan fs ρ S):=by
 unfold eMk
 cases zan fs ρ S with
 | ok ds S1 =>
  show ((G (.ref S1.length::(ds++dds)) (S1++[⟨c,[]⟩])).bind fun r S2=>match r with | .non=>.ok (.ref S1.length) S2 | _=>.bad)=zr0 S1.length (G (.ref S1.length::(ds++dds)) (S1++[⟨c,[]⟩]))
  cases G (.ref S1.length::(ds++dds)) (S1++[⟨c,[]⟩])<;>rfl
 | exc c S=>rfl
 | bad=>rfl
@[simp] theorem zxD{c:Str}{dds:List D}{G:List D->Sto->Out D}{ds:List D}:kMk c dds G (.ok ds S)=zr0 S.length (G (.ref S.length::(ds++dds)) (S++[⟨c,[]⟩])):=(rfl)
@[simp] theorem zwU{n:Nat}:zr0 n (.ok .non S)=.ok (.ref n) S:=(rfl)
@[simp] theorem zuo{c x:Str}:zmr c x f g ρ S=zvz c x g ρ (f ρ S):=by
 unfold zmr
 cases f ρ S with
 | ok d S1 =>
  show ((g ρ S1).bind fun d' S2=>match zid d,zfE c x d' S2 with | some k,some (_,_,ds)=>.ok (.bl (zaK k ds).isNone) S2 | _,_=>.bad)=zmb c x d (g ρ S1)
  cases g ρ S1<;>rfl
 | exc c S=>rfl
 | bad=>rfl
@[simp] theorem zwT{c x:Str}{d:D}:zvz c x g ρ (.ok d S)=zmb c x d (g ρ S):=(rfl)
@[simp] theorem zu9{c x:Str}{dk d:D}:zmb c x dk (.ok d S)=(match zid dk,zfE c x d S with | some k,some (_,_,ds)=>.ok (.bl (zaK k ds).isNone) S | _,_=>.bad):=(rfl)
@[simp] theorem zuq{c x:Str}{i:Nat}:zhC c x f i ρ S=zvC c x (zih ρ i) (f ρ S):=by unfold zhC;cases f ρ S<;>rfl
@[simp] theorem zw1{c x:Str}{d:D}{o:Option NK}:zvC c x o (.ok d S)=(match o,zfE c x d S with | some k,some (_,_,ds)=>(match zaK k ds with | some r=>.ok r S | none=>.bad) | _,_=>.bad):=(rfl)
end
def wOb(T Gd Sz:D)(b:Bool)(ds:List (D×D)):Ob:=⟨"Ways",[("tiles",false,T),("ground",false,Gd),("size",false,Sz),("is_round",false,.bl b),("known",true,.dic ds)]⟩
theorem zqP(o:Option Int):oDn o=oD o:=by cases o<;>rfl
structure WAt(S:Sto)(n:Nat)(ts:Z2)(gr:Z4)(r c:Nat)(b:Bool)(ds:List (D×D)):Prop where
 at_:S[n]?=some (wOb (.tup (ts.map zak)) (.lst (gr.map oD)) (.tup [.int r,.int c]) b ds)
section
variable{S:Sto}{n:Nat}{ts:Z2}{gr:Z4}{r c:Nat}{b:Bool}{ds:List (D×D)}
theorem WAt.tiles(h:WAt S n ts gr r c b ds):zfj "Ways" "tiles" (.ref n) S=some (.tup (ts.map zak)):=by
 unfold zfj;dsimp only;rw [h.at_];rfl
theorem WAt.ground(h:WAt S n ts gr r c b ds):zfj "Ways" "ground" (.ref n) S=some (.lst (gr.map oD)):=by
 unfold zfj;dsimp only;rw [h.at_];rfl
theorem WAt.size(h:WAt S n ts gr r c b ds):zfj "Ways" "size" (.ref n) S=some (.tup [.int r,.int c]):=by
 unfold zfj;dsimp only;rw [h.at_];rfl
theorem WAt.round(h:WAt S n ts gr r c b ds):zfj "Ways" "is_round" (.ref n) S=some (.bl b):=by
 unfold zfj;dsimp only;rw [h.at_];rfl
theorem WAt.known(h:WAt S n ts gr r c b ds):zfE "Ways" "known" (.ref n) S=some (n,wOb (.tup (ts.map zak)) (.lst (gr.map oD)) (.tup [.int r,.int c]) b ds,ds):=by
 unfold zfE;dsimp only;rw [h.at_];rfl
theorem WAt.meth(h:WAt S n ts gr r c b ds)(m:Str)(hm:(m == "tiles")=false/\(m == "ground")=false/\(m == "size")=false/\(m == "is_round")=false/\(m == "known")=false):zcz "Ways" m (.ref n) S=true:=by
 unfold zcz;dsimp only;rw [h.at_];obtain ⟨h1,h2,h3,h4,h5⟩:=hm;simp [wOb,List.lookup_cons,h1,h2,h3,h4,h5]
theorem WAt.len(h:WAt S n ts gr r c b ds):n<S.length:=(List.getElem?_eq_some_iff.mp h.at_).1
theorem WAt.put(h:WAt S n ts gr r c b ds)(ds':List (D×D)):WAt (S.set n (wOb (.tup (ts.map zak)) (.lst (gr.map oD)) (.tup [.int r,.int c]) b ds')) n ts gr r c b ds':=⟨by rw [List.getElem?_set_self h.len]⟩
def zav(s:Z4):D:=.tup (s.map oD)
theorem zhY{k:Int}{s:Z4}:zid (.tup [.int k,zav s])=some (k,s):=by
 have:zav s=.tup (s.map oDn):=by unfold zav;rw [show oDn=oD from funext zqP]
 rw [this];exact zcm (k,s)
theorem zio{α:Type}{a:α}:∀m:Nat,(List.replicate m [a]).flatten=List.replicate m a
 | 0=>rfl
 | m+1=>by rw [List.replicate_succ,List.flatten_cons,zio m,List.replicate_succ];rfl
theorem zdu(h:WAt S n ts gr r c b ds)(hc:c<=100):zaM [.ref n] S=.ok (zav (List.replicate (c+2) none)) S:=by
 have e:zfv (.tup [.non]) (.int ((c:Int)+2))=some (zav (List.replicate (c+2) none)):=by
  show (if _ then _ else _)=_;rw [if_pos (by simp;omega),show ((c:Int)+2).toNat=c+2 by omega,zio];simp [zav,oD]
 simp [zaM,zaq,zbN,h.size,e]
theorem zem{k:Nat}(h:WAt S n ts gr r c b ds)(hc:1<=c):za2 [.ref n,.int k] S=.ok (.bl (decide ((k+1) % c=0))) S:=by
 have e:(((k:Int)+1) % (c:Int))=(((k+1) % c:Nat):Int):=by rw [Int.natCast_emod];rfl
 have e3:(((k:Int)+1) % (c:Int)=0)=((k+1) % c=0):=propext (by rw [e];omega);simp [za2,zaq,zcb,h.size,show 0<c from hc,e3]
def crO(ts:Z2)(c k:Nat)(s:Z4)(x:Int):Option Int:=if k % c=0 then some (zbF ts x 3) else (s.getLastD none)
def ziE(ts:Z2)(L c:Nat)(b:Bool)(k:Nat)(s:Z4)(x:Int):List (Option Int) :=
 (if (k+1) % c=0 then none else some (zbF ts x 1))::((s.drop 2).dropLast++[if L<=k+c then none else some (zbF ts x 2),if b&&!decide ((k+1) % c=0) then crO ts c k s x else none])
def tl(ts:Z2)(x:Int):D:=.tup [.int (zbF ts x 0),.int (zbF ts x 1),.int (zbF ts x 2),.int (zbF ts x 3)]
def okO:Option Int->Int->Bool | none,_=>true | some a,y=>decide (a=y)
def zi3(ts:Z2)(c:Nat)(b:Bool)(k:Nat)(s:Z4)(x:Int):Bool :=
 okO (s.getD 0 none) (zbF ts x 3)&&okO (s.getD 1 none) (zbF ts x 0)&&(!b||!decide ((k+1) % c=0)||decide (some (zbF ts x 1)=crO ts c k s x))
theorem zgD{o:Option Int}{y:Int}:zeR [oD o,.int y] S=.ok (.bl (okO o y)) S:=by
 cases o<;>simp [zeR,zaq,zhy,oD,okO]
theorem zkp{s:Z4}(h:s≠[]):atI (s.map oD) (-1)=some (oD (s.getLastD none)):=by
 have hl:0<s.length:=List.length_pos_iff.mpr h;unfold atI ixN;rw [List.length_map,if_neg (by omega),if_pos (by omega)];show (s.map oD)[(-1+(s.length:Int)).toNat]?=_;rw [show (-1+(s.length:Int)).toNat=s.length-1 by omega,List.getElem?_map,List.getLastD_eq_getLast?,List.getLast?_eq_getElem?,List.getElem?_eq_getElem (by omega)];rfl
theorem zcP{k:Nat}{s:Z4}{x:Int}(h:WAt S n ts gr r c b ds)(hc:1<=c)(hs:s.length=c+2):zas [.ref n,.int k,zav s,tl ts x] S=.ok (oD (crO ts c k s x)) S:=by
 have e:((k:Int) % (c:Int))=((k % c:Nat):Int):=by rw [Int.natCast_emod]
 have e3:((k:Int) % (c:Int)=0)=(k % c=0):=propext (by rw [e];omega);have el:=zkp (s:=s) (by rintro rfl;simp at hs)
 by_cases z:k % c=0
 ·simp [zas,zaq,zaT,h.size,show 0<c from hc,e3,z,crO,tl,oD]
 ·simp [zas,zaq,zaT,h.size,show 0<c from hc,e3,z,crO,zav,el]
theorem zoO{α:Type}{l:List α}(h:3<=l.length):zex l (some 2) (some (-1))=(l.drop 2).dropLast:=by
 unfold zex
 have e1:HT.sIx l.length 0 (some 2)=2:=by
  unfold HT.sIx;simp;omega
 have e2:HT.sIx l.length l.length (some (-1))=l.length-1:=by
  unfold HT.sIx;simp;omega
 rw [e1,e2,List.dropLast_eq_take,List.length_drop];congr 1
theorem zeL{k:Nat}{s:Z4}{x:Int}(h:WAt S n ts gr r c b ds)(hc:1<=c)(hc2:c<=100)(hs:s.length=c+2):zaY [.ref n,.int k,zav s,tl ts x] S=.ok (zav (ziE ts gr.length c b k s x)) S:=by
 have e1:=zem (k:=k) h hc;have e2:=zcP (k:=k) (s:=s) (x:=x) h hc hs;have m1:=h.meth "ends_row" (by decide +kernel);have m2:=h.meth "colour_round" (by decide +kernel);have eg:((gr.length:Int)<=(k:Int)+(c:Int))=(gr.length<=k+c):=propext (by omega)
 have ec:zex (s.map oD) (some 2) (some (-1))=((s.drop 2).dropLast).map oD:=by
  rw [zoO (by rw [List.length_map];omega),List.map_dropLast,List.map_drop]
 have hl:((s.drop 2).dropLast).length<=100:=by rw [List.length_dropLast,List.length_drop,hs];omega
 unfold ziE;unfold zav at e2 ⊢;have tlE:tl ts x=.tup [.int (zbF ts x 0),.int (zbF ts x 1),.int (zbF ts x 2),.int (zbF ts x 3)]:=rfl;generalize (s.drop 2).dropLast=M at ec hl;generalize s.map oD=sd at e2 ec;generalize crO ts c k s x=cr at e2;rw [tlE] at e2 ⊢
 have l1:1+M.length<=100000:=by omega
 have l2:M.length+1+2<=100000:=by omega
 have l3:M.length+1+1+1<=100000:=by omega
 by_cases z1:(k+1) % c=0<;>by_cases z2:gr.length<=k+c<;>cases b <;>
  simp [zaY,zaq,zbz,h.size,h.ground,h.round,m1,m2,e1,e2,eg,z1,z2,ec,l1,l2,l3,oD]
end
end S2
namespace S2
open PySem
open L2 hiding D
def zia(ts:Z2):Option Int->List Int | none=>(List.range ts.length).map fun (i:Nat)=>(i:Int) | some x=>[x]
theorem zol{ts:Z2}{o:Option Int}(ho:∀x,o=some x->0<=x/\x<ts.length):∀x∈zia ts o,0<=x/\x<ts.length:=by
 intro x hx
 cases o with
 | none =>
  obtain ⟨i,hi,rfl⟩:=List.mem_map.mp hx;have:=List.mem_range.mp hi;omega
 | some y=>rw [List.mem_singleton.mp hx];exact ho y rfl
section
variable{S:Sto}{n:Nat}{ts:Z2}{gr:Z4}{r c:Nat}{b:Bool}{ds:List (D×D)}
theorem zeN{k:Nat}{o:Option Int}(h:WAt S n ts gr r c b ds)(ht:ts.length<=100)(hk:gr[k]?=some o)(ho:∀x,o=some x->0<=x/\x<ts.length):zaG [.ref n,.int k] S=.ok (.lst ((zia ts o).map D.int)) S:=by
 have e1:atI (gr.map oD) (k:Int)=some (oD o):=by rw [zbP,List.getElem?_map,hk];rfl
 have e2:=zdt (ts:=ts.map zak) (o:=o) (S:=S) (fun x hx=>by simpa using ho x hx)
 cases o with
 | none =>
  have e3:lrD (.int (ts.length:Int))=some (.lst (((List.range ts.length).map fun (i:Nat)=>(i:Int)).map D.int)):=by
   show (if decide (0<=(ts.length:Int)/\(ts.length:Int)<=1000)=true then _ else none)=_;rw [if_pos (decide_eq_true ⟨by omega,by omega⟩),Int.toNat_natCast,List.map_map];rfl
  simp [zaG,zaq,za0,h.ground,h.tiles,e1,oD,e3,zia]
 | some x =>
  simp only [oD] at e2;simp [zaG,zaq,za0,h.ground,h.tiles,e1,oD,e2,zia]
theorem zlF{k:Nat}{s:Z4}{x:Int}(h:WAt S n ts gr r c b ds)(hc:1<=c)(hs:s.length=c+2):zcB [.ref n,.int k,zav s,tl ts x] S=.ok (.bl (zi3 ts c b k s x)) S:=by
 have e1:=zem (k:=k) h hc;have e2:=zcP (k:=k) (s:=s) (x:=x) h hc hs;have m1:=h.meth "ends_row" (by decide +kernel);have m2:=h.meth "colour_round" (by decide +kernel);have m3:=h.meth "fits_round" (by decide +kernel);have tlE:tl ts x=.tup [.int (zbF ts x 0),.int (zbF ts x 1),.int (zbF ts x 2),.int (zbF ts x 3)]:=rfl
 have e3:zaL [.ref n,.int k,zav s,tl ts x] S=.ok (.bl (!b||!decide ((k+1) % c=0)||decide (some (zbF ts x 1)=crO ts c k s x))) S:=by
  have eq:∀o:Option Int,eqD (.int (zbF ts x 1)) (oD o)=some (.bl (decide (some (zbF ts x 1)=o))):=by
   intro o
   cases o with
   | none=>rfl
   | some y=>simp [oD]
  rw [tlE] at e2 ⊢;generalize zav s=sd at e2 ⊢;generalize crO ts c k s x=cr at e2 ⊢
  cases b with
  | false=>simp [zaL,zaq,za5,h.round]
  | true=>by_cases z:(k+1) % c=0<;>simp [zaL,zaq,za5,h.round,m1,m2,e1,e2,z,eq]
 have g0:(s.map oD)[0]?=some (oD (s.getD 0 none)):=by
  rw [List.getElem?_map,List.getD_eq_getElem?_getD,List.getElem?_eq_getElem (by omega)];rfl
 have g1:(s.map oD)[1]?=some (oD (s.getD 1 none)):=by
  rw [List.getElem?_map,List.getD_eq_getElem?_getD,List.getElem?_eq_getElem (by omega)];rfl
 have s0:=zgD (S:=S) (o:=s.getD 0 none) (y:=zbF ts x 3);have s1:=zgD (S:=S) (o:=s.getD 1 none) (y:=zbF ts x 0);unfold zi3;generalize (!b||!decide ((k+1) % c=0)||decide (some (zbF ts x 1)=crO ts c k s x))=rr at e3 ⊢;unfold zav at e3 ⊢;generalize s.map oD=sd at e3 g0 g1 ⊢;generalize s.getD 0 none=q0 at g0 s0 ⊢;generalize s.getD 1 none=q1 at g1 s1 ⊢;rw [tlE] at e3 ⊢
 cases h0:okO q0 (zbF ts x 3)<;>cases h1:okO q1 (zbF ts x 0)<;>rw [h0] at s0<;>rw [h1] at s1 <;>
  simp [zcB,zaq,zdJ,g0,g1,s0,s1,m3,e3]
def chD(p:Int×List (Option Int)):D:=.tup [.int p.1,zav p.2]
def chs(ts:Z2)(gr:Z4)(c:Nat)(b:Bool)(k:Nat)(s:Z4):List (Int×List (Option Int)) :=
 ((zia ts (gr.getD k none)).filter (zi3 ts c b k s)).map fun x=>(x,ziE ts gr.length c b k s x)
def chG(ts:Z2)(L c:Nat)(b:Bool)(k:Nat)(s:Z4):D->List D
 | .int x=>if zi3 ts c b k s x then [chD (x,ziE ts L c b k s x)] else []
 | _=>[]
theorem zgh{L:Nat}{k:Nat}{s:Z4}:∀l:List Int,(l.map D.int).flatMap (chG ts L c b k s)=((l.filter (zi3 ts c b k s)).map fun x=>(x,ziE ts L c b k s x)).map chD
 | []=>rfl
 | x::l=>by
  rw [List.map_cons,List.flatMap_cons,zgh l,List.filter_cons];show (if zi3 ts c b k s x then [chD (x,ziE ts L c b k s x)] else [])++_=_
  cases zi3 ts c b k s x<;>simp
theorem zeQ{k:Nat}{s:Z4}(h:WAt S n ts gr r c b ds)(ht:TOk ts)(hk:k<gr.length)(hg:∀o∈gr,∀x,o=some x->0<=x/\x<ts.length)(hc:1<=c)(hc2:c<=100)(hs:s.length=c+2) :
  za9 [.ref n,.int k,zav s] S=.ok (.lst ((chs ts gr c b k s).map chD)) S:=by
 have hk':gr[k]?=some (gr.getD k none):=by rw [List.getD_eq_getElem?_getD,List.getElem?_eq_getElem hk];rfl
 have ho:=hg _ (List.mem_of_getElem? hk');have e1:=zeN h ht.le hk' ho;have m1:=h.meth "numbers_for" (by decide +kernel);have m2:=h.meth "fits" (by decide +kernel);have m3:=h.meth "seam_behind" (by decide +kernel);have hin:=zol ho
 have hlen:(zia ts (gr.getD k none)).length<=100:=by
  cases gr.getD k none with
  | none=>simp only [zia,List.length_map,List.length_range];exact ht.le
  | some x=>simp [zia]
 unfold chs;generalize zia ts (gr.getD k none)=nums at e1 hin hlen ⊢
 have fl:((nums.map D.int).flatMap (chG ts gr.length c b k s)).length<=100:=by
  rw [zgh,List.length_map,List.length_map];exact Nat.le_trans (List.length_filter_le _ _) hlen
 obtain ⟨x',e⟩:=zin (tg:=.one 4) (body:=zaW) (S:=S) (fun L (x:Option (Bool×D)×Option (Bool×D))=>[some (false,.ref n),some (false,.int k),some (false,zav s),some (true,.lst L),x.1,x.2]) (chG ts gr.length c b k s) 50000 (ds:=nums.map D.int) (by
  intro d hd L x hL;obtain ⟨y,hy,rfl⟩:=List.mem_map.mp hd;obtain ⟨y0,y1⟩:=hin y hy;have et:=zjj ht y0 y1;have et':atI (ts.map zak) y=some (tl ts y):=et;have ef:=zlF (k:=k) (s:=s) (x:=y) h hc hs;have eb:=zeL (k:=k) (s:=s) (x:=y) h hc hc2 hs
  have hLs:L.length<=100000:=by omega
  refine ⟨_,(some (false,.int y),some (false,tl ts y)),rfl,?_⟩;show zaW [some (false,.ref n),some (false,.int k),some (false,zav s),some (true,.lst L),some (false,.int y),x.2] S=.nx [some (false,.ref n),some (false,.int k),some (false,zav s),some (true,.lst (L++(if zi3 ts c b k s y then [chD (y,ziE ts gr.length c b k s y)] else []))),some (false,.int y),some (false,tl ts y)] S
  cases hf:zi3 ts c b k s y with
  | true =>
   rw [hf] at ef;simp [zaW,h.tiles,et',m2,ef,m3,eb,chD,hLs]
  | false =>
   rw [hf] at ef
   simp [zaW,h.tiles,et',m2,ef]) [] (none,none) (by simp only [List.length_nil];omega)
 rw [zgh] at e;simp only [List.nil_append] at e;generalize ((nums.filter (zi3 ts c b k s)).map fun x=>(x,ziE ts gr.length c b k s x)).map chD=res at e ⊢;simp [za9,zaq,zcu,m1,e1,e]
end
end S2
namespace S2
open PySem
open L2 hiding D
def zii(c x:Str)(i:Nat)(ρ:Env)(r:D):Out D->Fo
 | .bad=>.bad
 | .exc c S2=>.ex c ρ S2
 | .ok d S2=>(match zih ρ i,zfE c x d S2 with
   | some k,some (n,ob,ds)=>if (zaK k ds).isNone&&decide (ds.length<=1000000)&&zeq ob then .nx ρ (S2.set n (ob.put x true (.dic (ds++[(nkD k,r)])))) else .bad
   | _,_=>.bad)
def zou(c x:Str)(f:Fe)(i:Nat)(ρ:Env):Out D->Fo
 | .bad=>.bad
 | .exc c S2=>.ex c ρ S2
 | .ok r S1=>zii c x i ρ r (f ρ S1)
@[simp] theorem zsh{c x:Str}{f g:Fe}{i:Nat}{ρ:Env}{S:Sto}:zhh c x f i g ρ S=zou c x f i ρ (g ρ S):=by
 unfold zhh zou
 cases g ρ S with
 | ok r S1=>dsimp only;unfold zii;cases f ρ S1<;>rfl
 | exc c S=>rfl
 | bad=>rfl
@[simp] theorem zu8{c x:Str}{f:Fe}{i:Nat}{ρ:Env}{S:Sto}{r:D}:zou c x f i ρ (.ok r S)=zii c x i ρ r (f ρ S):=(rfl)
theorem zkr{c x:Str}{i n:Nat}{ρ:Env}{S:Sto}{r d:D}{k:NK}{ob:Ob}{ds:List (D×D)}(hk:zih ρ i=some k)(hd:zfE c x d S=some (n,ob,ds))(h1:zaK k ds=none)(h2:ds.length<=1000000)(h3:zeq ob=true):zii c x i ρ r (.ok d S)=.nx ρ (S.set n (ob.put x true (.dic (ds++[(nkD k,r)])))):=by
 show (match zih ρ i,zfE c x d S with | some k,some (n,ob,ds)=>_ | _,_=>_)=_;rw [hk,hd];show (if _ then _ else _)=_;rw [if_pos];rw [h1,h3,decide_eq_true h2];rfl
def ways(ts:Z2)(gr:Z4)(c:Nat)(b:Bool):Nat->Nat->List (Option Int)->Nat
 | 0,_,_=>1
 | m+1,k,s=>((chs ts gr c b k s).map fun p=>ways ts gr c b m (k+1) p.2).sum
def zbK(q:Nat):Nat->Nat
 | 0=>0
 | m+1=>1+q*zbK q m
theorem zcd{k:NK}{q d:D}:∀ds:List (D×D),zaK k (ds++[(q,d)])=(zaK k ds).or (if zid q=some k then some d else none)
 | []=>by show (if _ then _ else _)=_;simp [zaK]
 | (q',d')::ds=>by
  show (if zid q'=some k then some d' else zaK k (ds++[(q,d)]))=_;rw [zcd ds];show _=(if zid q'=some k then some d' else zaK k ds).or _
  split<;>simp
def zsc(ts:Z2)(gr:Z4)(c:Nat)(b:Bool)(ds:List (D×D)):Prop:=∀(k:Nat) s d,zaK ((k:Int),s) ds=some d->d=.int (ways ts gr c b (gr.length-k) k s)
theorem zdc{S:Sto}{n:Nat}{ob:Ob}(h:S[n]?=some ob):S.set n ob=S:=by
 obtain ⟨hn,e⟩:=List.getElem?_eq_some_iff.mp h;apply List.ext_getElem?;intro i
 by_cases z:n=i
 ·subst z;rw [List.getElem?_set_self hn,h]
 ·rw [List.getElem?_set_ne z]
theorem zfh{ts:Z2}{gr:Z4}{c:Nat}{b:Bool}{k:Nat}{s:Z4}(h1:1<=ts.length):(chs ts gr c b k s).length<=ts.length:=by
 unfold chs;rw [List.length_map];refine Nat.le_trans (List.length_filter_le _ _) ?_
 cases gr.getD k none with
 | none=>simp [zia]
 | some x=>simpa [zia] using h1
theorem zlc{ts:Z2}{L c:Nat}{b:Bool}{k:Nat}{s:Z4}{x:Int}(hc:1<=c)(hs:s.length=c+2):(ziE ts L c b k s x).length=c+2:=by
 unfold ziE;rw [List.length_cons,List.length_append,List.length_dropLast,List.length_drop,hs];simp only [List.length_cons,List.length_nil];omega
theorem ziA{ts:Z2}{gr:Z4}{c:Nat}{b:Bool}{k:Nat}{s:Z4}(hc:1<=c)(hs:s.length=c+2):∀p∈chs ts gr c b k s,p.2.length=c+2:=by
 intro p hp;obtain ⟨x,_,rfl⟩:=List.mem_map.mp hp;exact zlc hc hs
theorem zjf{α:Type}{f:α->Nat}{m:Nat}:∀{l:List α},(∀x∈l,f x<=m)->(l.map f).sum<=l.length*m
 | [],_=>by simp
 | x::l,h=>by
  have h1:=h x List.mem_cons_self;have h2:=zjf (l:=l) fun y hy=>h y (List.mem_cons_of_mem _ hy)
  rw [List.map_cons,List.sum_cons,List.length_cons,Nat.add_mul];omega
theorem zjg{ts:Z2}{gr:Z4}{c:Nat}{b:Bool}(h1:1<=ts.length):∀m k s,ways ts gr c b m k s<=ts.length ^ m
 | 0,_,_=>by simp [ways]
 | m+1,k,s=>by
  unfold ways;refine Nat.le_trans (zjf fun p _=>zjg h1 m (k+1) p.2) ?_;rw [Nat.pow_succ,Nat.mul_comm];exact Nat.mul_le_mul_left _ (zfh h1)
structure CfOk(n:Nat)(ts:Z2)(gr:Z4)(r c:Nat)(b:Bool)(m:Nat)(rc:List D->Sto->Out D):Prop where
 run:∀(S:Sto) (ds:List (D×D)) (k:Nat) (s:Z4),WAt S n ts gr r c b ds->zsc ts gr c b ds->k+m=gr.length->s.length=c+2->ds.length+zbK ts.length m<=1000000 →
  ∃ds',rc [.ref n,.int k,zav s] S=.ok (.int (ways ts gr c b m k s)) (S.set n (wOb (.tup (ts.map zak)) (.lst (gr.map oD)) (.tup [.int r,.int c]) b ds'))/\zsc ts gr c b ds'/\ds'.length<=ds.length+zbK ts.length m/\∀k' s',k'<k->zaK (((k':Nat):Int),s') ds'=zaK (((k':Nat):Int),s') ds
section
variable{n:Nat}{ts:Z2}{gr:Z4}{r c:Nat}{b:Bool}
theorem ziz{m k:Nat}{rc:List D->Sto->Out D}(C:CfOk n ts gr r c b m rc)(hk:k+1+m=gr.length):∀(l:List (Int×List (Option Int))) (S:Sto) (ds:List (D×D)),(∀p∈l,p.2.length=c+2)->WAt S n ts gr r c b ds->zsc ts gr c b ds->ds.length+l.length*zbK ts.length m<=1000000 →
  ∃ds',zbY (.one 0) zet (zbD "Ways" "count_from" rc (zad 1) [(zai zcg (zao 2) (zaj (.int 1))),(zai ixD (zao 0) (zaj (.int 1)))]) [none,some (false,.ref n),some (false,.int k)] (l.map chD) S
   = .ok (l.map fun p=>.int (ways ts gr c b m (k+1) p.2)) (S.set n (wOb (.tup (ts.map zak)) (.lst (gr.map oD)) (.tup [.int r,.int c]) b ds'))/\zsc ts gr c b ds'/\ds'.length<=ds.length+l.length*zbK ts.length m/\∀k' s',k'<k+1->zaK (((k':Nat):Int),s') ds'=zaK (((k':Nat):Int),s') ds
 | [],S,ds,_,W,M,_=>⟨ds,by rw [zdc W.at_];rfl,M,by simp,fun _ _ _=>rfl⟩
 | p::l,S,ds,hl,W,M,hz=>by
  rw [List.length_cons,Nat.add_mul] at hz;obtain ⟨ds1,e1,M1,z1,u1⟩:=C.run S ds (k+1) p.2 W M hk (hl p List.mem_cons_self) (by omega);obtain ⟨ds2,e2,M2,z2,u2⟩:=ziz C hk l _ ds1 (fun q hq=>hl q (List.mem_cons_of_mem _ hq)) (W.put ds1) M1 (by omega);refine ⟨ds2,?_,M2,by rw [List.length_cons,Nat.add_mul];omega,fun k' s' hk'=>(u2 k' s' hk').trans (u1 k' s' hk')⟩;rw [List.set_set] at e2;have mo:=W.meth "count_from" (by decide +kernel);have e1':rc [.ref n,.int ((k:Int)+1),zav p.2] S=_:=e1;unfold zbY;rw [List.map_cons];dsimp only;generalize hob:wOb (.tup (ts.map zak)) (.lst (gr.map oD)) (.tup [.int r,.int c]) b ds1=ob1 at *;simp [chD,mo,e1',e2]
theorem zoU{f:Nat}:CfOk n ts gr r c b 0 (zlH 4 false zag (f+1)) where
 run:=fun S ds k s W M hk hs hz=>by
  refine ⟨ds,?_,M,Nat.le_add_right _ _,fun _ _ _=>rfl⟩;rw [zdc W.at_]
  have hk':k=gr.length:=by omega
  subst hk';show zbo 4 false (zag _) _ _=_;simp [zaq,zag,W.ground,ways]
theorem zoV{m f:Nat}(C:CfOk n ts gr r c b m (zlH 4 false zag f))(ht:TOk ts)(h1:1<=ts.length)(hg:∀o∈gr,∀x,o=some x->0<=x/\x<ts.length)(hc:1<=c)(hc2:c<=100)(hp:ts.length ^ m<=1000000):CfOk n ts gr r c b (m+1) (zlH 4 false zag (f+1)) where
 run:=fun S ds k s W M hk hs hz=>by
  have hkl:k<gr.length:=by omega
  have hne:decide ((k:Int)=(gr.length:Int))=false:=decide_eq_false (by omega);have ek:=zhY (k:=(k:Int)) (s:=s);show ∃ds',zbo 4 false (zag _) _ _=_/\_;generalize zlH 4 false zag f=rc at C
  cases hd:zaK ((k:Int),s) ds with
  | some d =>
   have hd':=M k s d hd;rw [show gr.length-k=m+1 by omega] at hd';subst hd';refine ⟨ds,?_,M,Nat.le_add_right _ _,fun _ _ _=>rfl⟩;rw [zdc W.at_];generalize zav s=sd at ek;generalize ways ts gr c b (m+1) k s=cc at hd;simp [zaq,zag,W.ground,W.known,hne,ek,hd,zih]
  | none =>
   have hcl:=zfh (gr:=gr) (c:=c) (b:=b) (k:=k) (s:=s) h1;have hmul:(chs ts gr c b k s).length*zbK ts.length m<=ts.length*zbK ts.length m:=Nat.mul_le_mul_right _ hcl;have hz':ds.length+(1+ts.length*zbK ts.length m)<=1000000:=hz;have ech:=zeQ (k:=k) (s:=s) W ht hkl hg hc hc2 hs;obtain ⟨ds1,e1,M1,z1,u1⟩:=ziz C (k:=k) (by omega) (chs ts gr c b k s) S ds (ziA hc hs) W M (by omega);have hd1:zaK ((k:Int),s) ds1=none:=(u1 k s (Nat.lt_succ_self k)).trans hd
   have hsum:znw [.lst ((chs ts gr c b k s).map fun p=>D.int (ways ts gr c b m (k+1) p.2:Nat))]=some (.int (ways ts gr c b (m+1) k s:Nat)):=by
    have ei:∀l:List (Int×List (Option Int)),zbH (l.map fun p=>D.int (ways ts gr c b m (k+1) p.2:Nat))=some (l.map fun p=>((ways ts gr c b m (k+1) p.2:Nat):Int)):=by
     intro l
     induction l with
     | nil=>rfl
     | cons p l ih=>rw [List.map_cons,List.map_cons];simp [zbH,ih]
    have es:∀l:List (Int×List (Option Int)),(l.map fun p=>((ways ts gr c b m (k+1) p.2:Nat):Int)).sum=(((l.map fun p=>ways ts gr c b m (k+1) p.2).sum:Nat):Int):=by
     intro l
     induction l with
     | nil=>rfl
     | cons p l ih=>rw [List.map_cons,List.map_cons,List.sum_cons,List.sum_cons,ih,Int.natCast_add]
    show (zbH _).bind _=_;rw [ei];show (if _ then some (D.int _) else none)=_;rw [if_pos,es]
    ·rfl
    ·rw [Bool.and_eq_true];refine ⟨decide_eq_true (by rw [List.length_map];exact Nat.le_trans hcl (Nat.le_trans ht.le (by decide))),?_⟩;rw [List.all_eq_true];intro x hx;obtain ⟨p,_,rfl⟩:=List.mem_map.mp hx;have:=zjg (gr:=gr) (c:=c) (b:=b) h1 m (k+1) p.2;exact decide_eq_true (by omega)
   have W1:=W.put ds1;have mo:=W.meth "choices" (by decide +kernel);have hlen:(chs ts gr c b k s).length<=100000:=Nat.le_trans hcl (Nat.le_trans ht.le (by decide))
   have hnd:zeq (wOb (.tup (ts.map zak)) (.lst (gr.map oD)) (.tup [.int r,.int c]) b ds1)=true:=by
    unfold zeq;show decide ((["tiles","ground","size","is_round","known"]:List Str).Nodup)=true;decide +kernel
   have hput:(wOb (.tup (ts.map zak)) (.lst (gr.map oD)) (.tup [.int r,.int c]) b ds1).put "known" true (.dic (ds1++[(nkD ((k:Int),s),.int (ways ts gr c b (m+1) k s:Nat))]))=wOb (.tup (ts.map zak)) (.lst (gr.map oD)) (.tup [.int r,.int c]) b (ds1++[(nkD ((k:Int),s),.int (ways ts gr c b (m+1) k s:Nat))]):=by rfl
   refine ⟨ds1++[(nkD ((k:Int),s),.int (ways ts gr c b (m+1) k s:Nat))],?_,?_,?_,?_⟩
   ·have W2:=W.put (ds1++[(nkD ((k:Int),s),.int (ways ts gr c b (m+1) k s:Nat))])
    have hl2:zaK ((k:Int),s) (ds1++[(nkD ((k:Int),s),.int (ways ts gr c b (m+1) k s:Nat))])=some (.int (ways ts gr c b (m+1) k s:Nat)):=by
     rw [zcd,hd1,zcm,if_pos rfl];rfl
    generalize hres:(chs ts gr c b k s).map (fun p=>D.int (ways ts gr c b m (k+1) p.2:Nat))=res at e1 hsum
    have hrl:res.length<=100000:=by rw [<-hres,List.length_map];exact hlen
    have hkey:zih [some (false,D.ref n),some (false,.int k),some (false,zav s),some (false,.tup [.int k,zav s])] 3=some ((k:Int),s):=ek;have hpk:=zkr (r:=.int (ways ts gr c b (m+1) k s:Nat)) hkey W1.known hd1 (by omega) hnd;rw [hput,List.set_set] at hpk;have hkn:=W2.known;have hkn0:=W.known;have hgr:=W.ground;generalize wOb (.tup (ts.map zak)) (.lst (gr.map oD)) (.tup [.int r,.int c]) b (ds1++[(nkD ((k:Int),s),.int (ways ts gr c b (m+1) k s:Nat))])=ob2 at hpk hkn ⊢;generalize wOb (.tup (ts.map zak)) (.lst (gr.map oD)) (.tup [.int r,.int c]) b ds1=ob1 at hpk e1;generalize ds1++[(nkD ((k:Int),s),D.int (ways ts gr c b (m+1) k s:Nat))]=ds2 at hkn hl2;generalize ways ts gr c b (m+1) k s=vv at hsum hpk hl2 ⊢;generalize zav s=sd at ek ech hkey hpk ⊢;generalize (chs ts gr c b k s).map chD=cs at ech e1;simp [zaq,zag,hgr,hkn0,hne,ek,hd,mo,ech,e1,hrl,hsum,hpk,hkey,hkn,hl2]
   ·intro k' s' d h';rw [zcd] at h'
    cases h2:zaK ((k':Int),s') ds1 with
    | some d'=>rw [h2] at h';cases h';exact M1 k' s' _ h2
    | none =>
     rw [h2,zcm] at h';have h'':(if some ((k:Int),s)=some ((k':Int),s') then some (D.int (ways ts gr c b (m+1) k s:Nat)) else none)=some d:=h';split at h''
     ·rename_i ee;cases h'';have ee':=Option.some.inj ee
      have ek':k=k':=by have z:(k:Int)=(k':Int):=congrArg Prod.fst ee';omega
      have es':s=s':=congrArg Prod.snd ee';subst ek';subst es';rw [show gr.length-k=m+1 by omega]
     ·cases h''
   ·rw [List.length_append,List.length_singleton];show _<=ds.length+(1+ts.length*zbK ts.length m);omega
   ·intro k' s' hk';rw [zcd,u1 k' s' (by omega),zcm,if_neg]
    ·cases zaK ((k':Int),s') ds<;>rfl
    ·intro z;have:=congrArg Prod.fst (Option.some.inj z);simp at this;omega
end
end S2
namespace S2
open PySem
open L2 hiding D
def zgT(c x:Str)(ρ:Env)(r:D):Out D->Fo
 | .bad=>.bad
 | .exc c S2=>.ex c ρ S2
 | .ok (.ref n) S2=>(match S2[n]? with
   | some ob=>if decide (ob.cls=c)&&decide (ob.fs.length<1000) then .nx ρ (S2.set n (ob.put x false r)) else .bad
   | none=>.bad)
 | .ok _ _=>.bad
def zov(c x:Str)(f:Fe)(ρ:Env):Out D->Fo
 | .bad=>.bad
 | .exc c S2=>.ex c ρ S2
 | .ok r S1=>zgT c x ρ r (f ρ S1)
@[simp] theorem zsi{c x:Str}{f g:Fe}{ρ:Env}{S:Sto}:zd5 c x f g ρ S=zov c x f ρ (g ρ S):=by
 unfold zd5 zov
 cases g ρ S with
 | ok r S1 =>
  dsimp only;unfold zgT
  cases f ρ S1 with
  | ok d S2=>cases d<;>rfl
  | exc c S=>rfl
  | bad=>rfl
 | exc c S=>rfl
 | bad=>rfl
@[simp] theorem zvh{c x:Str}{f:Fe}{ρ:Env}{S:Sto}{r:D}:zov c x f ρ (.ok r S)=zgT c x ρ r (f ρ S):=(rfl)
theorem zks{c x:Str}{n:Nat}{ρ:Env}{S:Sto}{r:D}{fs:List (Str×Bool×D)}(h:fs.length<1000)(hn:S.length=n):zgT c x ρ r (.ok (.ref n) (S++[⟨c,fs⟩]))=.nx ρ (S++[⟨c,zam x false r fs⟩]):=by
 subst hn;show (match (S++[(⟨c,fs⟩:Ob)])[S.length]? with | some ob=>_ | none=>_)=_;rw [List.getElem?_append_right (Nat.le_refl _),Nat.sub_self];show (if _ then Fo.nx ρ ((S++[(⟨c,fs⟩:Ob)]).set S.length _) else _)=_;rw [if_pos,List.set_append_right _ _ (Nat.le_refl _),Nat.sub_self]
 ·rfl
 ·rw [Bool.and_eq_true];exact ⟨decide_eq_true rfl,decide_eq_true h⟩
theorem znn{c x:Str}{n i:Nat}{ρ:Env}{S:Sto}{fs:List (Str×Bool×D)}(hi:ρ[i]?=some (some (false,.ref n)))(h:fs.length<1000)(hn:S.length=n):zfS c x i ρ (S++[⟨c,fs⟩])=.nx ρ (S++[⟨c,zam x true (.dic []) fs⟩]):=by
 subst hn;unfold zfS;rw [hi];show (match (S++[(⟨c,fs⟩:Ob)])[S.length]? with | some ob=>_ | none=>_)=_;rw [List.getElem?_append_right (Nat.le_refl _),Nat.sub_self];show (if _ then Fo.nx ρ ((S++[(⟨c,fs⟩:Ob)]).set S.length _) else _)=_;rw [if_pos,List.set_append_right _ _ (Nat.le_refl _),Nat.sub_self]
 ·rfl
 ·rw [Bool.and_eq_true];exact ⟨decide_eq_true rfl,decide_eq_true h⟩
theorem zbw{x:Str}{o:Bool}{d:D}:∀{gs:List (Str×Bool×D)},(zam x o d gs).length<=gs.length+1
 | []=>by simp [zam]
 | (y,z)::gs=>by
  unfold zam;split
  ·simp
  ·have:=zbw (x:=x) (o:=o) (d:=d) (gs:=gs);simp only [List.length_cons];omega
def zac(r c:Nat)(g:Z1):List (Option Int):=(List.range r).flatMap fun i=>(List.range c).map fun j=>g i j
def zwI(g:Z1):D->D | .tup [.int i,.int j]=>oD (g i.toNat j.toNat) | _=>.non
theorem zeb{r c:Nat}{g:Z1}:(zce r c).map (zwI g)=(zac r c g).map oD:=by
 unfold zce zac;rw [List.map_flatMap,List.map_flatMap];congr 1;funext i;rw [List.map_map,List.map_map];rfl
theorem zat{r c:Nat}{g:Z1}:(zac r c g).length=r*c:=by
 have:=congrArg List.length (zeb (r:=r) (c:=c) (g:=g));rw [List.length_map,List.length_map,zf0] at this;exact this.symm
theorem zh0{r c:Nat}{g:Z1}{T:D}{b:Bool}{S:Sto}(h1:1<=r)(hr:r<=100)(hc:c<=100) :
  zaN [.ref S.length,T,flr r c g,.bl b] (S++[⟨"Ways",[]⟩])=.ok .non (S++[wOb T (.lst ((zac r c g).map oD)) (.tup [.int r,.int c]) b []]):=by
 have e1:∀S',zaP [flr r c g] S'=.ok (.lst (zce r c)) S':=fun S'=>zd6 h1 hr hc
 have e2:∀S',zbs [flr r c g] S'=.ok (.tup [.int r,.int c]) S':=fun S'=>zcA h1
 have e3:∀S',zbY (.one 0) zet (eFn zaD [(zad 1),(zad 0)]) [none,some (false,flr r c g)] (zce r c) S'=.ok ((zac r c g).map oD) S':=fun S'=>by
  rw [<-zeb];refine zbS fun d hd=>?_
  obtain ⟨i,j,hi,hj,rfl⟩:=zcC hd;refine ⟨_,rfl,?_⟩;have:=zdd (g:=g) (S:=S') hi hj;simp [this];rfl
 have hl:((zac r c g).map oD).length<=100000:=by
  rw [List.length_map,zat];exact Nat.le_trans (Nat.mul_le_mul hr hc) (by decide)
 generalize (zac r c g).map oD=gl at e3 hl;generalize flr r c g=fl at *;have l1:=zbw (x:="tiles") (o:=false) (d:=T) (gs:=[]);have l2:=zbw (x:="ground") (o:=false) (d:=.lst gl) (gs:=zam "tiles" false T []);have l3:=zbw (x:="size") (o:=false) (d:=.tup [.int r,.int c]) (gs:=zam "ground" false (.lst gl) (zam "tiles" false T []));have l4:=zbw (x:="is_round") (o:=false) (d:=.bl b) (gs:=zam "size" false (.tup [.int r,.int c]) (zam "ground" false (.lst gl) (zam "tiles" false T [])));have p1:=fun (x:Str) (ρ:Env) (d:D) (fs:List (Str×Bool×D)) (h:fs.length<1000)=>zks (c:="Ways") (x:=x) (ρ:=ρ) (S:=S) (r:=d) (fs:=fs) h rfl
 have l0:([]:List (Str×Bool×D)).length=0:=rfl;have p2:=znn (c:="Ways") (x:="known") (i:=0) (ρ:=[some (false,.ref S.length),some (false,T),some (false,fl),some (false,.bl b)]) (S:=S) (n:=S.length) (fs:=zam "is_round" false (.bl b) (zam "size" false (.tup [.int r,.int c]) (zam "ground" false (.lst gl) (zam "tiles" false T [])))) rfl (by omega) rfl;have q1:=p1 "tiles" [some (false,.ref S.length),some (false,T),some (false,fl),some (false,.bl b)] T [] (by omega);have q2:=p1 "ground" [some (false,.ref S.length),some (false,T),some (false,fl),some (false,.bl b)] (.lst gl) (zam "tiles" false T []) (by omega);have q3:=p1 "size" [some (false,.ref S.length),some (false,T),some (false,fl),some (false,.bl b)] (.tup [.int r,.int c]) (zam "ground" false (.lst gl) (zam "tiles" false T [])) (by omega);have q4:=p1 "is_round" [some (false,.ref S.length),some (false,T),some (false,fl),some (false,.bl b)] (.bl b) (zam "size" false (.tup [.int r,.int c]) (zam "ground" false (.lst gl) (zam "tiles" false T []))) (by omega);clear l1 l2 l3 l4 l0
 have fin:(⟨"Ways",zam "known" true (.dic []) (zam "is_round" false (.bl b) (zam "size" false (.tup [.int r,.int c]) (zam "ground" false (.lst gl) (zam "tiles" false T []))))⟩:Ob)=wOb T (.lst gl) (.tup [.int r,.int c]) b []:=by rfl
 rw [fin] at p2;generalize zam "is_round" false (.bl b) (zam "size" false (.tup [.int r,.int c]) (zam "ground" false (.lst gl) (zam "tiles" false T [])))=f4 at *;generalize zam "size" false (.tup [.int r,.int c]) (zam "ground" false (.lst gl) (zam "tiles" false T []))=f3 at *;generalize zam "ground" false (.lst gl) (zam "tiles" false T [])=f2 at *;generalize zam "tiles" false T []=f1 at *;generalize wOb T (.lst gl) (.tup [.int r,.int c]) b []=ob at *;simp [zaN,zaq,zcc,e1,e2,e3,hl,q1,q2,q3,q4,p2]
theorem zni{n:Nat}{ts:Z2}{gr:Z4}{r c:Nat}{b:Bool}(ht:TOk ts)(h1:1<=ts.length)(hg:∀o∈gr,∀x,o=some x->0<=x/\x<ts.length)(hc:1<=c)(hc2:c<=100):∀m f,m+1<=f->ts.length ^ m<=1000000->CfOk n ts gr r c b m (zlH 4 false zag f)
 | 0,f+1,_,_=>zoU
 | m+1,f+1,hf,hp=>by
  have hp':ts.length ^ m<=1000000:=Nat.le_trans (Nat.pow_le_pow_right h1 (Nat.le_succ m)) hp;exact zoV (zni ht h1 hg hc hc2 m f (by omega) hp') ht h1 hg hc hc2 hp'
theorem zfX{n:Nat}{ts:Z2}{gr:Z4}{r c:Nat}{b:Bool}{S:Sto}(W:WAt S n ts gr r c b [])(ht:TOk ts)(h1:1<=ts.length)(hg:∀o∈gr,∀x,o=some x->0<=x/\x<ts.length)(hc:1<=c)(hc2:c<=100)(hm:gr.length<=30)(hp:ts.length ^ gr.length<=1000000)(hq:zbK ts.length gr.length<=1000000) :
  ∃ds',zbe [.ref n] S=.ok (.int (ways ts gr c b gr.length 0 (List.replicate (c+2) none))) (S.set n (wOb (.tup (ts.map zak)) (.lst (gr.map oD)) (.tup [.int r,.int c]) b ds')):=by
 obtain ⟨ds',e,_⟩:=(zni (n:=n) (r:=r) (b:=b) ht h1 hg hc hc2 gr.length 40 (by omega) hp).run S [] 0 (List.replicate (c+2) none) W (fun k s d h=>by cases h) (by omega) (List.length_replicate ..) (by simpa using hq);refine ⟨ds',?_⟩;have e':zbJ [.ref n,.int 0,zav (List.replicate (c+2) none)] S=_:=e;have e2:=zdu W hc2;have m1:=W.meth "count_from" (by decide +kernel);have m2:=W.meth "first_seam" (by decide +kernel);generalize wOb (.tup (ts.map zak)) (.lst (gr.map oD)) (.tup [.int r,.int c]) b ds'=ob at *;simp [zbe,zaq,zbV,m1,m2,e2,e']
def zlq(ts:Z2)(r c:Nat)(g:Z1)(b:Bool):Nat:=ways ts (zac r c g) c b (r*c) 0 (List.replicate (c+2) none)
theorem zeO{ts:Z2}{r c:Nat}{g:Z1}{S:Sto}(ht:TOk ts)(h1:1<=ts.length)(hg:InT ts g)(hr1:1<=r)(hr:r<=100)(hc:1<=c)(hc2:c<=100)(hm:r*c<=30)(hp:ts.length ^ (r*c)<=1000000)(hq:zbK ts.length (r*c)<=1000000) :
  ∃S',zaF [.tup (ts.map zak),flr r c g] S=.ok (.int (zlq ts r c g false)) S':=by
 have e1:=zh0 (T:=.tup (ts.map zak)) (b:=false) (S:=S) (g:=g) (c:=c) hr1 hr hc2;have W:WAt (S++[wOb (.tup (ts.map zak)) (.lst ((zac r c g).map oD)) (.tup [.int r,.int c]) false []]) S.length ts (zac r c g) r c false []:=⟨by rw [List.getElem?_append_right (Nat.le_refl _),Nat.sub_self];rfl⟩
 have hgl:∀o∈zac r c g,∀x,o=some x->0<=x/\x<ts.length:=by
  intro o ho x hx;obtain ⟨i,_,ho⟩:=List.mem_flatMap.mp ho;obtain ⟨j,_,rfl⟩:=List.mem_map.mp ho;exact hg i j x hx
 obtain ⟨ds',e2⟩:=zfX W ht h1 hgl hc hc2 (by rw [zat];exact hm) (by rw [zat];exact hp) (by rw [zat];exact hq);rw [zat] at e2;have m:=W.meth "count_all" (by decide +kernel);obtain ⟨S',hS⟩:∃S',(S++[wOb (.tup (ts.map zak)) (.lst ((zac r c g).map oD)) (.tup [.int r,.int c]) false []]).set S.length (wOb (.tup (ts.map zak)) (.lst ((zac r c g).map oD)) (.tup [.int r,.int c]) false ds')=S':=⟨_,rfl⟩;rw [hS] at e2;clear hS;refine ⟨S',?_⟩;unfold zlq;generalize wOb (.tup (ts.map zak)) (.lst ((zac r c g).map oD)) (.tup [.int r,.int c]) false []=ob at *;simp [zaF,zaq,zcK,e1,m,e2]
end S2
namespace S2
open PySem
open L2 hiding D
def zc2(ts:Z2):List Int:=(List.range ts.length).map fun (i:Nat)=>(i:Int)
def zev(ts:Z2)(c:Nat)(o:Option Int)(t:List Int):List (List Int):=((zc2 ts).filter fun x=>okO o x&&zlm ts c t x).map fun x=>t++[x]
def zax(ts:Z2)(gr:Z4)(c:Nat):Nat->List (List Int)
 | 0=>[[]]
 | k+1=>(zax ts gr c k).flatMap (zev ts c (gr.getD k none))
structure FillG(ts:Z2)(k:Nat)(F:Z2):Prop where
 mem:∀t∈F,t.length=k/\InR ts t
theorem zdU{ts:Z2}{gr:Z4}{c:Nat}:∀k,FillG ts k (zax ts gr c k)
 | 0=>⟨fun t ht=>by rw [List.mem_singleton.mp ht];exact ⟨rfl,fun x hx=>(List.not_mem_nil hx).elim⟩⟩
 | k+1=>⟨fun t ht=>by
  obtain ⟨u,hu,ht⟩:=List.mem_flatMap.mp ht;obtain ⟨x,hx,rfl⟩:=List.mem_map.mp ht;obtain ⟨h1,h2⟩:=(zdU (ts:=ts) (gr:=gr) (c:=c) k).mem u hu;refine ⟨by rw [List.length_append,h1];rfl,fun y hy=>?_⟩
  rcases List.mem_append.mp hy with hy | hy
  ·exact h2 y hy
  ·rw [List.mem_singleton.mp hy];obtain ⟨i,hi,rfl⟩:=List.mem_map.mp (List.mem_filter.mp hx).1;have:=List.mem_range.mp hi
   omega⟩
section
variable{ts:Z2}{c:Nat}{S:Sto}{s1 s3 s4:Option (Bool×D)}{o:Option Int}
end
theorem ztR{r c:Nat}{g:Z1}:(zcG r c g).flatMap zwp=(zac r c g).map oD:=by
 unfold zcG zac;rw [List.flatMap_map,List.map_flatMap];congr 1;funext i;show zdv c (g i)=_;rw [List.map_map];rfl
end S2
namespace S2
open PySem
open L2 hiding D
def znb(ts:Z2)(gr:Z4)(c:Nat):Nat->List Int->Nat
 | 0,_=>1
 | m+1,t=>((zev ts c (gr.getD t.length none) t).map (znb ts gr c m)).sum
theorem zhV{α:Type}{f:α->Nat}{h:α->List α}:∀l:List α,((l.flatMap h).map f).sum=(l.map fun t=>((h t).map f).sum).sum
 | []=>rfl
 | t::l=>by rw [List.flatMap_cons,List.map_append,List.sum_append,zhV l,List.map_cons,List.sum_cons]
theorem zg0{ts:Z2}{gr:Z4}{c:Nat}:∀m k,(zax ts gr c (k+m)).length=((zax ts gr c k).map (znb ts gr c m)).sum
 | 0,k=>by
  show (zax ts gr c k).length=_;generalize zax ts gr c k=F
  induction F with
  | nil=>rfl
  | cons t F ih=>rw [List.length_cons,ih,List.map_cons,List.sum_cons];simp [znb];omega
 | m+1,k=>by
  rw [show k+(m+1)=(k+1)+m by omega,zg0 m (k+1)];show (((zax ts gr c k).flatMap _).map _).sum=_;rw [zhV];congr 1;apply List.map_congr_left;intro t ht;show _=((zev ts c (gr.getD t.length none) t).map (znb ts gr c m)).sum;rw [((zdU k).mem t ht).1]
theorem zkP{ts:Z2}{gr:Z4}{c L:Nat}:(zax ts gr c L).length=znb ts gr c L []:=by
 have:=zg0 (ts:=ts) (gr:=gr) (c:=c) L 0;rw [Nat.zero_add] at this;rw [this];simp [zax]
structure SeamOk(ts:Z2)(L c:Nat)(t:List Int)(s:Z4):Prop where
 len:s.length=c+2
 west:s.getD 0 none=if t.length % c=0 then none else some (zbF ts (t.getLastD 0) 1)
 north:∀j,j<c->s.getD (1+j) none=if t.length+j<c\/L<=t.length+j then none else some (zbF ts (t.getD (t.length+j-c) 0) 2)
theorem SeamOk.first{ts:Z2}{L c:Nat}:SeamOk ts L c [] (List.replicate (c+2) none) where
 len:=List.length_replicate ..
 west:=by simp [List.getD_eq_getElem?_getD,List.getElem?_replicate]
 north:=fun j hj=>by
  rw [if_pos (.inl (by simpa using hj))];rw [List.getD_eq_getElem?_getD,List.getElem?_replicate]
  split<;>rfl
theorem SeamOk.next{ts:Z2}{L c:Nat}{t:List Int}{s:Z4}{x:Int}(h:SeamOk ts L c t s)(hc:1<=c):SeamOk ts L c (t++[x]) (ziE ts L c false t.length s x) where
 len:=zlc hc h.len
 west:=by
  rw [List.length_append,List.length_singleton];show (if (t.length+1) % c=0 then none else some (zbF ts x 1))=_;simp [List.getLastD_eq_getLast?]
 north:=fun j hj=>by
  have hm:((s.drop 2).dropLast).length=c-1:=by rw [List.length_dropLast,List.length_drop,h.len];omega
  rw [List.length_append,List.length_singleton];show ((if (t.length+1) % c=0 then none else some (zbF ts x 1))::((s.drop 2).dropLast++[if L<=t.length+c then none else some (zbF ts x 2),if false&&!decide ((t.length+1) % c=0) then crO ts c t.length s x else none])).getD (1+j) none=_;rw [show 1+j=j+1 by omega,List.getD_cons_succ]
  by_cases hl:j<c-1
  ·rw [List.getD_eq_getElem?_getD,List.getElem?_append_left (by rw [hm];exact hl),List.getElem?_dropLast,if_pos (by rw [List.length_drop,h.len];omega),List.getElem?_drop,<-List.getD_eq_getElem?_getD];have hn:=h.north (j+1) (by omega);rw [show 2+j=1+(j+1) by omega,hn];rw [show t.length+1+j=t.length+(j+1) by omega]
   by_cases z:t.length+(j+1)<c\/L<=t.length+(j+1)
   ·rw [if_pos z,if_pos z]
   ·rw [if_neg z,if_neg z,zim,if_pos (by omega)]
  ·have hj':j=c-1:=by omega
   subst hj';rw [List.getD_eq_getElem?_getD,List.getElem?_append_right (by rw [hm];exact Nat.le_refl _),hm,Nat.sub_self];show (if L<=t.length+c then none else some (zbF ts x 2))=_
   have e:(t++[x]).getD (t.length+1+(c-1)-c) 0=x:=by
    rw [zim,show t.length+1+(c-1)-c=t.length by omega,if_neg (Nat.lt_irrefl _),if_pos rfl]
   rw [e,show t.length+1+(c-1)=t.length+c by omega]
   have:¬ t.length+c<c:=by omega
   simp [this]
theorem zis{ts:Z2}{L c:Nat}{t:List Int}{s:Z4}{x:Int}(h:SeamOk ts L c t s)(hc:1<=c)(hL:t.length<L):zi3 ts c false t.length s x=zlm ts c t x:=by
 unfold zi3 zlm;have h1:=h.north 0 (by omega);rw [Nat.add_zero,Nat.add_zero] at h1;rw [h.west,h1]
 have hL':¬ L<=t.length:=by omega
 simp only [Bool.not_false,Bool.true_or,Bool.and_true];rw [Bool.eq_iff_iff,Bool.and_eq_true,decide_eq_true_iff]
 have a:okO (if t.length % c=0 then none else some (zbF ts (t.getLastD 0) 1)) (zbF ts x 3)=true↔(0<t.length % c->zbF ts (t.getLastD 0) 1=zbF ts x 3):=by
  by_cases z:t.length % c=0
  ·rw [if_pos z];simp [okO,z]
  ·rw [if_neg z]
   have z':0<t.length % c:=by omega
   simp [okO,z']
 have b:okO (if t.length<c\/L<=t.length then none else some (zbF ts (t.getD (t.length-c) 0) 2)) (zbF ts x 0)=true↔(c<=t.length->zbF ts (t.getD (t.length-c) 0) 2=zbF ts x 0):=by
  by_cases z:t.length<c
  ·rw [if_pos (.inl z)]
   have z':¬ c<=t.length:=by omega
   simp [okO,z']
  ·have z':c<=t.length:=by omega
   rw [if_neg (by simp only [not_or];exact ⟨z,hL'⟩)];simp [okO,z']
 rw [a,b]
theorem zfu{ts:Z2}{o:Option Int}{p:Int->Bool}(ho:∀x,o=some x->0<=x/\x<ts.length):(zc2 ts).filter (fun x=>okO o x&&p x)=(zia ts o).filter p:=by
 cases o with
 | none =>
  show (zc2 ts).filter (fun x=>true&&p x)=(zc2 ts).filter p;simp
 | some y =>
  obtain ⟨y0,y1⟩:=ho y rfl
  have e:(zc2 ts).filter (fun x=>decide (y=x))=[y]:=by
   obtain ⟨n,rfl⟩:=Int.eq_ofNat_of_zero_le y0
   have hn:n<ts.length:=by omega
   unfold zc2;rw [List.filter_map]
   have hf:(List.range ts.length).filter ((fun x=>decide ((n:Int)=x))∘fun (i:Nat)=>(i:Int))=[n]:=by
    have:((fun x=>decide ((n:Int)=x))∘fun (i:Nat)=>(i:Int))=fun i=>decide (i=n):=by
     funext i;simp only [Function.comp];congr 1;exact propext ⟨fun z=>by omega,fun z=>by omega⟩
    rw [this];generalize ts.length=N at hn;clear y1
    induction N with
    | zero=>omega
    | succ N ih =>
     rw [List.range_succ,List.filter_append]
     by_cases z:n<N
     ·rw [ih z]
      have:¬ N=n:=by omega
      simp [this]
     ·have:N=n:=by omega
      subst this
      have h0:(List.range N).filter (fun i=>decide (i=N))=[]:=by
       rw [List.filter_eq_nil_iff];intro i hi;have:=List.mem_range.mp hi;simp;omega
      rw [h0];simp
   rw [hf];rfl
  show (zc2 ts).filter (fun x=>decide (y=x)&&p x)=[y].filter p;rw [<-e,List.filter_filter];congr 1;funext x;exact Bool.and_comm _ _
theorem zhO{ts:Z2}{gr:Z4}{c:Nat}(hc:1<=c)(hg:∀o∈gr,∀x,o=some x->0<=x/\x<ts.length):∀m t s,SeamOk ts gr.length c t s->t.length+m=gr.length->ways ts gr c false m t.length s=znb ts gr c m t
 | 0,_,_,_,_=>rfl
 | m+1,t,s,h,hl=>by
  have hk:t.length<gr.length:=by omega
  have ho:∀x,gr.getD t.length none=some x->0<=x/\x<ts.length:=by
   rw [List.getD_eq_getElem?_getD,List.getElem?_eq_getElem hk];exact hg _ (List.getElem_mem hk)
  show ((chs ts gr c false t.length s).map fun p=>ways ts gr c false m (t.length+1) p.2).sum=((zev ts c (gr.getD t.length none) t).map (znb ts gr c m)).sum;unfold chs zev;rw [zfu ho,List.map_map,List.map_map]
  have e:(zia ts (gr.getD t.length none)).filter (zi3 ts c false t.length s)=(zia ts (gr.getD t.length none)).filter (zlm ts c t):=by
   congr 1;funext x;exact zis h hc hk
  rw [e];congr 1;apply List.map_congr_left;intro x _;show ways ts gr c false m (t.length+1) (ziE ts gr.length c false t.length s x)=znb ts gr c m (t++[x]);have:=zhO hc hg m (t++[x]) _ (h.next (x:=x) hc) (by rw [List.length_append,List.length_singleton];omega);rw [List.length_append,List.length_singleton] at this;exact this
theorem ze8{ts:Z2}{r c:Nat}{g:Z1}(hg:InT ts g):∀o∈zac r c g,∀x,o=some x->0<=x/\x<ts.length:=by
 intro o ho x hx;obtain ⟨i,_,ho⟩:=List.mem_flatMap.mp ho;obtain ⟨j,_,rfl⟩:=List.mem_map.mp ho;exact hg i j x hx
theorem ziI{ts:Z2}{r c:Nat}{g:Z1}(hc:1<=c)(hg:InT ts g):zlq ts r c g false=(zax ts (zac r c g) c (r*c)).length:=by
 rw [zkP];unfold zlq;exact zhO hc (ze8 hg) (r*c) [] _ (by rw [zat];exact SeamOk.first) (by rw [zat];simp)
end S2
namespace S2
open PySem
open L2 hiding D
theorem zoN{α:Type}{l:List α}{n:Nat}:zex l (some (n:Int)) none=l.drop n:=by
 unfold zex;rw [HT.zjI];simp [HT.sIx]
 by_cases h:n<=l.length
 ·rw [Nat.min_eq_left h];exact List.take_of_length_le (by simp)
 ·rw [List.drop_eq_nil_of_le (show l.length<=n by omega),List.drop_eq_nil_of_le (by omega)];simp
theorem zrr{α:Type}{l:List α}{n:Nat}(h:n<=l.length):zex l none (some (n:Int))=l.take n:=by
 unfold zex;rw [HT.zjI];simp [HT.sIx,Nat.min_eq_left h]
end S2
namespace S2
open PySem
open L2 hiding D
def zeS(g:Z1)(i j:Nat)(o:Option Int):Nat->Nat->Option Int:=fun a b=>if a=i/\b=j then o else g a b
theorem znS{c j:Nat}{g:Nat->Option Int}{o:Option Int}:(zdv c g).set j (oD o)=zdv c fun b=>if b=j then o else g b:=by
 apply List.ext_getElem?;intro k
 by_cases hk:k<c
 ·rw [zfY hk]
  by_cases e:j=k
  ·subst e;rw [List.getElem?_set_self (by rw [zde];exact hk),if_pos rfl]
  ·rw [List.getElem?_set_ne e,zfY hk,if_neg (fun z=>e z.symm)]
 ·rw [List.getElem?_eq_none (by rw [List.length_set,zde];omega),List.getElem?_eq_none (by rw [zde];omega)]
theorem zoF{r c i j:Nat}{g:Z1}{o:Option Int}:(zcG r c g).set i (zfq c fun b=>if b=j then o else g i b)=zcG r c (zeS g i j o):=by
 apply List.ext_getElem?;intro k
 by_cases hk:k<r
 ·rw [zdk hk]
  by_cases e:i=k
  ·subst e;rw [List.getElem?_set_self (by rw [zdj];exact hk)];congr 3;funext b;unfold zeS
   by_cases z:b=j<;>simp [z]
  ·rw [List.getElem?_set_ne e,zdk hk];congr 3;funext b;unfold zeS;rw [if_neg (fun z=>e z.1.symm)]
 ·rw [List.getElem?_eq_none (by rw [List.length_set,zdj];omega),List.getElem?_eq_none (by rw [zdj];omega)]
theorem zkV{α:Type}{l:List α}{j:Nat}{x:α}(h:j<l.length):zex l none (some (j:Int))++x::zex l (some ((j:Int)+1)) none=l.set j x:=by
 rw [zrr (by omega),show ((j:Int)+1)=((j+1:Nat):Int) by omega,zoN,List.set_eq_take_append_cons_drop,if_pos h]
theorem zeJ{r c i j:Nat}{g:Z1}{o:Option Int}{S:Sto}(hi:i<r)(hj:j<c)(hr:r<=100)(hc:c<=100):zb0 [flr r c g,plD i j,oD o] S=.ok (flr r c (zeS g i j o)) S:=by
 have e0:atI (zcG r c g) (i:Int)=some (zfq c (g i)):=by rw [zbP,zdk hi]
 have e1:zex (zdv c (g i)) none (some (j:Int))++oD o::zex (zdv c (g i)) (some ((j:Int)+1)) none=zdv c fun b=>if b=j then o else g i b:=by rw [zkV (by rw [zde];exact hj),znS]
 have e2:zex (zcG r c g) none (some (i:Int))++(zfq c fun b=>if b=j then o else g i b)::zex (zcG r c g) (some ((i:Int)+1)) none=zcG r c (zeS g i j o):=by rw [zkV (by rw [zdj];exact hi),zoF]
 have l1:=congrArg List.length e1;have l2:=congrArg List.length e2;rw [List.length_append,List.length_cons,zde] at l1;rw [List.length_append,List.length_cons,zdj] at l2;unfold flr;rw [<-e2];unfold zfq at e0 ⊢;rw [<-e1];generalize q1:zex (zdv c (g i)) none (some (j:Int))=a1 at *;generalize q2:zex (zdv c (g i)) (some ((j:Int)+1)) none=a2 at *;generalize q3:zex (zcG r c g) none (some (i:Int))=b1 at *;generalize q4:zex (zcG r c g) (some ((i:Int)+1)) none=b2 at *
 have p1:a1.length+1<=100000:=by omega
 have p2:a1.length+1+a2.length<=100000:=by omega
 have p3:b1.length+1<=100000:=by omega
 have p4:b1.length+1+b2.length<=100000:=by omega
 simp [zb0,zaq,zcH,plD,e0,q1,q2,q3,q4,p1,p2,p3,p4]
end S2
namespace S2
open PySem
open L2 hiding D
@[simp] theorem zwd{x y:Bool}:zr3 (.bl x) (.bl y)=some (.bl (decide (x=y))):=(rfl)
theorem zkK{tg:Tg}{body:Fs}{ds:List D}(Iv:Nat->Env->Sto->Prop)(step:∀k d ρ S,ds[k]?=some d->Iv k ρ S->∃ρ1 ρ2 S2,tg.put ρ d=some ρ1/\body ρ1 S=.nx ρ2 S2/\Iv (k+1) ρ2 S2){ρ:Env}{S:Sto}(h0:Iv 0 ρ S):∃ρ' S',zef tg body ds ρ S=.nx ρ' S'/\Iv ds.length ρ' S':=by
 have go:∀(n:Nat) (es:List D) (k:Nat) (ρ:Env) (S:Sto),es.length=n->ds.drop k=es->k+n=ds.length->Iv k ρ S->∃ρ' S',zef tg body es ρ S=.nx ρ' S'/\Iv ds.length ρ' S':=by
  intro n
  induction n with
  | zero =>
   intro es k ρ S hl he hk hi;obtain rfl:es=[]:=List.eq_nil_of_length_eq_zero hl;exact ⟨ρ,S,rfl,by rw [show ds.length=k by omega];exact hi⟩
  | succ n ih =>
   intro es k ρ S hl he hk hi
   cases es with
   | nil=>cases hl
   | cons d es =>
    have hd:ds[k]?=some d:=by
     have:=congrArg (fun l=>l[0]?) he;rw [List.getElem?_drop] at this;simpa using this
    obtain ⟨ρ1,ρ2,S2,e1,e2,hi2⟩:=step k d ρ S hd hi;obtain ⟨ρ',S',e3,e4⟩:=ih es (k+1) ρ2 S2 (by simpa using hl) (by rw [<-List.drop_drop,he];rfl) (by omega) hi2;refine ⟨ρ',S',?_,e4⟩;unfold zef;rw [e1];dsimp only;rw [e2];exact e3
 exact go ds.length ds 0 ρ S rfl (by simp) (by omega) h0
theorem zeM{r c i j:Nat}{g:Z1}{S:Sto}(h1:1<=r)(hi:i<r)(hj:j<c):zaV [flr r c g,plD i j] S=.ok .non S:=by
 have hp:za1 [flr r c g,plD i j] S=.ok (.bl true) S:=by rw [zfV h1];congr 3;simp;omega
 simp [zaV,zaq,zbU,hp]
theorem zho{ts:List D}{o:Option Int}{S:Sto}(h:∀x,o=some x->0<=x/\x<ts.length):zcY [.tup ts,oD o] S=.ok (.bl true) S:=by
 have e:=zdt (ts:=ts) (o:=o) (S:=S) h
 cases o with
 | none=>simp [zcY,zaq,zdV,oD]
 | some x =>
  simp only [oD] at e;simp [zcY,zaq,zdV,oD,e]
theorem zdM{ts:Z2}{r c i j:Nat}{g:Z1}{o:Option Int}{S:Sto}(h:∀x,o=some x->0<=x/\x<ts.length)(h1:1<=r)(hi:i<r)(hj:j<c)(hr:r<=100)(hc:c<=100):zbh [.tup (ts.map zak),flr r c g,plD i j,oD o] S=.ok (flr r c (zeS g i j o)) S:=by
 have e1:=zeM (g:=g) (S:=S) h1 hi hj;have e2:=zho (ts:=ts.map zak) (o:=o) (S:=S) (fun x hx=>by simpa using h x hx);have e3:=zeJ (g:=g) (o:=o) (S:=S) hi hj hr hc;generalize flr r c g=fl at *;generalize flr r c (zeS g i j o)=fl' at *;generalize plD i j=pp at *;generalize oD o=od at *;simp [zbh,zaq,zdF,e1,e2,e3]
def zfK(q m:Nat):Prop:=zbK q m+m*(zbK q m+q*zbK q m)<=1000000/\q ^ m<=80000
instance{q m:Nat}:Decidable (zfK q m):=by unfold zfK;exact inferInstance
theorem zsT:∀{q:Nat},q<=5->∀{m:Nat},m<=6->zfK q m:=by
 have h:∀q,q<6->∀m,m<7->zfK q m:=by decide
 intro q hq m hm;exact h q (by omega) m (by omega)
structure FP(ts:Z2)(r c:Nat):Prop where
 ht:TOk ts
 h1:1<=ts.length
 h4:zfK ts.length (r*c)
 r1:1<=r
 c1:1<=c
 rc:r*c<=6
theorem FP.r6{ts:Z2}{r c:Nat}(h:FP ts r c):r<=6:=by
 have:=h.rc;have:=h.c1;exact Nat.le_trans (Nat.le_mul_of_pos_right r h.c1) h.rc
theorem FP.c6{ts:Z2}{r c:Nat}(h:FP ts r c):c<=6:=Nat.le_trans (Nat.le_mul_of_pos_left c h.r1) h.rc
theorem zjV(q:Nat)(m:Nat)(h:zfK q m):zbK q m<=1000000/\q ^ m<=80000:=⟨by have:=h.1;omega,h.2⟩
def zba(ts:Z2)(r c:Nat)(g:Z1):List (List Int):=zax ts (zac r c g) c (r*c)
def zcF(ts:Z2)(r c:Nat)(g:Z1):Bool:=!(zba ts r c g).isEmpty
section
variable{ts:Z2}{r c:Nat}{g:Z1}
theorem zeP(P:FP ts r c)(hg:InT ts g)(S:Sto):∃S',zaF [.tup (ts.map zak),flr r c g] S=.ok (.int ((zba ts r c g).length:Nat)) S':=by
 obtain ⟨b1,b2⟩:=zjV ts.length (r*c) P.h4;obtain ⟨S',e⟩:=zeO (S:=S) P.ht P.h1 hg P.r1 (by have:=P.r6;omega) P.c1 (by have:=P.c6;omega) (by have:=P.rc;omega) (by omega) b1;rw [ziI P.c1 hg] at e;exact ⟨S',e⟩
theorem zjO(P:FP ts r c)(hg:InT ts g)(S:Sto):∃S',zcy [.tup (ts.map zak),flr r c g] S=.ok (.bl (zcF ts r c g)) S':=by
 obtain ⟨S',e⟩:=zeP P hg S;refine ⟨S',?_⟩
 have hh:decide ((0:Int)<((zba ts r c g).length:Nat))=zcF ts r c g:=by
  unfold zcF
  cases zba ts r c g with
  | nil=>rfl
  | cons a l=>simp
 generalize flr r c g=fl at *;simp only [zcy,zaq,zei];simp [e];simpa using hh
end
end S2
namespace S2
open PySem
open L2 hiding D
def zby(r c:Nat):List (Nat×Nat):=(List.range r).flatMap fun i=>(List.range c).map fun j=>(i,j)
theorem zbm{r c:Nat}{g:Z1}:zac r c g=(zby r c).map fun p=>g p.1 p.2:=by
 unfold zac zby;rw [List.map_flatMap];congr 1;funext i;rw [List.map_map];rfl
theorem zdP{r c:Nat}{p:Nat×Nat}(h:p∈zby r c):p.1<r/\p.2<c:=by
 obtain ⟨i,hi,h⟩:=List.mem_flatMap.mp h;obtain ⟨j,hj,rfl⟩:=List.mem_map.mp h;exact ⟨List.mem_range.mp hi,List.mem_range.mp hj⟩
def LeG(r c:Nat)(g h:Z1):Prop:=∀i j,i<r->j<c->g i j=none\/g i j=h i j
def LeL(gr hr:Z4):Prop:=∀k,gr.getD k none=none\/gr.getD k none=hr.getD k none
theorem LeG.list{r c:Nat}{g h:Z1}(l:LeG r c g h):LeL (zac r c g) (zac r c h):=by
 intro k;rw [zbm,zbm];simp only [List.getD_eq_getElem?_getD,List.getElem?_map]
 cases hp:(zby r c)[k]? with
 | none=>exact .inl rfl
 | some p =>
  obtain ⟨h1,h2⟩:=zdP (List.mem_of_getElem? hp);exact l p.1 p.2 h1 h2
theorem zfB{ts:Z2}{gr hr:Z4}{c:Nat}(l:LeL gr hr):∀k t,t∈zax ts hr c k->t∈zax ts gr c k
 | 0,t,h=>h
 | k+1,t,h=>by
  obtain ⟨u,hu,h⟩:=List.mem_flatMap.mp h;obtain ⟨x,hx,rfl⟩:=List.mem_map.mp h;obtain ⟨hx1,hx2⟩:=List.mem_filter.mp hx;rw [Bool.and_eq_true] at hx2;refine List.mem_flatMap.mpr ⟨u,zfB l k u hu,List.mem_map.mpr ⟨x,List.mem_filter.mpr ⟨hx1,?_⟩,rfl⟩⟩;rw [Bool.and_eq_true];refine ⟨?_,hx2.2⟩
  rcases l k with z | z
  ·rw [z];rfl
  ·rw [z];exact hx2.1
theorem zgc{ts:Z2}{r c:Nat}{g h:Z1}(l:LeG r c g h)(hh:zcF ts r c h=true):zcF ts r c g=true:=by
 unfold zcF zba at hh ⊢
 cases hf:zax ts (zac r c h) c (r*c) with
 | nil=>rw [hf] at hh;cases hh
 | cons t F =>
  have:t∈zax ts (zac r c h) c (r*c):=by rw [hf];exact List.mem_cons_self
  have:=zfB l.list _ _ this
  cases hg:zax ts (zac r c g) c (r*c) with
  | nil=>rw [hg] at this;exact (List.not_mem_nil this).elim
  | cons _ _=>rfl
def zc9(g:Z1):D->Nat->Nat->Option Int | .tup [.int i,.int j]=>zeS g i.toNat j.toNat none | _=>g
theorem zej{g:Z1}{i j:Nat}:zc9 g (plD i j)=zeS g i j none:=by
 show zeS g ((i:Int).toNat) ((j:Int).toNat) none=_;rw [Int.toNat_natCast,Int.toNat_natCast]
theorem zhu{g:Z1}{i j:Nat}:zbL g (plD i j)=(g i j).isSome:=by
 show (g ((i:Int).toNat) ((j:Int).toNat)).isSome=_;rw [Int.toNat_natCast,Int.toNat_natCast]
theorem zqd{ts:Z2}{g:Z1}{i j:Nat}{o:Option Int}(hg:InT ts g)(ho:∀x,o=some x->0<=x/\x<ts.length):InT ts (zeS g i j o):=by
 intro a b x hx;unfold zeS at hx;split at hx
 ·exact ho x hx
 ·exact hg a b x hx
theorem zkS{ts:Z2}{g:Z1}{i j:Nat}(hg:InT ts g):InT ts (zc9 g (plD i j)):=by
 rw [zej];exact zqd hg fun x hx=>by cases hx
def zaB(ts:Z2)(r c:Nat)(left:Z1)(d:D):Nat->Nat->Option Int:=if zcF ts r c (zc9 left d) then left else zc9 left d
def zbQ(ts:Z2)(r c:Nat)(g:Z1):Nat->Nat->Option Int:=((zce r c).filter (zbL g)).foldl (zaB ts r c) g
section
variable{ts:Z2}{r c:Nat}{g:Z1}
theorem zhj{i j:Nat}(P:FP ts r c)(hi:i<r)(hj:j<c)(S:Sto):zdO [.tup (ts.map zak),flr r c g,plD i j] S=.ok (flr r c (zc9 g (plD i j))) S:=by
 have e:zbh [.tup (ts.map zak),flr r c g,plD i j,.non] S=_:=zdM (ts:=ts) (g:=g) (o:=none) (S:=S) (fun x hx=>by cases hx) P.r1 hi hj (by have:=P.r6;omega) (by have:=P.c6;omega);rw [zej];generalize flr r c g=fl at *;generalize flr r c (zeS g i j none)=fl' at *;generalize plD i j=pp at *;simp [zdO,zaq,zfb,e]
theorem zjz{left:Z1}{i j:Nat}(h:InT ts left):InT ts (zaB ts r c left (plD i j)):=by
 unfold zaB;split
 ·exact h
 ·exact zkS h
theorem zdN(P:FP ts r c)(hg:InT ts g)(S:Sto):∃S',zcX [.tup (ts.map zak),flr r c g] S=.ok (if zcF ts r c g then .non else flr r c (zbQ ts r c g)) S':=by
 obtain ⟨S1,e1⟩:=zjO P hg S
 cases hh:zcF ts r c g with
 | true =>
  rw [hh] at e1;refine ⟨S1,?_⟩;generalize flr r c g=fl at *;simp [zcX,zaq,zge,e1]
 | false =>
  rw [hh] at e1;have e2:=zfU (g:=g) (S:=S1) P.r1 (show r<=100 by have:=P.r6;omega) (show c<=100 by have:=P.c6;omega);have hmem:∀d∈(zce r c).filter (zbL g),∃i j,i<r/\j<c/\d=plD i j:=fun d hd=>zcC (List.mem_filter.mp hd).1
  have efold:zbQ ts r c g=((zce r c).filter (zbL g)).foldl (zaB ts r c) g:=rfl;rw [efold];generalize (zce r c).filter (zbL g)=ps at *
  obtain ⟨ρ',S2,e3,x3,x4,rfl,_⟩:=zkK (tg:=.one 3) (body:=zd2) (ds:=ps) (fun k ρ S=>∃x3 x4,ρ=[some (false,.tup (ts.map zak)),some (false,flr r c g),some (false,flr r c ((ps.take k).foldl (zaB ts r c) g)),x3,x4]/\InT ts ((ps.take k).foldl (zaB ts r c) g)) (by
   rintro k d ρ S hd ⟨x3,x4,rfl,hin⟩;obtain ⟨i,j,hi,hj,rfl⟩:=hmem d (List.mem_of_getElem? hd)
   have et:ps.take (k+1)=ps.take k++[plD i j]:=by
    rw [List.take_add_one,hd];rfl
   rw [et,List.foldl_append];generalize (ps.take k).foldl (zaB ts r c) g=left at *;have w:=zhj (g:=left) P hi hj S;obtain ⟨S',hf⟩:=zjO (g:=zc9 left (plD i j)) P (zkS hin) S;have hi2:InT ts (zaB ts r c left (plD i j)):=zjz hin;refine ⟨_,[some (false,.tup (ts.map zak)),some (false,flr r c g),some (false,flr r c (zaB ts r c left (plD i j))),some (false,plD i j),some (false,flr r c (zc9 left (plD i j)))],S',rfl,?_,_,_,rfl,hi2⟩;unfold zaB
   cases hb:zcF ts r c (zc9 left (plD i j)) with
   | true =>
    rw [hb] at hf;rw [if_pos rfl];generalize flr r c (zc9 left (plD i j))=fd at *;generalize flr r c left=fl at *;simp [zd2,w,hf]
   | false =>
    rw [hb] at hf;rw [if_neg (by decide)];generalize flr r c (zc9 left (plD i j))=fd at *;generalize flr r c left=fl at *
    simp [zd2,w,hf])
   (ρ:=[some (false,.tup (ts.map zak)),some (false,flr r c g),some (false,flr r c g),none,none]) (S:=S1) ⟨none,none,rfl,hg⟩
  rw [List.take_length] at e3;refine ⟨S2,?_⟩;generalize flr r c (ps.foldl (zaB ts r c) g)=res at *;generalize flr r c g=fl at *;simp [zcX,zaq,zge,e1,e2,e3]
end
end S2
namespace S2
open PySem
open L2 hiding D
section
variable{ts:Z2}{r c:Nat}{g:Z1}
structure StInv(ts:Z2)(r c:Nat)(g:Z1)(done:List D)(left:Z1):Prop where
 no:zcF ts r c left=false
 le:∀i j,left i j=none\/left i j=g i j
 ok:∀i j,plD i j∈done->(left i j).isSome=true->zcF ts r c (zeS left i j none)=true
theorem zj2{i j a b:Nat}(h:plD i j=plD a b):i=a/\j=b:=by
 unfold plD at h
 injection h with h
 injection h with h1 h2
 injection h2 with h2 h3
 injection h1 with h1
 injection h2 with h2
 omega
theorem zmh{done:List D}{left:Z1}{i j:Nat}(I:StInv ts r c g done left):StInv ts r c g (done++[plD i j]) (zaB ts r c left (plD i j)):=by
 unfold zaB
 cases hb:zcF ts r c (zc9 left (plD i j)) with
 | true =>
  rw [if_pos rfl];refine ⟨I.no,I.le,fun a b hm hs=>?_⟩
  rcases List.mem_append.mp hm with hm | hm
  ·exact I.ok a b hm hs
  ·obtain ⟨rfl,rfl⟩:=zj2 (List.mem_singleton.mp hm);rw [zej] at hb;exact hb
 | false =>
  rw [if_neg (by decide),zej] at *;refine ⟨hb,fun a b=>?_,fun a b hm hs=>?_⟩
  ·unfold zeS
   by_cases z:a=i/\b=j
   ·rw [if_pos z];exact .inl rfl
   ·rw [if_neg z];exact I.le a b
  ·rcases List.mem_append.mp hm with hm | hm
   ·by_cases z:a=i/\b=j
    ·unfold zeS at hs;rw [if_pos z] at hs;cases hs
    ·have hs':(left a b).isSome=true:=by
      unfold zeS at hs;rw [if_neg z] at hs;exact hs
     refine zgc (h:=zeS left a b none) (fun x y _ _=>?_) (I.ok a b hm hs');unfold zeS
     by_cases w:x=a/\y=b
     ·rw [if_pos w,if_pos w];exact .inl rfl
     ·rw [if_neg w,if_neg w]
      by_cases v:x=i/\y=j
      ·rw [if_pos v];exact .inl rfl
      ·rw [if_neg v];exact .inr rfl
   ·obtain ⟨rfl,rfl⟩:=zj2 (List.mem_singleton.mp hm);unfold zeS at hs;rw [if_pos ⟨rfl,rfl⟩] at hs;cases hs
theorem zik:∀(ps done:List D) (left:Z1),(∀d∈ps,∃i j,i<r/\j<c/\d=plD i j)->StInv ts r c g done left->StInv ts r c g (done++ps) (ps.foldl (zaB ts r c) left)
 | [],done,left,_,I=>by rw [List.append_nil];exact I
 | d::ps,done,left,hm,I=>by
  obtain ⟨i,j,_,_,rfl⟩:=hm d List.mem_cons_self;rw [List.foldl_cons,show done++plD i j::ps=(done++[plD i j])++ps by simp];exact zik ps _ _ (fun d hd=>hm d (List.mem_cons_of_mem _ hd)) (zmh I)
theorem zgw(h:zcF ts r c g=false):StInv ts r c g ((zce r c).filter (zbL g)) (zbQ ts r c g):=by
 have:=zik (ts:=ts) (r:=r) (c:=c) (g:=g) ((zce r c).filter (zbL g)) [] g (fun d hd=>zcC (List.mem_filter.mp hd).1) ⟨h,fun _ _=>.inr rfl,fun _ _ hm=>(List.not_mem_nil hm).elim⟩;rw [List.nil_append] at this;exact this
theorem zkL:∀(ps:List D) (left:Z1),(∀d∈ps,∃i j,i<r/\j<c/\d=plD i j)->InT ts left->InT ts (ps.foldl (zaB ts r c) left)
 | [],_,_,h=>h
 | d::ps,left,hm,h=>by
  obtain ⟨i,j,_,_,rfl⟩:=hm d List.mem_cons_self;exact zkL ps _ (fun d hd=>hm d (List.mem_cons_of_mem _ hd)) (zjz h)
theorem zlv(hg:InT ts g):InT ts (zbQ ts r c g):=zkL _ _ (fun d hd=>zcC (List.mem_filter.mp hd).1) hg
theorem zeC{i j:Nat}(hi:i<r)(hj:j<c)(h:(g i j).isSome=true):plD i j∈(zce r c).filter (zbL g):=List.mem_filter.mpr ⟨zqi hi hj,by rw [zhu];exact h⟩
end
end S2
namespace S2
open PySem
open L2 hiding D
section
variable{n:Nat}{ts:Z2}{gr:Z4}{r c:Nat}{b:Bool}
end
end S2
namespace S2
open PySem
open L2 hiding D
theorem zh3{L k:Nat}{d:D}(h:(zaC 0 (L:Int))[k]?=some d):k<L/\d=.int (k:Int):=by
 unfold zaC at h;simp only [Int.sub_zero,Int.toNat_natCast] at h;rw [List.getElem?_map] at h
 by_cases hk:k<L
 ·rw [List.getElem?_range hk] at h;refine ⟨hk,?_⟩;have:=(Option.some.inj h).symm;simpa using this
 ·rw [List.getElem?_eq_none (by simp;omega)] at h;cases h
section
variable{n:Nat}{ts:Z2}{gr:Z4}{r c:Nat}{b:Bool}
end
end S2
namespace S2
open PySem
open L2 hiding D
def xsT(ts:Z2)(c:Nat)(o:Option Int)(t:List Int):List Int:=(zc2 ts).filter fun x=>okO o x&&zlm ts c t x
def zjc(ts:Z2)(gr:Z4)(c:Nat):Nat->List Int->List (List Int)
 | 0,_=>[[]]
 | m+1,t=>(xsT ts c (gr.getD t.length none) t).flatMap fun x=>(zjc ts gr c m (t++[x])).map (x::·)
theorem zeg{α β:Type}{f g:α->List β}:∀{l:List α},(∀x∈l,f x=g x)->l.flatMap f=l.flatMap g
 | [],_=>rfl
 | x::l,h=>by rw [List.flatMap_cons,List.flatMap_cons,h x List.mem_cons_self,zeg fun y hy=>h y (List.mem_cons_of_mem _ hy)]
section
variable{ts:Z2}{gr:Z4}{c:Nat}
theorem zfA:∀m k,zax ts gr c (k+m)=(zax ts gr c k).flatMap fun t=>(zjc ts gr c m t).map (t++·)
 | 0,k=>by
  show zax ts gr c k=_;generalize zax ts gr c k=F
  induction F with
  | nil=>rfl
  | cons t F ih=>rw [List.flatMap_cons,<-ih];simp [zjc]
 | m+1,k=>by
  rw [show k+(m+1)=(k+1)+m by omega,zfA m (k+1)];show ((zax ts gr c k).flatMap (zev ts c (gr.getD k none))).flatMap _=_;rw [List.flatMap_assoc];apply zeg;intro t ht;have hl:=((zdU k).mem t ht).1;show ((((zc2 ts).filter fun x=>okO (gr.getD k none) x&&zlm ts c t x).map fun x=>t++[x]).flatMap _)=((xsT ts c (gr.getD t.length none) t).flatMap fun x=>(zjc ts gr c m (t++[x])).map (x::·)).map (t++·);rw [hl,List.flatMap_map,List.map_flatMap];apply zeg;intro x _;rw [List.map_map];apply List.map_congr_left;intro u _;simp
theorem zkQ{L:Nat}:zax ts gr c L=zjc ts gr c L []:=by
 have:=zfA (ts:=ts) (gr:=gr) (c:=c) L 0;rw [Nat.zero_add] at this;rw [this];simp [zax]
end
end S2
namespace S2
open PySem
open L2 hiding D
section
variable{n:Nat}{ts:Z2}{gr:Z4}{r c:Nat}{b:Bool}{S:Sto}
end
end S2
namespace S2
open PySem
open L2 hiding D
def mOb(Sz:D)(nw:Nat)(La We:D)(ds:List (D×D)):Ob:=⟨"Mends",[("size",false,Sz),("ways",false,.ref nw),("laid",false,La),("weights",false,We),("known",true,.dic ds)]⟩
structure MAt(S:Sto)(n nw:Nat)(ts:Z2)(gr la:Z4)(we:List Int)(r c:Nat)(ds:List (D×D)):Prop where
 at_:S[n]?=some (mOb (.tup [.int r,.int c]) nw (.lst (la.map oD)) (.lst (we.map D.int)) ds)
 wat:∃dw,WAt S nw ts gr r c false dw
 ne:n≠nw
def zbE(o:Option Int)(w x:Int):Int:=match o with | none=>0 | some y=>if y=x then 0 else w
theorem zhp{o:Option Int}{w x:Int}{S:Sto}:zc0 [oD o,.int w,.int x] S=.ok (.int (zbE o w x)) S:=by
 cases o with
 | none=>simp [zc0,zaq,zdX,oD,zbE]
 | some y=>by_cases h:y=x<;>simp [zc0,zaq,zdX,oD,zbE,h]
section
variable{S:Sto}{n nw:Nat}{ts:Z2}{gr la:Z4}{we:List Int}{r c:Nat}{ds:List (D×D)}
theorem MAt.ways(h:MAt S n nw ts gr la we r c ds):zfj "Mends" "ways" (.ref n) S=some (.ref nw):=by
 unfold zfj;dsimp only;rw [h.at_];rfl
theorem MAt.laid(h:MAt S n nw ts gr la we r c ds):zfj "Mends" "laid" (.ref n) S=some (.lst (la.map oD)):=by
 unfold zfj;dsimp only;rw [h.at_];rfl
theorem MAt.weights(h:MAt S n nw ts gr la we r c ds):zfj "Mends" "weights" (.ref n) S=some (.lst (we.map D.int)):=by
 unfold zfj;dsimp only;rw [h.at_];rfl
theorem MAt.known(h:MAt S n nw ts gr la we r c ds):zfE "Mends" "known" (.ref n) S=some (n,mOb (.tup [.int r,.int c]) nw (.lst (la.map oD)) (.lst (we.map D.int)) ds,ds):=by
 unfold zfE;dsimp only;rw [h.at_];rfl
theorem MAt.meth(h:MAt S n nw ts gr la we r c ds)(m:Str)(hm:(m == "size")=false/\(m == "ways")=false/\(m == "laid")=false/\(m == "weights")=false/\(m == "known")=false):zcz "Mends" m (.ref n) S=true:=by
 unfold zcz;dsimp only;rw [h.at_];obtain ⟨h1,h2,h3,h4,h5⟩:=hm;simp [mOb,List.lookup_cons,h1,h2,h3,h4,h5]
theorem MAt.len(h:MAt S n nw ts gr la we r c ds):n<S.length:=(List.getElem?_eq_some_iff.mp h.at_).1
theorem MAt.put(h:MAt S n nw ts gr la we r c ds)(ds':List (D×D)):MAt (S.set n (mOb (.tup [.int r,.int c]) nw (.lst (la.map oD)) (.lst (we.map D.int)) ds')) n nw ts gr la we r c ds':=by
 obtain ⟨dw,w⟩:=h.wat;exact ⟨by rw [List.getElem?_set_self h.len],⟨dw,⟨by rw [List.getElem?_set_ne h.ne];exact w.at_⟩⟩,h.ne⟩
end
abbrev Off:=Int×Int×Int×List (Option Int)
def lbo(os:List Off):Option (Int×Int):=if os.isEmpty then none else some (zeB (os.map (·.1)),((os.filter fun o=>decide (o.1=zeB (os.map (·.1)))).map (·.2.1)).sum)
def lfS(ts:Z2)(gr la:Z4)(we:List Int)(c:Nat):Nat->Nat->List (Option Int)->Option (Int×Int)
 | 0,_,_=>some (0,1)
 | m+1,k,s=>lbo ((chs ts gr c false k s).filterMap fun p=>(lfS ts gr la we c m (k+1) p.2).map fun q=>(zbE (la.getD k none) (we.getD k 0) p.1+q.1,q.2,p.1,p.2))
def lfD:Option (Int×Int)->D | none=>.non | some (a,b)=>.tup [.int a,.int b]
def zh9(o:Off):D:=.tup [.int o.1,.int o.2.1,.int o.2.2.1,zav o.2.2.2]
def zhe(ts:Z2)(gr la:Z4)(we:List Int)(c m k:Nat)(cs:List (Int×List (Option Int))):List Off:=cs.filterMap fun p=>(lfS ts gr la we c m (k+1) p.2).map fun q=>(zbE (la.getD k none) (we.getD k 0) p.1+q.1,q.2,p.1,p.2)
def zhL(ts:Z2)(gr la:Z4)(we:List Int)(c:Nat)(ds:List (D×D)):Prop:=∀(k:Nat) s d,zaK ((k:Int),s) ds=some d->d=lfD (lfS ts gr la we c (gr.length-k) k s)
structure LfOk(n nw:Nat)(ts:Z2)(gr la:Z4)(we:List Int)(r c m:Nat)(rc:List D->Sto->Out D):Prop where
 run:∀(S:Sto) (ds:List (D×D)) (k:Nat) (s:Z4),MAt S n nw ts gr la we r c ds->zhL ts gr la we c ds->k+m=gr.length->s.length=c+2->ds.length+zbK ts.length m<=1000000 →
  ∃ds',rc [.ref n,.int k,zav s] S=.ok (lfD (lfS ts gr la we c m k s)) (S.set n (mOb (.tup [.int r,.int c]) nw (.lst (la.map oD)) (.lst (we.map D.int)) ds'))/\zhL ts gr la we c ds'/\ds'.length<=ds.length+zbK ts.length m/\∀k' s',k'<k->zaK (((k':Nat):Int),s') ds'=zaK (((k':Nat):Int),s') ds
section
variable{n nw:Nat}{ts:Z2}{gr la:Z4}{we:List Int}{r c:Nat}
theorem zf4{m k:Nat}{rc:List D->Sto->Out D}(C:LfOk n nw ts gr la we r c m rc)(hk:k+1+m=gr.length)(hla:la.length=gr.length)(hwe:we.length=gr.length){s2:Option (Bool×D)}:∀(cs:List (Int×List (Option Int))) (L:List D) (S:Sto) (ds:List (D×D)) (x4 x5 x6 x7:Option (Bool×D)),(∀p∈cs,p.2.length=c+2)->MAt S n nw ts gr la we r c ds->zhL ts gr la we c ds->L.length+cs.length<=1000->ds.length+cs.length*zbK ts.length m<=1000000 →
  ∃ds' y4 y5 y6 y7,zef (.tup [4,5]) (zbg rc) (cs.map chD) [some (false,.ref n),some (false,.int k),s2,some (true,.lst L),x4,x5,x6,x7] S
   = .nx [some (false,.ref n),some (false,.int k),s2,some (true,.lst (L++(zhe ts gr la we c m k cs).map zh9)),y4,y5,y6,y7] (S.set n (mOb (.tup [.int r,.int c]) nw (.lst (la.map oD)) (.lst (we.map D.int)) ds'))/\zhL ts gr la we c ds'/\ds'.length<=ds.length+cs.length*zbK ts.length m/\∀k' s',k'<k+1->zaK (((k':Nat):Int),s') ds'=zaK (((k':Nat):Int),s') ds
 | [],L,S,ds,x4,x5,x6,x7,_,A,M,_,_=>⟨ds,x4,x5,x6,x7,by rw [zdc A.at_];simp [zef,zhe],M,by simp,fun _ _ _=>rfl⟩
 | p::cs,L,S,ds,x4,x5,x6,x7,hl,A,M,hL,hz=>by
  rw [List.length_cons,Nat.add_mul] at hz;rw [List.length_cons] at hL;obtain ⟨ds1,e1,M1,z1,u1⟩:=C.run S ds (k+1) p.2 A M hk (hl p List.mem_cons_self) (by omega);have e1':rc [.ref n,.int ((k:Int)+1),zav p.2] S=_:=e1;have mo:=A.meth "least_from" (by decide +kernel);have A1:=A.put ds1
  have hkg:k<gr.length:=by omega
  have g1:atI (la.map oD) (k:Int)=some (oD (la.getD k none)):=by
   rw [zbP,List.getElem?_map,List.getD_eq_getElem?_getD,List.getElem?_eq_getElem (by omega)];rfl
  have g2:atI (we.map D.int) (k:Int)=some (.int (we.getD k 0)):=by
   rw [zbP,List.getElem?_map,List.getD_eq_getElem?_getD,List.getElem?_eq_getElem (by omega)];rfl
  have hLs:L.length<=100000:=by omega
  cases hf:lfS ts gr la we c m (k+1) p.2 with
  | none =>
   rw [hf] at e1';obtain ⟨ds2,y4,y5,y6,y7,e2,M2,z2,u2⟩:=zf4 C hk hla hwe cs L _ ds1 (some (false,.int p.1)) (some (false,zav p.2)) (some (false,.non)) x7 (fun q hq=>hl q (List.mem_cons_of_mem _ hq)) A1 M1 (by omega) (by omega) (s2:=s2);refine ⟨ds2,y4,y5,y6,y7,?_,M2,by rw [List.length_cons,Nat.add_mul];omega,fun k' s' hk'=>(u2 k' s' hk').trans (u1 k' s' hk')⟩;rw [List.set_set] at e2
   have eo:zhe ts gr la we c m k (p::cs)=zhe ts gr la we c m k cs:=by unfold zhe;rw [List.filterMap_cons,hf];rfl
   rw [eo];have hnn:lfD none=.non:=rfl;rw [hnn] at e1';have hch:chD p=.tup [.int p.1,zav p.2]:=rfl;rw [List.map_cons,hch];unfold zef;generalize mOb (.tup [.int r,.int c]) nw (.lst (la.map oD)) (.lst (we.map D.int)) ds1=ob at *;generalize zav p.2=sd at *;simp [zbg,mo,e1'];exact e2
  | some q =>
   obtain ⟨qa,qb⟩:=q;rw [hf] at e1';have ec:=zhp (o:=la.getD k none) (w:=we.getD k 0) (x:=p.1) (S:=S.set n (mOb (.tup [.int r,.int c]) nw (.lst (la.map oD)) (.lst (we.map D.int)) ds1));have fl:=A1.laid;have fw:=A1.weights;obtain ⟨ds2,y4,y5,y6,y7,e2,M2,z2,u2⟩:=zf4 C hk hla hwe cs (L++[zh9 (zbE (la.getD k none) (we.getD k 0) p.1+qa,qb,p.1,p.2)]) _ ds1 (some (false,.int p.1)) (some (false,zav p.2)) (some (false,.tup [.int qa,.int qb])) (some (false,.int (zbE (la.getD k none) (we.getD k 0) p.1+qa))) (fun q hq=>hl q (List.mem_cons_of_mem _ hq)) A1 M1 (by rw [List.length_append,List.length_singleton];omega) (by omega) (s2:=s2);refine ⟨ds2,y4,y5,y6,y7,?_,M2,by rw [List.length_cons,Nat.add_mul];omega,fun k' s' hk'=>(u2 k' s' hk').trans (u1 k' s' hk')⟩;rw [List.set_set] at e2
   have eo:zhe ts gr la we c m k (p::cs)=(zbE (la.getD k none) (we.getD k 0) p.1+qa,qb,p.1,p.2)::zhe ts gr la we c m k cs:=by unfold zhe;rw [List.filterMap_cons,hf];rfl
   rw [eo,List.map_cons,List.map_cons];rw [List.append_assoc] at e2;have hoff:zh9 (zbE (la.getD k none) (we.getD k 0) p.1+qa,qb,p.1,p.2)=.tup [.int (zbE (la.getD k none) (we.getD k 0) p.1+qa),.int qb,.int p.1,zav p.2]:=rfl;rw [hoff] at e2 ⊢;have hnn:lfD (some (qa,qb))=.tup [.int qa,.int qb]:=rfl;rw [hnn] at e1';have hch:chD p=.tup [.int p.1,zav p.2]:=rfl;rw [hch];unfold zef;generalize mOb (.tup [.int r,.int c]) nw (.lst (la.map oD)) (.lst (we.map D.int)) ds1=ob at *;generalize zav p.2=sd at *;generalize oD (la.getD k none)=od at *;generalize we.getD k 0=wk at *;generalize zbE (la.getD k none) wk p.1=ck at *;simp [zbg,mo,e1',fl,fw,g1,g2,ec,hLs];exact e2
end
end S2
namespace S2
open PySem
open L2 hiding D
noncomputable def R3(f:Nat):=zfi 8 5 4 zaz zae zah f
section
variable{n nw:Nat}{ts:Z2}{gr la:Z4}{we:List Int}{r c:Nat}
structure Kept(n nw:Nat)(ts:Z2)(gr la:Z4)(we:List Int)(r c k a:Nat)(S:Sto)(ds:List (D×D))(o:Out D)(d:D)(ds':List (D×D)):Prop where
 eq:o=.ok d (S.set n (mOb (.tup [.int r,.int c]) nw (.lst (la.map oD)) (.lst (we.map D.int)) ds'))
 memo:zhL ts gr la we c ds'
 len:ds'.length<=ds.length+a
 old:∀k' s',k'<k->zaK (((k':Nat):Int),s') ds'=zaK (((k':Nat):Int),s') ds
theorem ziQ{m k f:Nat}{s:Z4}{S:Sto}{ds:List (D×D)}(C:LfOk n nw ts gr la we r c m (R3 f).2.2)(hk:k+1+m=gr.length)(hla:la.length=gr.length)(hwe:we.length=gr.length)(ht:TOk ts)(h1:1<=ts.length)(hg:∀o∈gr,∀x,o=some x->0<=x/\x<ts.length)(hc:1<=c)(hc2:c<=100)(hs:s.length=c+2)(A:MAt S n nw ts gr la we r c ds)(M:zhL ts gr la we c ds)(hz:ds.length+ts.length*zbK ts.length m<=1000000) :
  ∃ds',Kept n nw ts gr la we r c (k+1) (ts.length*zbK ts.length m) S ds ((R3 (f+1)).1 [.ref n,.int k,zav s] S) (.lst ((zhe ts gr la we c m k (chs ts gr c false k s)).map zh9)) ds':=by
 have hcl:=zfh (gr:=gr) (c:=c) (b:=false) (k:=k) (s:=s) h1;have hmul:(chs ts gr c false k s).length*zbK ts.length m<=ts.length*zbK ts.length m:=Nat.mul_le_mul_right _ hcl;obtain ⟨dw,W⟩:=A.wat;have ech:=zeQ (k:=k) (s:=s) W ht (by omega) hg hc hc2 hs;have hle:=ht.le;obtain ⟨ds',y4,y5,y6,y7,e,M',z',u'⟩:=zf4 (s2:=some (false,zav s)) C hk hla hwe (chs ts gr c false k s) [] S ds none none none none (ziA hc hs) A M (by simp only [List.length_nil];omega) (by omega);refine ⟨ds',?_,M',by omega,u'⟩;have mo:=W.meth "choices" (by decide +kernel);have fw:=A.ways;show zbo 8 false (zaz (R3 f).1 (R3 f).2.1 (R3 f).2.2) _ _=_;rw [List.nil_append] at e;generalize (zhe ts gr la we c m k (chs ts gr c false k s)).map zh9=res at *;generalize (chs ts gr c false k s).map chD=cs at *;generalize mOb (.tup [.int r,.int c]) nw (.lst (la.map oD)) (.lst (we.map D.int)) ds'=ob at *;generalize zav s=sd at *;generalize (R3 f).2.2=rc at *;simp [zaq,zaz,fw,mo,ech,e]
theorem zig(h1:1<=ts.length):∀m k s a b,lfS ts gr la we c m k s=some (a,b)->0<=b/\b<=((ts.length ^ m:Nat):Int)
 | 0,_,_,a,b,h=>by cases h;simp
 | m+1,k,s,a,b,h=>by
  have h':lbo (zhe ts gr la we c m k (chs ts gr c false k s))=some (a,b):=h
  have hb:∀o∈zhe ts gr la we c m k (chs ts gr c false k s),0<=o.2.1/\o.2.1<=((ts.length ^ m:Nat):Int):=by
   intro o ho;obtain ⟨p,_,hp⟩:=List.mem_filterMap.mp ho
   cases hf:lfS ts gr la we c m (k+1) p.2 with
   | none=>rw [hf] at hp;cases hp
   | some q =>
    rw [hf] at hp;cases hp;exact zig h1 m (k+1) p.2 q.1 q.2 hf
  have hlen:(zhe ts gr la we c m k (chs ts gr c false k s)).length<=ts.length:=Nat.le_trans (List.length_filterMap_le _ _) (zfh h1);unfold lbo at h';split at h'
  ·cases h'
  ·cases h';generalize zhe ts gr la we c m k (chs ts gr c false k s)=os at *;generalize zeB (os.map (·.1))=mn
   have key:∀l:List Off,(∀o∈l,0<=o.2.1/\o.2.1<=((ts.length ^ m:Nat):Int))->0<=(l.map (·.2.1)).sum/\(l.map (·.2.1)).sum<=(l.length:Int)*((ts.length ^ m:Nat):Int):=by
    intro l
    induction l with
    | nil=>intro _;simp
    | cons o l ih =>
     intro hl;obtain ⟨i1,i2⟩:=ih fun x hx=>hl x (List.mem_cons_of_mem _ hx)
     obtain ⟨j1,j2⟩:=hl o List.mem_cons_self;rw [List.map_cons,List.sum_cons,List.length_cons];refine ⟨by omega,?_⟩;rw [Int.natCast_add,Int.add_mul];omega
   obtain ⟨k1,k2⟩:=key (os.filter fun o=>decide (o.1=mn)) fun o ho=>hb o (List.mem_filter.mp ho).1
   refine ⟨k1,Int.le_trans k2 ?_⟩;have hfl:(os.filter fun o=>decide (o.1=mn)).length<=ts.length:=Nat.le_trans (List.length_filter_le _ _) hlen;have:=Nat.mul_le_mul_right (ts.length ^ m) hfl;rw [Nat.pow_succ,Nat.mul_comm (ts.length ^ m)]
   exact_mod_cast this
end
end S2
namespace S2
open PySem
open L2 hiding D
theorem zf8{f:Off->Int}:∀l:List Off,zbH (l.map fun o=>D.int (f o))=some (l.map f)
 | []=>rfl
 | o::l=>by rw [List.map_cons,List.map_cons];simp [zbH,zf8 l]
section
variable{n nw:Nat}{ts:Z2}{gr la:Z4}{we:List Int}{r c:Nat}
def zvK:D->D | .tup (d::_)=>d | _=>.non
def zuH:D->D | .tup (_::d::_)=>d | _=>.non
def isO(mn:Int):D->Bool | .tup (.int a::_)=>decide (a=mn) | _=>false
theorem znQ{k a f:Nat}{os:List Off}{s:Z4}{S:Sto}{ds ds':List (D×D)}(A:MAt S n nw ts gr la we r c ds)(h:Kept n nw ts gr la we r c k a S ds ((R3 f).1 [.ref n,.int ((k-1:Nat):Int),zav s] S) (.lst (os.map zh9)) ds')(hl:os.length<=1000)(hb:∀o∈os,0<=o.2.1/\o.2.1<=1000000) :
  Kept n nw ts gr la we r c k a S ds ((R3 (f+1)).2.1 [.ref n,.int ((k-1:Nat):Int),zav s] S) (lfD (lbo os)) ds':=by
 refine ⟨?_,h.memo,h.len,h.old⟩;have e:=h.eq;have mo:=A.meth "offers" (by decide +kernel);show zbo 5 false (zae (R3 f).1 (R3 f).2.1 (R3 f).2.2) _ _=_
 cases os with
 | nil =>
  show _=Out.ok D.non _;rw [List.map_nil] at e;generalize mOb (.tup [.int r,.int c]) nw (.lst (la.map oD)) (.lst (we.map D.int)) ds'=ob at *;generalize zav s=sd at *;generalize (R3 f).1=rc at *;generalize ((k-1:Nat):Int)=kk at *;simp [zaq,zae,mo,e]
 | cons o os =>
  have hne:((o::os).map zh9).length≠0:=by simp
  have c1:zbY (.one 0) zet (zai ixD (zao 0) (zaj (.int 0))) [none] ((o::os).map zh9) (S.set n (mOb (.tup [.int r,.int c]) nw (.lst (la.map oD)) (.lst (we.map D.int)) ds'))=.ok ((o::os).map fun o=>D.int o.1) (S.set n (mOb (.tup [.int r,.int c]) nw (.lst (la.map oD)) (.lst (we.map D.int)) ds')):=by
   rw [zbS (g:=zvK) (fun d hd=>by
    obtain ⟨o,_,rfl⟩:=List.mem_map.mp hd
    exact ⟨_,rfl,by simp [zh9,zvK]⟩),List.map_map]
   rfl
  have e2:zgR [.lst ((o::os).map fun o=>D.int o.1)]=some (.int (zeB ((o::os).map (·.1)))):=by
   show (zbH _).bind _=_;rw [zf8 (f:=fun o=>o.1)];rfl
  generalize hmn:zeB ((o::os).map (·.1))=mn at *
  have c2:zbY (.one 0) (zai eqD (zai ixD (zao 0) (zaj (.int 0))) (zao 1)) (zai ixD (zao 0) (zaj (.int 1))) [none,some (false,.int mn)] ((o::os).map zh9) (S.set n (mOb (.tup [.int r,.int c]) nw (.lst (la.map oD)) (.lst (we.map D.int)) ds'))=.ok (((o::os).filter fun o=>decide (o.1=mn)).map fun o=>D.int o.2.1) (S.set n (mOb (.tup [.int r,.int c]) nw (.lst (la.map oD)) (.lst (we.map D.int)) ds')):=by
   rw [zdZ (g:=zuH) (p:=isO mn) (fun d hd=>by
    obtain ⟨o,_,rfl⟩:=List.mem_map.mp hd
    exact ⟨_,rfl,by simp [zh9,isO],fun _=>by simp [zh9,zuH]⟩),List.filter_map,List.map_map]
   rfl
  have e3:znw [.lst (((o::os).filter fun o=>decide (o.1=mn)).map fun o=>D.int o.2.1)]=some (.int (((o::os).filter fun o=>decide (o.1=mn)).map (·.2.1)).sum):=by
   show (zbH _).bind _=_;rw [zf8 (f:=fun o=>o.2.1)];show (if _ then some (D.int _) else none)=_;rw [if_pos];rw [Bool.and_eq_true];refine ⟨decide_eq_true (by rw [List.length_map];exact Nat.le_trans (List.length_filter_le _ _) hl),?_⟩;rw [List.all_eq_true];intro x hx;obtain ⟨q,hq,rfl⟩:=List.mem_map.mp hx;exact decide_eq_true (hb q (List.mem_filter.mp hq).1)
  have elf:lfD (lbo (o::os))=.tup [.int mn,.int (((o::os).filter fun o=>decide (o.1=mn)).map (·.2.1)).sum]:=by
   subst hmn;rfl
  rw [elf]
  have l1:((o::os).map fun o=>D.int o.1).length<=100000:=by rw [List.length_map];omega
  have l2:(((o::os).filter fun o=>decide (o.1=mn)).map fun o=>D.int o.2.1).length<=100000:=by rw [List.length_map];exact Nat.le_trans (List.length_filter_le _ _) (by omega)
  have hol:(o::os).map zh9≠[]:=by simp
  clear elf hb hl h A hmn hne;generalize (((o::os).filter fun o=>decide (o.1=mn)).map (·.2.1)).sum=sm at *;generalize ((o::os).filter fun o=>decide (o.1=mn)).map (fun o=>D.int o.2.1)=fl at *;generalize (o::os).map (fun o=>D.int o.1)=il at *;generalize (o::os).map zh9=ol at *;generalize mOb (.tup [.int r,.int c]) nw (.lst (la.map oD)) (.lst (we.map D.int)) ds'=ob at *;generalize zav s=sd at *;generalize (R3 f).1=rc at *;generalize ((k-1:Nat):Int)=kk at *;simp [zaq,zae,mo,e,hol,c1,l1,e2,c2,l2,e3]
end
end S2
namespace S2
open PySem
open L2 hiding D
section
variable{n nw:Nat}{ts:Z2}{gr la:Z4}{we:List Int}{r c:Nat}
theorem zos{f:Nat}(hla:la.length=gr.length):LfOk n nw ts gr la we r c 0 (R3 (f+1)).2.2 where
 run:=fun S ds k s A M hk hs hz=>by
  refine ⟨ds,?_,M,Nat.le_add_right _ _,fun _ _ _=>rfl⟩;rw [zdc A.at_]
  have hk':k=la.length:=by omega
  subst hk';show zbo 4 false (zah (R3 f).1 (R3 f).2.1 (R3 f).2.2) _ _=_;simp [zaq,zah,A.laid,lfS,lfD]
theorem zot{m f:Nat}(C:LfOk n nw ts gr la we r c m (R3 f).2.2)(hla:la.length=gr.length)(hwe:we.length=gr.length)(ht:TOk ts)(h1:1<=ts.length)(hg:∀o∈gr,∀x,o=some x->0<=x/\x<ts.length)(hc:1<=c)(hc2:c<=100)(hp:ts.length ^ m<=1000000):LfOk n nw ts gr la we r c (m+1) (R3 (f+3)).2.2 where
 run:=fun S ds k s A M hk hs hz=>by
  have hne:decide ((k:Int)=(la.length:Int))=false:=decide_eq_false (by omega);have ek:=zhY (k:=(k:Int)) (s:=s);have hz':ds.length+(1+ts.length*zbK ts.length m)<=1000000:=hz;show ∃ds',zbo 4 false (zah (R3 (f+2)).1 (R3 (f+2)).2.1 (R3 (f+2)).2.2) _ _=_/\_
  cases hd:zaK ((k:Int),s) ds with
  | some d =>
   have hd':=M k s d hd;rw [show gr.length-k=m+1 by omega] at hd';subst hd';refine ⟨ds,?_,M,Nat.le_add_right _ _,fun _ _ _=>rfl⟩;rw [zdc A.at_];have hl:=A.laid;have hkn:=A.known;generalize zav s=sd at ek;generalize lfD (lfS ts gr la we c (m+1) k s)=cc at hd ⊢;simp [zaq,zah,hl,hkn,hne,ek,hd,zih]
  | none =>
   obtain ⟨ds1,K1⟩:=ziQ (k:=k) (s:=s) C (by omega) hla hwe ht h1 hg hc hc2 hs A M (by omega);have hlen:(zhe ts gr la we c m k (chs ts gr c false k s)).length<=1000:=Nat.le_trans (List.length_filterMap_le _ _) (Nat.le_trans (zfh h1) (Nat.le_trans ht.le (by decide)))
   have hbo:∀o∈zhe ts gr la we c m k (chs ts gr c false k s),0<=o.2.1/\o.2.1<=1000000:=by
    intro o ho;obtain ⟨p,_,hp'⟩:=List.mem_filterMap.mp ho
    cases hf:lfS ts gr la we c m (k+1) p.2 with
    | none=>rw [hf] at hp';cases hp'
    | some q =>
     rw [hf] at hp';cases hp';have:=zig h1 m (k+1) p.2 q.1 q.2 hf;exact ⟨this.1,Int.le_trans this.2 (Int.ofNat_le.mpr hp)⟩
   have K2:=znQ (k:=k+1) (s:=s) A K1 hlen hbo;have e1:(R3 (f+2)).2.1 [.ref n,.int (k:Int),zav s] S=.ok (lfD (lfS ts gr la we c (m+1) k s)) (S.set n (mOb (.tup [.int r,.int c]) nw (.lst (la.map oD)) (.lst (we.map D.int)) ds1)):=K2.eq;have M1:=K2.memo;have z1:=K2.len;have u1:=K2.old;have hd1:zaK ((k:Int),s) ds1=none:=(u1 k s (Nat.lt_succ_self k)).trans hd;have A1:=A.put ds1;have mo:=A.meth "least_by_offers" (by decide +kernel);generalize hv:lfD (lfS ts gr la we c (m+1) k s)=vv at e1 ⊢
   have hnd:zeq (mOb (.tup [.int r,.int c]) nw (.lst (la.map oD)) (.lst (we.map D.int)) ds1)=true:=by
    unfold zeq;show decide ((["size","ways","laid","weights","known"]:List Str).Nodup)=true;decide +kernel
   have hput:(mOb (.tup [.int r,.int c]) nw (.lst (la.map oD)) (.lst (we.map D.int)) ds1).put "known" true (.dic (ds1++[(nkD ((k:Int),s),vv)]))=mOb (.tup [.int r,.int c]) nw (.lst (la.map oD)) (.lst (we.map D.int)) (ds1++[(nkD ((k:Int),s),vv)]):=by rfl
   refine ⟨ds1++[(nkD ((k:Int),s),vv)],?_,?_,?_,?_⟩
   ·have A2:=A.put (ds1++[(nkD ((k:Int),s),vv)])
    have hl2:zaK ((k:Int),s) (ds1++[(nkD ((k:Int),s),vv)])=some vv:=by
     rw [zcd,hd1,zcm,if_pos rfl];rfl
    have hkey:zih [some (false,D.ref n),some (false,.int k),some (false,zav s),some (false,.tup [.int k,zav s])] 3=some ((k:Int),s):=ek;have hpk:=zkr (r:=vv) hkey A1.known hd1 (by omega) hnd;rw [hput,List.set_set] at hpk;have hkn:=A2.known;have hkn0:=A.known;have hgl:=A.laid;generalize mOb (.tup [.int r,.int c]) nw (.lst (la.map oD)) (.lst (we.map D.int)) (ds1++[(nkD ((k:Int),s),vv)])=ob2 at hpk hkn ⊢;generalize mOb (.tup [.int r,.int c]) nw (.lst (la.map oD)) (.lst (we.map D.int)) ds1=ob1 at hpk e1;generalize ds1++[(nkD ((k:Int),s),vv)]=ds2 at hkn hl2;generalize zav s=sd at ek e1 hkey hpk ⊢;generalize (R3 (f+2)).2.1=rc at e1 ⊢;simp [zaq,zah,hgl,hkn0,hne,ek,hd,mo,e1,hpk,hkey,hkn,hl2]
   ·intro k' s' d h';rw [zcd] at h'
    cases h2:zaK ((k':Int),s') ds1 with
    | some d'=>rw [h2] at h';cases h';exact M1 k' s' _ h2
    | none =>
     rw [h2,zcm] at h';have h'':(if some ((k:Int),s)=some ((k':Int),s') then some vv else none)=some d:=h';split at h''
     ·rename_i ee;cases h'';have ee':=Option.some.inj ee
      have ek':k=k':=by have z:(k:Int)=(k':Int):=congrArg Prod.fst ee';omega
      have es':s=s':=congrArg Prod.snd ee';subst ek';subst es';rw [show gr.length-k=m+1 by omega,hv]
     ·cases h''
   ·rw [List.length_append,List.length_singleton];show _<=ds.length+(1+ts.length*zbK ts.length m);omega
   ·intro k' s' hk';rw [zcd,u1 k' s' (by omega),zcm,if_neg]
    ·cases zaK ((k':Int),s') ds<;>rfl
    ·intro z;have z':(k:Int)=(k':Int):=congrArg Prod.fst (Option.some.inj z);omega
theorem zm2(hla:la.length=gr.length)(hwe:we.length=gr.length)(ht:TOk ts)(h1:1<=ts.length)(hg:∀o∈gr,∀x,o=some x->0<=x/\x<ts.length)(hc:1<=c)(hc2:c<=100):∀m f,ts.length ^ m<=1000000->LfOk n nw ts gr la we r c m (R3 (3*m+1+f)).2.2
 | 0,f,_=>by rw [show 3*0+1+f=f+1 by omega];exact zos hla
 | m+1,f,hp=>by
  have hp':ts.length ^ m<=1000000:=Nat.le_trans (Nat.pow_le_pow_right h1 (Nat.le_succ m)) hp;rw [show 3*(m+1)+1+f=(3*m+1+f)+3 by omega];exact zot (zm2 hla hwe ht h1 hg hc hc2 m f hp') hla hwe ht h1 hg hc hc2 hp'
end
end S2
namespace S2
open PySem
open L2 hiding D
theorem zma{c x:Str}{n:Nat}{ρ:Env}{S:Sto}{r:D}{ob:Ob}(h:S[n]?=some ob)(hc:ob.cls=c)(hl:ob.fs.length<1000):zgT c x ρ r (.ok (.ref n) S)=.nx ρ (S.set n (ob.put x false r)):=by
 show (match S[n]? with | some ob=>_ | none=>_)=_;rw [h];show (if _ then _ else _)=_;rw [if_pos];rw [Bool.and_eq_true];exact ⟨decide_eq_true hc,decide_eq_true hl⟩
theorem zlr{c x:Str}{n i:Nat}{ρ:Env}{S:Sto}{ob:Ob}(hi:ρ[i]?=some (some (false,.ref n)))(h:S[n]?=some ob)(hc:ob.cls=c)(hl:ob.fs.length<1000):zfS c x i ρ S=.nx ρ (S.set n (ob.put x true (.dic []))):=by
 unfold zfS;rw [hi];show (match S[n]? with | some ob=>_ | none=>_)=_;rw [h];show (if _ then _ else _)=_;rw [if_pos];rw [Bool.and_eq_true];exact ⟨decide_eq_true hc,decide_eq_true hl⟩
theorem zmQ{S:Sto}{a b x:Ob}:(S++[a,b]).set S.length x=S++[x,b]:=by
 rw [List.set_append_right _ _ (Nat.le_refl _),Nat.sub_self];rfl
theorem zkI{S:Sto}{a b:Ob}:(S++[a,b])[S.length]?=some a:=by
 rw [List.getElem?_append_right (Nat.le_refl _),Nat.sub_self];rfl
theorem zfp{r c:Nat}{S:Sto}(hr1:1<=r)(hr:r<=100)(hc1:1<=c)(hc:c<=100):zd7 [.int r,.int c] S=.ok (flr r c fun _ _=>none) S:=by
 have e1:zfv (.tup [.non]) (.int (c:Int))=some (.tup (zdv c fun _=>none)):=by
  show (if _ then _ else _)=_;rw [if_pos (by simp;omega),Int.toNat_natCast,znT]
 have e2:zfv (.tup [.tup (zdv c fun _=>none)]) (.int (r:Int))=some (flr r c fun _ _=>none):=by
  show (if _ then _ else _)=_;rw [if_pos (by simp;omega),Int.toNat_natCast,znU];rfl
 simp [zd7,zaq,zhz,e1,e2]
def weL(r c:Nat)(w:Nat->Nat->Int):List Int:=(zby r c).map fun p=>w p.1 p.2
theorem zgo{r c:Nat}{w:Nat->Nat->Int}:(zac r c fun i j=>some (w i j)).map oD=(weL r c w).map D.int:=by
 rw [zbm];unfold weL;rw [List.map_map,List.map_map];rfl
theorem zfg{r c:Nat}{g:Z1}{S:Sto}:zbY (.one 0) zet (eFn zaD [(zad 1),(zad 0)]) [none,some (false,flr r c g)] (zce r c) S=.ok ((zac r c g).map oD) S:=by
 rw [<-zeb];refine zbS fun d hd=>?_
 obtain ⟨i,j,hi,hj,rfl⟩:=zcC hd;refine ⟨_,rfl,?_⟩;have:=zdd (g:=g) (S:=S) hi hj;simp [this];rfl
theorem zjM{r c:Nat}{g:Z1}{w:Nat->Nat->Int}{T:D}{S:Sto}(h1:1<=r)(hr:r<=100)(hc1:1<=c)(hc:c<=100) :
  zbf [.ref S.length,T,flr r c g,flr r c fun i j=>some (w i j)] (S++[⟨"Mends",[]⟩])=.ok .non (S++[mOb (.tup [.int r,.int c]) (S.length+1) (.lst ((zac r c g).map oD)) (.lst ((weL r c w).map D.int)) [],wOb T (.lst ((zac r c fun _ _=>none).map oD)) (.tup [.int r,.int c]) false []]):=by
 have e1:∀S',zaP [flr r c g] S'=.ok (.lst (zce r c)) S':=fun S'=>zd6 h1 hr hc
 have e2:∀S',zbs [flr r c g] S'=.ok (.tup [.int r,.int c]) S':=fun S'=>zcA h1
 have e3:∀S',zd7 [.int r,.int c] S'=.ok (flr r c fun _ _=>none) S':=fun S'=>zfp h1 hr hc1 hc
 have e4:=fun S'=>zfg (r:=r) (c:=c) (g:=g) (S:=S')
 have e5:=fun S'=>zfg (r:=r) (c:=c) (g:=fun i j=>some (w i j)) (S:=S')
 have wg:=zgo (r:=r) (c:=c) (w:=w);rw [wg] at e5
 have l1:((zac r c g).map oD).length<=100000:=by
  rw [List.length_map,zat];exact Nat.le_trans (Nat.mul_le_mul hr hc) (by decide)
 have l2:((weL r c w).map D.int).length<=100000:=by
  rw [<-wg,List.length_map,zat];exact Nat.le_trans (Nat.mul_le_mul hr hc) (by decide)
 have ew:=zh0 (T:=T) (b:=false) (S:=S++[(⟨"Mends",zam "size" false (.tup [.int r,.int c]) []⟩:Ob)]) (g:=fun _ _=>none) (c:=c) h1 hr hc;rw [List.length_append,List.length_singleton] at ew
 have fs:zfj "Mends" "size" (.ref S.length) (S++[(⟨"Mends",zam "size" false (.tup [.int r,.int c]) []⟩:Ob)])=some (.tup [.int r,.int c]):=by
  unfold zfj;dsimp only;rw [List.getElem?_append_right (Nat.le_refl _),Nat.sub_self];rfl
 have q1:=zks (c:="Mends") (x:="size") (ρ:=[some (false,.ref S.length),some (false,T),some (false,flr r c g),some (false,flr r c fun i j=>some (w i j))]) (S:=S) (r:=.tup [.int r,.int c]) (fs:=[]) (n:=S.length) (by decide) rfl;have pl:=fun (o1 o2:Ob) (x:Str) (d:D) (h:o1.cls = "Mends") (hl:o1.fs.length<1000)=>zma (c:="Mends") (x:=x) (ρ:=[some (false,.ref S.length),some (false,T),some (false,flr r c g),some (false,flr r c fun i j=>some (w i j))]) (r:=d) (S:=S++[o1,o2]) (n:=S.length) zkI h hl
 simp only [zmQ] at pl;simp only [List.append_assoc,List.cons_append,List.nil_append] at ew;have n1:=zbw (x:="size") (o:=false) (d:=.tup [.int r,.int c]) (gs:=[]);have n2:=zbw (x:="ways") (o:=false) (d:=.ref (S.length+1)) (gs:=zam "size" false (.tup [.int r,.int c]) []);have n3:=zbw (x:="laid") (o:=false) (d:=.lst ((zac r c g).map oD)) (gs:=zam "ways" false (.ref (S.length+1)) (zam "size" false (.tup [.int r,.int c]) []));have n4:=zbw (x:="weights") (o:=false) (d:=.lst ((weL r c w).map D.int)) (gs:=zam "laid" false (.lst ((zac r c g).map oD)) (zam "ways" false (.ref (S.length+1)) (zam "size" false (.tup [.int r,.int c]) [])));have n0:([]:List (Str×Bool×D)).length=0:=rfl;generalize hw0:wOb T (.lst ((zac r c fun _ _=>none).map oD)) (.tup [.int r,.int c]) false []=w0 at *;have q2:=pl ⟨"Mends",zam "size" false (.tup [.int r,.int c]) []⟩ w0 "ways" (.ref (S.length+1)) rfl (by show (zam _ _ _ _).length<1000;omega);have q3:=pl ⟨"Mends",zam "ways" false (.ref (S.length+1)) (zam "size" false (.tup [.int r,.int c]) [])⟩ w0 "laid" (.lst ((zac r c g).map oD)) rfl (by show (zam _ _ _ _).length<1000;omega);have q4:=pl ⟨"Mends",zam "laid" false (.lst ((zac r c g).map oD)) (zam "ways" false (.ref (S.length+1)) (zam "size" false (.tup [.int r,.int c]) []))⟩ w0 "weights" (.lst ((weL r c w).map D.int)) rfl (by show (zam _ _ _ _).length<1000;omega);have q5:=zlr (c:="Mends") (x:="known") (i:=0) (ρ:=[some (false,.ref S.length),some (false,T),some (false,flr r c g),some (false,flr r c fun i j=>some (w i j))]) (S:=S++[⟨"Mends",zam "weights" false (.lst ((weL r c w).map D.int)) (zam "laid" false (.lst ((zac r c g).map oD)) (zam "ways" false (.ref (S.length+1)) (zam "size" false (.tup [.int r,.int c]) [])))⟩,w0]) (n:=S.length) rfl zkI rfl (by show (zam _ _ _ _).length<1000;omega);rw [zmQ] at q5
 have fin:(⟨"Mends",zam "weights" false (.lst ((weL r c w).map D.int)) (zam "laid" false (.lst ((zac r c g).map oD)) (zam "ways" false (.ref (S.length+1)) (zam "size" false (.tup [.int r,.int c]) [])))⟩:Ob).put "known" true (.dic [])=mOb (.tup [.int r,.int c]) (S.length+1) (.lst ((zac r c g).map oD)) (.lst ((weL r c w).map D.int)) []:=by rfl
 rw [fin] at q5;clear n0 n1 n2 n3 n4 pl fin;unfold Ob.put at q2 q3 q4;dsimp only at q2 q3 q4;generalize mOb (.tup [.int r,.int c]) (S.length+1) (.lst ((zac r c g).map oD)) (.lst ((weL r c w).map D.int)) []=mo at *;generalize zam "weights" false (.lst ((weL r c w).map D.int)) (zam "laid" false (.lst ((zac r c g).map oD)) (zam "ways" false (.ref (S.length+1)) (zam "size" false (.tup [.int r,.int c]) [])))=f4 at *;generalize zam "laid" false (.lst ((zac r c g).map oD)) (zam "ways" false (.ref (S.length+1)) (zam "size" false (.tup [.int r,.int c]) []))=f3 at *;generalize zam "ways" false (.ref (S.length+1)) (zam "size" false (.tup [.int r,.int c]) [])=f2 at *;generalize zam "size" false (.tup [.int r,.int c]) []=f1 at *;generalize (zac r c g).map oD=gl at *;generalize (weL r c w).map D.int=wl at *;generalize (flr r c fun _ _=>none)=fe at *;generalize (flr r c fun i j=>some (w i j))=fw at *;generalize flr r c g=fg at *;simp [zbf,zaq,zbW,e1,e2,e3,e4,e5,l1,l2,ew,fs,q1,q2,q3,q4,q5]
end S2
namespace S2
open PySem
open L2 hiding D
def zcQ(ts:Z2)(r c:Nat)(g:Z1)(w:Nat->Nat->Int):Option (Int×Int):=lfS ts (zac r c fun _ _=>none) (zac r c g) (weL r c w) c (r*c) 0 (List.replicate (c+2) none)
theorem zfT{S:Sto}{n nw:Nat}{ts:Z2}{gr la:Z4}{we:List Int}{r c:Nat}(A:MAt S n nw ts gr la we r c [])(hla:la.length=gr.length)(hwe:we.length=gr.length)(ht:TOk ts)(h1:1<=ts.length)(hg:∀o∈gr,∀x,o=some x->0<=x/\x<ts.length)(hc:1<=c)(hc2:c<=100)(hm:gr.length<=19)(hp:ts.length ^ gr.length<=1000000)(hq:zbK ts.length gr.length<=1000000) :
  ∃ds',za4 [.ref n] S=.ok (lfD (lfS ts gr la we c gr.length 0 (List.replicate (c+2) none))) (S.set n (mOb (.tup [.int r,.int c]) nw (.lst (la.map oD)) (.lst (we.map D.int)) ds'))/\zhL ts gr la we c ds'/\ds'.length<=zbK ts.length gr.length:=by
 have C:=zm2 (n:=n) (nw:=nw) (r:=r) hla hwe ht h1 hg hc hc2 gr.length (60-(3*gr.length+1)) hp;rw [show 3*gr.length+1+(60-(3*gr.length+1))=60 by omega] at C;obtain ⟨ds',e,M,z,_⟩:=C.run S [] 0 (List.replicate (c+2) none) A (fun k s d h=>by cases h) (by omega) (List.length_replicate ..) (by simpa using hq);refine ⟨ds',?_,M,by simpa using z⟩;have e':zaZ [.ref n,.int 0,zav (List.replicate (c+2) none)] S=_:=e;obtain ⟨dw,W⟩:=A.wat;have e2:=zdu W hc2;have m1:=A.meth "least_from" (by decide +kernel);have m2:=W.meth "first_seam" (by decide +kernel);have fw:=A.ways;generalize mOb (.tup [.int r,.int c]) nw (.lst (la.map oD)) (.lst (we.map D.int)) ds'=ob at *;generalize lfD (lfS ts gr la we c gr.length 0 (List.replicate (c+2) none))=vv at *;generalize zav (List.replicate (c+2) none)=sd at *;simp [za4,zaq,zbO,m1,m2,fw,e2,e']
theorem zpj{r c:Nat}{w:Nat->Nat->Int}:(weL r c w).length=r*c:=by
 have:=congrArg List.length (zgo (r:=r) (c:=c) (w:=w));rw [List.length_map,zat,List.length_map] at this;exact this.symm
theorem zhr{ts:Z2}:InT ts fun _ _=>none:=fun i j x h=>by cases h
theorem zhm{r c:Nat}{g h:Z1}{S:Sto}(h1:1<=r)(hr:r<=100):zbt [flr r c g,flr r c h] S=.ok .non S:=by
 have e:=zlE (r:=r) (c:=c) (r':=r) (c':=c) (g:=g) (h:=h) (S:=S) h1 (by omega);rw [decide_eq_true ⟨rfl,rfl⟩] at e;generalize flr r c g=fg at *;generalize flr r c h=fh at *;simp [zbt,zaq,zb9,e]
theorem zds{ts:Z2}{r c:Nat}{g:Z1}{w:Nat->Nat->Int}(P:FP ts r c)(S:Sto) :
  ∃S',zaE [.tup (ts.map zak),flr r c g,flr r c fun i j=>some (w i j)] S=.ok (lfD (zcQ ts r c g w)) S':=by
 obtain ⟨b1,b2⟩:=zjV ts.length (r*c) P.h4;have r6:=P.r6;have c6:=P.c6;have rc:=P.rc;have e0:=zhm (g:=g) (h:=fun i j=>some (w i j)) (S:=S) (c:=c) P.r1 (show r<=100 by omega);have e1:=zjM (T:=.tup (ts.map zak)) (S:=S) (g:=g) (w:=w) P.r1 (show r<=100 by omega) P.c1 (show c<=100 by omega);have A:MAt (S++[mOb (.tup [.int r,.int c]) (S.length+1) (.lst ((zac r c g).map oD)) (.lst ((weL r c w).map D.int)) [],wOb (.tup (ts.map zak)) (.lst ((zac r c fun _ _=>none).map oD)) (.tup [.int r,.int c]) false []]) S.length (S.length+1) ts (zac r c fun _ _=>none) (zac r c g) (weL r c w) r c []:=⟨zkI,⟨[],⟨by rw [List.getElem?_append_right (by omega),show S.length+1-S.length=1 by omega];rfl⟩⟩,by omega⟩;have gl:∀h:Nat->Nat->Option Int,(zac r c h).length=r*c:=fun h=>zat
 obtain ⟨ds',e2,_⟩:=zfT A (by rw [gl,gl]) (by rw [gl,zpj]) P.ht P.h1 (ze8 zhr) P.c1 (by omega) (by rw [gl];omega) (by rw [gl];omega) (by rw [gl];exact b1);rw [gl] at e2;have m:=A.meth "least_all" (by decide +kernel);obtain ⟨S',hS⟩:∃S',(S++[mOb (.tup [.int r,.int c]) (S.length+1) (.lst ((zac r c g).map oD)) (.lst ((weL r c w).map D.int)) [],wOb (.tup (ts.map zak)) (.lst ((zac r c fun _ _=>none).map oD)) (.tup [.int r,.int c]) false []]).set S.length (mOb (.tup [.int r,.int c]) (S.length+1) (.lst ((zac r c g).map oD)) (.lst ((weL r c w).map D.int)) ds')=S':=⟨_,rfl⟩;rw [hS] at e2;clear hS A;refine ⟨S',?_⟩;unfold zcQ;generalize lfD (lfS ts (zac r c fun _ _=>none) (zac r c g) (weL r c w) c (r*c) 0 (List.replicate (c+2) none))=vv at *;generalize mOb (.tup [.int r,.int c]) (S.length+1) (.lst ((zac r c g).map oD)) (.lst ((weL r c w).map D.int)) []=ob at *;generalize wOb (.tup (ts.map zak)) (.lst ((zac r c fun _ _=>none).map oD)) (.tup [.int r,.int c]) false []=wo at *;generalize (flr r c fun i j=>some (w i j))=fw at *;generalize flr r c g=fg at *;simp [zaE,zaq,zc5,e0,e1,m,e2]
end S2
namespace S2
open PySem
open L2 hiding D
theorem zgk(ns:List Int)(h:ns≠[]):zeB ns∈ns:=by
 have hl:0<ns.length:=List.length_pos_iff.mpr h;have hb:zmI ns<ns.length:=Nat.lt_of_le_of_lt (zla _ _) (by omega);unfold zeB;rw [List.getD_eq_getElem?_getD,List.getElem?_eq_getElem hb];exact List.getElem_mem hb
end S2
namespace S2
open PySem
open L2 hiding D
section
variable{S:Sto}{n nw:Nat}{ts:Z2}{gr la:Z4}{we:List Int}{r c:Nat}
end
end S2
namespace S2
open PySem
open L2 hiding D
section
variable{S:Sto}{n nw:Nat}{ts:Z2}{gr la:Z4}{we:List Int}{r c:Nat}
end
end S2
namespace S2
open PySem
open L2 hiding D
end S2
namespace S2
open PySem
open L2 hiding D
def agN(gr:Z4)(k:Nat)(t:List Int):Bool:=(List.range k).all fun i=>okO (gr.getD i none) (t.getD i 0)
theorem zmJ{gr:Z4}{k:Nat}{t:List Int}:agN gr (k+1) t=(agN gr k t&&okO (gr.getD k none) (t.getD k 0)):=by
 unfold agN;rw [List.range_succ,List.all_append];simp
theorem zo8{gr:Z4}{k:Nat}{t u:List Int}(h:k<=t.length):agN gr k (t++u)=agN gr k t:=by
 unfold agN;rw [Bool.eq_iff_iff,List.all_eq_true,List.all_eq_true]
 have e:∀i∈List.range k,(t++u).getD i 0=t.getD i 0:=fun i hi=>by
  have:=List.mem_range.mp hi;rw [List.getD_eq_getElem?_getD,List.getD_eq_getElem?_getD,List.getElem?_append_left (by omega)]
 constructor
 ·intro z i hi;have:=z i hi;rw [e i hi] at this;exact this
 ·intro z i hi;rw [e i hi];exact z i hi
theorem zes{ts:Z2}{gr:Z4}{c:Nat}:∀k,zax ts gr c k=(zax ts [] c k).filter (agN gr k)
 | 0=>rfl
 | k+1=>by
  show (zax ts gr c k).flatMap _=((zax ts [] c k).flatMap _).filter _;rw [zes k];have hl:∀t∈zax ts [] c k,t.length=k:=fun t ht=>((zdU k).mem t ht).1
  generalize zax ts [] c k=F at hl;have hn:([]:Z4).getD k none=none:=rfl;rw [hn]
  induction F with
  | nil=>rfl
  | cons t F ih =>
   have ih':=ih fun u hu=>hl u (List.mem_cons_of_mem _ hu)
   have ht:=hl t List.mem_cons_self;rw [List.flatMap_cons,List.filter_append,<-ih',List.filter_cons]
   have key:(zev ts c none t).filter (agN gr (k+1))=if agN gr k t then zev ts c (gr.getD k none) t else []:=by
    unfold zev;rw [List.filter_map]
    have ef:(agN gr (k+1)∘fun x=>t++[x])=fun x=>agN gr k t&&okO (gr.getD k none) x:=by
     funext x;show agN gr (k+1) (t++[x])=_;rw [zmJ,zo8 (by omega)]
     have:(t++[x]).getD k 0=x:=by rw [List.getD_eq_getElem?_getD,List.getElem?_append_right (by omega),ht];simp
     rw [this]
    rw [ef,List.filter_filter]
    cases ha:agN gr k t with
    | true =>
     simp only [Bool.true_and,if_true];rfl
    | false =>
     have:∀l:List Int,l.filter (fun a=>(false&&okO (gr.getD k none) a)&&(okO none a&&zlm ts c t a))=[]:=by
      intro l;rw [List.filter_eq_nil_iff];intro a _;simp
     rw [this];rfl
   rw [key]
   cases agN gr k t with
   | true=>simp only [if_true,List.flatMap_cons]
   | false=>simp
def zvO(ts:Z2)(r c:Nat):List (List Int):=zax ts [] c (r*c)
def agG(r c:Nat)(g:Z1)(t:List Int):Bool:=agN (zac r c g) (r*c) t
theorem zb1{ts:Z2}{r c:Nat}{g:Z1}:zba ts r c g=(zvO ts r c).filter (agG r c g):=zes _
theorem zeW{r c:Nat}(hc:1<=c):∀{k:Nat},k<r*c->(zby r c)[k]?=some (k / c,k % c):=by
 induction r with
 | zero=>intro k h;omega
 | succ r ih =>
  intro k h
  have hl:(zby r c).length=r*c:=by
   have:=zat (r:=r) (c:=c) (g:=fun _ _=>none);rw [zbm,List.length_map] at this;exact this
  have e:zby (r+1) c=zby r c++(List.range c).map fun j=>(r,j):=by
   unfold zby;rw [List.range_succ,List.flatMap_append];simp
  rw [e]
  by_cases z:k<r*c
  ·rw [List.getElem?_append_left (by omega)];exact ih z
  ·rw [List.getElem?_append_right (by omega),hl,List.getElem?_map]
   have h2:k<r*c+c:=by rw [Nat.succ_mul] at h;exact h
   rw [List.getElem?_range (by omega)]
   have hd:k / c=r:=by
    rw [Nat.div_eq_iff (by omega)];have:r*c=c*r:=Nat.mul_comm _ _
    constructor<;>first | omega | (rw [Nat.mul_comm];omega) | skip
    all_goals omega
   have hm:k % c=k-r*c:=by
    have:=Nat.div_add_mod k c;rw [hd] at this;rw [Nat.mul_comm] at this;omega
   rw [hd,hm];rfl
theorem zec{r c k:Nat}{g:Z1}(hc:1<=c)(h:k<r*c):(zac r c g).getD k none=g (k / c) (k % c):=by
 rw [zbm,List.getD_eq_getElem?_getD,List.getElem?_map,zeW hc h];rfl
theorem zhE{r c k:Nat}(hc:1<=c)(h:k<r*c):k / c<r:=Nat.div_lt_of_lt_mul (by rw [Nat.mul_comm];exact h)
theorem zkD{r c i j:Nat}(hi:i<r)(hj:j<c):i*c+j<r*c:=by
 have:=Nat.mul_le_mul_right c (show i+1<=r by omega);rw [Nat.succ_mul] at this;omega
theorem zkE{c i j:Nat}(hj:j<c):(i*c+j) / c=i/\(i*c+j) % c=j:=by
 have hc:0<c:=by omega
 constructor
 ·rw [Nat.mul_comm,Nat.mul_add_div hc,Nat.div_eq_of_lt hj,Nat.add_zero]
 ·rw [Nat.mul_comm,Nat.mul_add_mod,Nat.mod_eq_of_lt hj]
theorem zhK{r c:Nat}{g:Z1}{t:List Int}(hc:1<=c):agG r c g t=true↔∀i j,i<r->j<c->okO (g i j) (t.getD (i*c+j) 0)=true:=by
 unfold agG agN;rw [List.all_eq_true];constructor
 ·intro h i j hi hj;have:=h (i*c+j) (List.mem_range.mpr (zkD hi hj));rw [zec hc (zkD hi hj),(zkE hj).1,(zkE hj).2] at this;exact this
 ·intro h k hk;have hk:=List.mem_range.mp hk;rw [zec hc hk];have:=h (k / c) (k % c) (zhE hc hk) (Nat.mod_lt _ hc);rw [Nat.mul_comm,Nat.div_add_mod] at this;exact this
theorem zf2{o:Option Int}{x:Int}:okO o x=true↔o=none\/o=some x:=by
 cases o with
 | none=>simp [okO]
 | some y=>simp [okO]
structure RtL(ts:Z2)(c k:Nat)(t:List Int):Prop where
 len:t.length=k
 inr:InR ts t
 fit:∀i,i<k->zlm ts c (t.take i) (t.getD i 0)=true
theorem zfw{ts:Z2}{x:Int}:x∈zc2 ts↔0<=x/\x<ts.length:=by
 unfold zc2;rw [List.mem_map];constructor
 ·rintro ⟨i,hi,rfl⟩;have:=List.mem_range.mp hi;omega
 ·intro h;exact ⟨x.toNat,List.mem_range.mpr (by omega),by omega⟩
theorem zeY{ts:Z2}{c:Nat}:∀{k:Nat} {t:List Int},t∈zax ts [] c k↔RtL ts c k t
 | 0,t=>by
  constructor
  ·intro h;rw [List.mem_singleton.mp h];exact ⟨rfl,fun x hx=>(List.not_mem_nil hx).elim,fun i hi=>by omega⟩
  ·intro h;rw [List.eq_nil_of_length_eq_zero h.len];exact List.mem_singleton.mpr rfl
 | k+1,t=>by
  show t∈(zax ts [] c k).flatMap _↔_;rw [List.mem_flatMap];constructor
  ·rintro ⟨u,hu,ht⟩;have R:=zeY.mp hu;unfold zev at ht;obtain ⟨x,hx,rfl⟩:=List.mem_map.mp ht;obtain ⟨h1,h2⟩:=List.mem_filter.mp hx;rw [Bool.and_eq_true] at h2;have hx:=zfw.mp h1;refine ⟨by rw [List.length_append,R.len];rfl,fun y hy=>?_,fun i hi=>?_⟩
   ·rcases List.mem_append.mp hy with hy | hy
    ·exact R.inr y hy
    ·rw [List.mem_singleton.mp hy];exact hx
   ·by_cases z:i<k
    ·have e1:(u++[x]).take i=u.take i:=List.take_append_of_le_length (by rw [R.len];omega)
     have e2:(u++[x]).getD i 0=u.getD i 0:=by
      rw [List.getD_eq_getElem?_getD,List.getD_eq_getElem?_getD,List.getElem?_append_left (by rw [R.len];exact z)]
     rw [e1,e2];exact R.fit i z
    ·have hi':i=u.length:=by rw [R.len];omega
     subst hi'
     have e1:(u++[x]).take u.length=u:=by simp
     have e2:(u++[x]).getD u.length 0=x:=by
      rw [List.getD_eq_getElem?_getD,List.getElem?_append_right (Nat.le_refl _)];simp
     rw [e1,e2];exact h2.2
  ·intro R
   have hk:k<t.length:=by rw [R.len];omega
   have e:t=t.take k++[t.getD k 0]:=by
    have h1:t.getD k 0=t[k]:=by rw [List.getD_eq_getElem?_getD,List.getElem?_eq_getElem hk];rfl
    rw [h1,List.take_append_getElem hk,List.take_of_length_le (by rw [R.len];omega)]
   refine ⟨t.take k,zeY.mpr ⟨by rw [List.length_take,R.len];omega,fun x hx=>R.inr x (List.mem_of_mem_take hx),fun i hi=>?_⟩,?_⟩
   ·have h1:(t.take k).take i=t.take i:=by rw [List.take_take,Nat.min_eq_left (by omega)]
    have h2:(t.take k).getD i 0=t.getD i 0:=by
     rw [List.getD_eq_getElem?_getD,List.getD_eq_getElem?_getD,List.getElem?_take_of_lt hi]
    rw [h1,h2];exact R.fit i (by omega)
   ·have:t.take k++[t.getD k 0]∈zev ts c none (t.take k):=by
     unfold zev;refine List.mem_map.mpr ⟨t.getD k 0,List.mem_filter.mpr ⟨zfw.mpr ?_,?_⟩,rfl⟩
     ·have h1:t.getD k 0=t[k]:=by rw [List.getD_eq_getElem?_getD,List.getElem?_eq_getElem hk];rfl
      rw [h1];exact R.inr _ (List.getElem_mem hk)
     ·rw [R.fit k (by omega)];rfl
    rw [<-e] at this;exact this
theorem ziW{ts:Z2}{r c:Nat}{g:Z1}{t:List Int}:t∈zba ts r c g↔RtL ts c (r*c) t/\agG r c g t=true:=by
 rw [zb1,List.mem_filter];show t∈zax ts [] c (r*c)/\_↔_;rw [zeY]
structure RtG(ts:Z2)(r c:Nat)(G:Nat->Nat->Int):Prop where
 inr:∀i j,i<r->j<c->0<=G i j/\G i j<ts.length
 east:∀i j,i<r->j+1<c->zbF ts (G i j) 1=zbF ts (G i (j+1)) 3
 south:∀i j,i+1<r->j<c->zbF ts (G i j) 2=zbF ts (G (i+1) j) 0
def tnG(c:Nat)(t:List Int)(i j:Nat):Int:=t.getD (i*c+j) 0
theorem zj9{r c:Nat}:(zby r c).length=r*c:=by
 have:=zat (r:=r) (c:=c) (g:=fun _ _=>none);rw [zbm,List.length_map] at this;exact this
theorem zjm{t:List Int}{i j:Nat}(h:j<i):(t.take i).getD j 0=t.getD j 0:=by
 rw [List.getD_eq_getElem?_getD,List.getD_eq_getElem?_getD,List.getElem?_take_of_lt h]
theorem zjl{t:List Int}{i:Nat}(h:i<t.length)(h0:0<i):(t.take i).getLastD 0=t.getD (i-1) 0:=by
 rw [List.getLastD_eq_getLast?,List.getLast?_eq_getElem?,List.length_take,Nat.min_eq_left (by omega),List.getElem?_take_of_lt (by omega),List.getD_eq_getElem?_getD]
theorem zir{ts:Z2}{r c i j:Nat}{t:List Int}(hc:1<=c)(hl:t.length=r*c)(hi:i<r)(hj:j<c):zlm ts c (t.take (i*c+j)) (t.getD (i*c+j) 0)=true↔((0<j->zbF ts (tnG c t i (j-1)) 1=zbF ts (tnG c t i j) 3)/\(0<i->zbF ts (tnG c t (i-1) j) 2=zbF ts (tnG c t i j) 0)):=by
 have hk:=zkD hi hj
 have e1:(t.take (i*c+j)).length=i*c+j:=by rw [List.length_take];omega
 unfold zlm;rw [decide_eq_true_iff,e1,(zkE hj).2]
 have a:0<j->(t.take (i*c+j)).getLastD 0=tnG c t i (j-1):=fun h=>by
  rw [zjl (by omega) (by omega)];unfold tnG;congr 1;omega
 have hmul:0<i->(i-1)*c+c=i*c:=fun h=>by
  have:i=(i-1)+1:=by omega
  conv=>rhs;rw [this,Nat.succ_mul]
 have b:0<i->(t.take (i*c+j)).getD (i*c+j-c) 0=tnG c t (i-1) j:=fun h=>by
  have:=hmul h;rw [zjm (by omega)];unfold tnG;congr 1;omega
 have cc:c<=i*c+j↔0<i:=by
  constructor
  ·intro h
   rcases Nat.eq_zero_or_pos i with z | z
   ·subst z;omega
   ·exact z
  ·intro h;have:=hmul h;omega
 rw [cc];constructor
 ·rintro ⟨x,y⟩;exact ⟨fun h=>by rw [<-a h];exact x h,fun h=>by rw [<-b h];exact y h⟩
 ·rintro ⟨x,y⟩;exact ⟨fun h=>by rw [a h];exact x h,fun h=>by rw [b h];exact y h⟩
theorem znR{ts:Z2}{r c:Nat}{t:List Int}(hc:1<=c):RtL ts c (r*c) t↔t.length=r*c/\RtG ts r c (tnG c t):=by
 constructor
 ·intro R;have key:∀i j,i<r->j<c->_:=fun i j hi hj=>(zir hc R.len hi hj).mp (R.fit _ (zkD hi hj))
  refine ⟨R.len,⟨fun i j hi hj=>?_,fun i j hi hj=>?_,fun i j hi hj=>?_⟩⟩
  ·have hk:=zkD hi hj
   have e:tnG c t i j=t[i*c+j]'(by rw [R.len];exact hk):=by
    unfold tnG;rw [List.getD_eq_getElem?_getD,List.getElem?_eq_getElem (by rw [R.len];exact hk)];rfl
   rw [e];exact R.inr _ (List.getElem_mem _)
  ·exact (key i (j+1) hi hj).1 (by omega)
  ·exact (key (i+1) j hi hj).2 (by omega)
 ·rintro ⟨hl,G⟩;refine ⟨hl,fun x hx=>?_,fun k hk=>?_⟩
  ·obtain ⟨k,hk,rfl⟩:=List.mem_iff_getElem.mp hx
   have hk':k<r*c:=by omega
   have:=G.inr (k / c) (k % c) (zhE hc hk') (Nat.mod_lt _ hc);unfold tnG at this;rw [Nat.mul_comm,Nat.div_add_mod,List.getD_eq_getElem?_getD,List.getElem?_eq_getElem hk] at this;exact this
  ·have hi:=zhE hc hk;have hj:=Nat.mod_lt k hc;have:=(zir (ts:=ts) hc hl hi hj).mpr ⟨fun h=>by have:=G.east (k / c) (k % c-1) hi (by omega);rw [show k % c-1+1=k % c by omega] at this;exact this,fun h=>by have:=G.south (k / c-1) (k % c) (by omega) hj;rw [show k / c-1+1=k / c by omega] at this;exact this⟩;rw [Nat.mul_comm,Nat.div_add_mod] at this;exact this
theorem ziV{ts:Z2}{r c:Nat}{g:Z1}{t:List Int}(hc:1<=c):t∈zba ts r c g↔t.length=r*c/\RtG ts r c (tnG c t)/\∀i j,i<r->j<c->g i j=none\/g i j=some (tnG c t i j):=by
 rw [ziW,znR hc,zhK hc,and_assoc];constructor
 ·rintro ⟨a,b,h⟩;exact ⟨a,b,fun i j hi hj=>zf2.mp (h i j hi hj)⟩
 ·rintro ⟨a,b,h⟩;exact ⟨a,b,fun i j hi hj=>zf2.mpr (h i j hi hj)⟩
end S2
namespace S2
open PySem
open L2 hiding D
section
variable{ts:Z2}{r c:Nat}{g h:Z1}
theorem zhn{i j:Nat}{S:Sto}(h1:1<=r)(hi:i<r)(hj:j<c):zcW [flr r c g,plD i j] S=.ok (oD (g i j)) S:=by
 have e1:=zeM (g:=g) (S:=S) h1 hi hj;have e2:=zdd (g:=g) (S:=S) hi hj;generalize flr r c g=fg at *;generalize plD i j=pp at *;simp [zcW,zaq,zfc,e1,e2]
theorem zrp{a b:Int}:eqD (.int a) (.int b)=some (.bl (decide (a=b))):=by
 simp [eqD,zjU,D.py,PyData.eqv];rfl
end
end S2
namespace S2
open PySem
open L2 hiding D
theorem zoo{a b:Bool}:neD (.bl a) (.bl b)=some (.bl (!decide (a=b))):=by cases a<;>cases b<;>rfl
section
variable{ts:Z2}{r c:Nat}{g h:Z1}
theorem zmq{t:List Int}(hc:1<=c)(ht:t∈zba ts r c g):t.length=r*c:=((ziV hc).mp ht).1
end
end S2
namespace S2
open PySem
open L2 hiding D
theorem zie{ns:List Int}{x:Int}(h:x∈ns):zeB ns<=x:=by
 obtain ⟨j,hj,e⟩:=List.mem_iff_getElem.mp h;have:=(argBest_lt (fun i=>ns.getD i 0) (ns.length-1)).2 j (by omega);rw [List.getD_eq_getElem?_getD (l:=ns) (i:=j),List.getElem?_eq_getElem hj] at this;rw [<-e];exact this
def zcw(l:List Int):Option (Int×Int):=if l.isEmpty then none else some (zeB l,((l.countP fun x=>decide (x=zeB l):Nat):Int))
theorem zd1{l:List Int}:zcw l=none↔l=[]:=by
 unfold zcw
 cases l with
 | nil=>simp
 | cons a l=>simp
theorem zcp{l:List Int}{m n:Int}:zcw l=some (m,n)↔m∈l/\(∀x∈l,m<=x)/\n=((l.countP fun x=>decide (x=m):Nat):Int):=by
 unfold zcw;constructor
 ·intro h;split at h
  ·cases h
  ·rename_i hne;have hne':l≠[]:=fun z=>hne (by rw [z];rfl)
   have h':=Option.some.inj h;have e1:zeB l=m:=congrArg Prod.fst h';have e2:=congrArg Prod.snd h';subst e1;exact ⟨zgk l hne',fun x hx=>zie hx,e2.symm⟩
 ·rintro ⟨h1,h2,h3⟩;have hne:l≠[]:=List.ne_nil_of_mem h1;have:zeB l=m:=Int.le_antisymm (zie h1) (h2 _ (zgk l hne))
  have he:l.isEmpty=false:=by cases l with | nil=>exact absurd rfl hne | cons _ _=>rfl
  rw [he,this,h3];rfl
def lbP(ps:List (Int×Int)):Option (Int×Int):=if ps.isEmpty then none else some (zeB (ps.map (·.1)),((ps.filter fun o=>decide (o.1=zeB (ps.map (·.1)))).map (·.2)).sum)
theorem zta(os:List Off):lbo os=lbP (os.map fun o=>(o.1,o.2.1)):=by
 unfold lbo lbP;rw [List.map_map,List.filter_map,List.map_map]
 cases os<;>rfl
theorem zfF{α:Type}{f:α->List Int}{m:Int}:∀{xs:List α},(∀x∈xs,∀y∈f x,m<=y)->((((xs.filterMap fun x=>zcw (f x)).filter fun o=>decide (o.1=m)).map (·.2)).sum)=(((xs.flatMap f).countP fun y=>decide (y=m):Nat):Int)
 | [],_=>rfl
 | x::xs,h=>by
  have ih:=zfF (f:=f) (m:=m) (xs:=xs) fun y hy=>h y (List.mem_cons_of_mem _ hy)
  rw [List.flatMap_cons,List.countP_append,Int.natCast_add,<-ih,List.filterMap_cons]
  cases hb:zcw (f x) with
  | none =>
   rw [zd1.mp hb];simp
  | some q =>
   obtain ⟨q1,q2⟩:=q;obtain ⟨b1,b2,b3⟩:=zcp.mp hb;dsimp only;rw [List.filter_cons]
   by_cases e:q1=m
   ·subst e;simp only [decide_true,if_true,List.map_cons,List.sum_cons];rw [b3]
   ·rw [decide_eq_false e]
    have hc:(f x).countP (fun y=>decide (y=m))=0:=by
     rw [List.countP_eq_zero];intro y hy hd;have:=of_decide_eq_true hd;subst this;have h1:=b2 y hy;have h2:=h x List.mem_cons_self q1 b1;omega
    rw [hc];simp
theorem zlb{α:Type}{f:α->List Int}{xs:List α}:lbP (xs.filterMap fun x=>zcw (f x))=zcw (xs.flatMap f):=by
 by_cases hne:xs.filterMap (fun x=>zcw (f x))=[]
 ·rw [hne]
  have:xs.flatMap f=[]:=by
   rw [List.flatMap_eq_nil_iff];intro x hx;rw [List.filterMap_eq_nil_iff] at hne;exact zd1.mp (hne x hx)
  rw [this];rfl
 ·have hm:=zgk ((xs.filterMap fun x=>zcw (f x)).map (·.1)) (fun z=>hne (List.map_eq_nil_iff.mp z))
  have hle:∀x∈xs,∀y∈f x,zeB ((xs.filterMap fun x=>zcw (f x)).map (·.1))<=y:=by
   intro x hx y hy
   cases hb:zcw (f x) with
   | none=>rw [zd1.mp hb] at hy;exact (List.not_mem_nil hy).elim
   | some q =>
    obtain ⟨q1,q2⟩:=q;have:q1∈(xs.filterMap fun x=>zcw (f x)).map (·.1):=List.mem_map.mpr ⟨(q1,q2),List.mem_filterMap.mpr ⟨x,hx,hb⟩,rfl⟩;exact Int.le_trans (zie this) ((zcp.mp hb).2.1 y hy)
  have hc:=zfF hle;unfold lbP
  have he:(xs.filterMap fun x=>zcw (f x)).isEmpty=false:=by cases h:xs.filterMap fun x=>zcw (f x) with | nil=>exact absurd h hne | cons _ _=>rfl
  rw [he,hc];symm;refine zcp.mpr ⟨?_,fun y hy=>?_,rfl⟩
  ·obtain ⟨q,hq,e⟩:=List.mem_map.mp hm;obtain ⟨x,hx,hb⟩:=List.mem_filterMap.mp hq;obtain ⟨q1,q2⟩:=q;rw [<-e];exact List.mem_flatMap.mpr ⟨x,hx,(zcp.mp hb).1⟩
  ·obtain ⟨x,hx,hy⟩:=List.mem_flatMap.mp hy;exact hle x hx y hy
theorem zja{l:List Int}{a:Int}:zcw (l.map (a+·))=(zcw l).map fun q=>(a+q.1,q.2):=by
 cases hb:zcw l with
 | none=>rw [zd1.mp hb];rfl
 | some q =>
  obtain ⟨q1,q2⟩:=q;obtain ⟨b1,b2,b3⟩:=zcp.mp hb;refine zcp.mpr ⟨List.mem_map.mpr ⟨q1,b1,rfl⟩,fun y hy=>?_,?_⟩
  ·obtain ⟨x,hx,rfl⟩:=List.mem_map.mp hy;have:=b2 x hx;show a+q1<=a+x;omega
  ·rw [List.countP_map];show q2=_;rw [b3];congr 2;funext x;show _=decide (a+x=a+q1);congr 1;exact propext ⟨fun z=>by omega,fun z=>by omega⟩
theorem zfz{α β:Type}{f g:α->Option β}:∀{l:List α},(∀x∈l,f x=g x)->l.filterMap f=l.filterMap g
 | [],_=>rfl
 | x::l,h=>by rw [List.filterMap_cons,List.filterMap_cons,h x List.mem_cons_self,zfz fun y hy=>h y (List.mem_cons_of_mem _ hy)]
def zff(la:Z4)(we:List Int):Nat->List Int->Int
 | _,[]=>0
 | k,x::u=>zbE (la.getD k none) (we.getD k 0) x+zff la we (k+1) u
section
variable{ts:Z2}{gr la:Z4}{we:List Int}{c:Nat}
theorem zrw(hc:1<=c)(hg:∀o∈gr,∀x,o=some x->0<=x/\x<ts.length){t:List Int}{s:Z4}(h:SeamOk ts gr.length c t s)(hk:t.length<gr.length):chs ts gr c false t.length s=(xsT ts c (gr.getD t.length none) t).map fun x=>(x,ziE ts gr.length c false t.length s x):=by
 have ho:∀x,gr.getD t.length none=some x->0<=x/\x<ts.length:=by
  rw [List.getD_eq_getElem?_getD,List.getElem?_eq_getElem hk];exact hg _ (List.getElem_mem hk)
 unfold chs xsT;rw [zfu ho];congr 2;funext x;exact zis h hc hk
theorem zko(hc:1<=c)(hg:∀o∈gr,∀x,o=some x->0<=x/\x<ts.length):∀m t s,SeamOk ts gr.length c t s->t.length+m=gr.length->lfS ts gr la we c m t.length s=zcw ((zjc ts gr c m t).map (zff la we t.length))
 | 0,t,s,_,_=>by
  symm;exact zcp.mpr ⟨by simp [zjc,zff],fun x hx=>by simp [zjc,zff] at hx;omega,by simp [zjc,zff]⟩
 | m+1,t,s,h,hl=>by
  have hk:t.length<gr.length:=by omega
  show lbo ((chs ts gr c false t.length s).filterMap fun p=>(lfS ts gr la we c m (t.length+1) p.2).map fun q=>(zbE (la.getD t.length none) (we.getD t.length 0) p.1+q.1,q.2,p.1,p.2))=zcw (((xsT ts c (gr.getD t.length none) t).flatMap fun x=>(zjc ts gr c m (t++[x])).map (x::·)).map (zff la we t.length));rw [zta,List.map_filterMap,zrw hc hg h hk,List.filterMap_map,List.map_flatMap,<-zlb];congr 1;apply zfz;intro x _;have ih:=zko hc hg m (t++[x]) _ (h.next (x:=x) hc) (by rw [List.length_append,List.length_singleton];omega);rw [List.length_append,List.length_singleton] at ih;show ((lfS ts gr la we c m (t.length+1) (ziE ts gr.length c false t.length s x)).map _).map _=_;rw [ih]
  have e:((zjc ts gr c m (t++[x])).map (x::·)).map (zff la we t.length)=((zjc ts gr c m (t++[x])).map (zff la we (t.length+1))).map (zbE (la.getD t.length none) (we.getD t.length 0) x+·):=by
   rw [List.map_map,List.map_map];rfl
  rw [e,zja,Option.map_map];rfl
end
def zbB(r c:Nat)(g:Z1)(w:Nat->Nat->Int)(G:Nat->Nat->Int):Int:=((zby r c).map fun p=>zbE (g p.1 p.2) (w p.1 p.2) (G p.1 p.2)).sum
theorem zg3{la:Z4}{we:List Int}:∀(u:List Int) (k:Nat),zff la we k u=((List.range u.length).map fun i=>zbE (la.getD (k+i) none) (we.getD (k+i) 0) (u.getD i 0)).sum
 | [],k=>rfl
 | x::u,k=>by
  show zbE _ _ x+zff la we (k+1) u=_;rw [zg3 u (k+1),List.length_cons,List.range_succ_eq_map,List.map_cons,List.sum_cons,List.map_map];congr 2;apply List.map_congr_left;intro i _;show _=zbE (la.getD (k+(i+1)) none) (we.getD (k+(i+1)) 0) (u.getD i 0);rw [show k+1+i=k+(i+1) by omega]
theorem zeV{r c:Nat}(hc:1<=c):zby r c=(List.range (r*c)).map fun k=>(k / c,k % c):=by
 apply List.ext_getElem?;intro k
 by_cases h:k<r*c
 ·rw [zeW hc h,List.getElem?_map,List.getElem?_range h];rfl
 ·rw [List.getElem?_eq_none (by rw [zj9];omega),List.getElem?_eq_none (by rw [List.length_map,List.length_range];omega)]
theorem zpk{r c k:Nat}{w:Nat->Nat->Int}(hc:1<=c)(h:k<r*c):(weL r c w).getD k 0=w (k / c) (k % c):=by
 unfold weL;rw [List.getD_eq_getElem?_getD,List.getElem?_map,zeW hc h];rfl
theorem zoP{r c:Nat}{g:Z1}{w:Nat->Nat->Int}{t:List Int}(hc:1<=c)(hl:t.length=r*c):zff (zac r c g) (weL r c w) 0 t=zbB r c g w (tnG c t):=by
 rw [zg3,hl];unfold zbB;rw [zeV hc,List.map_map];congr 1;apply List.map_congr_left;intro k hk;have hk:=List.mem_range.mp hk;rw [Nat.zero_add,zec hc hk,zpk hc hk];show _=zbE (g (k / c) (k % c)) (w (k / c) (k % c)) (t.getD (k / c*c+k % c) 0);rw [Nat.mul_comm,Nat.div_add_mod]
section
variable{ts:Z2}{r c:Nat}{g:Z1}{w:Nat->Nat->Int}
abbrev rights(ts:Z2)(r c:Nat):List (List Int):=zba ts r c fun _ _=>none
theorem zfx(hc:1<=c):zcQ ts r c g w=zcw ((rights ts r c).map fun t=>zbB r c g w (tnG c t)):=by
 have h:=zko (ts:=ts) (gr:=zac r c fun _ _=>none) (la:=zac r c g) (we:=weL r c w) (c:=c) hc (ze8 zhr) (r*c) [] (List.replicate (c+2) none) (by rw [zat];exact SeamOk.first) (by rw [zat];simp);unfold zcQ;have h':lfS ts (zac r c fun _ _=>none) (zac r c g) (weL r c w) c (r*c) 0 (List.replicate (c+2) none)=_:=h;rw [h',<-zkQ];congr 1;apply List.map_congr_left;intro t ht;exact zoP hc (zmq hc (g:=fun _ _=>none) ht)
theorem zdg(hc:1<=c):zcQ ts r c g w=none↔rights ts r c=[]:=by
 rw [zfx hc,zd1,List.map_eq_nil_iff]
theorem zdS(hc:1<=c){m n:Int}:zcQ ts r c g w=some (m,n)↔(∃t∈rights ts r c,zbB r c g w (tnG c t)=m)/\(∀t∈rights ts r c,m<=zbB r c g w (tnG c t))/\n=(((rights ts r c).countP fun t=>decide (zbB r c g w (tnG c t)=m):Nat):Int):=by
 rw [zfx hc,zcp,List.mem_map,List.countP_map];constructor
 ·rintro ⟨a,b,d⟩;exact ⟨a,fun t ht=>b _ (List.mem_map.mpr ⟨t,ht,rfl⟩),d⟩
 ·rintro ⟨a,b,d⟩;refine ⟨a,fun x hx=>?_,d⟩;obtain ⟨t,ht,rfl⟩:=List.mem_map.mp hx;exact b t ht
end
end S2
namespace S2
open PySem
open L2 hiding D
theorem zhl{r c:Nat}{w:Nat->Nat->Int}{s:D}{S:Sto}{elt:Fe}(hr:r<=100)(hc:c<=100)(he:∀i j:Nat,i<r->j<c->elt [some (false,.int j),some (false,.int i),some (false,s)] S=.ok (.int (w i j)) S) :
  zbY (.one 0) zet (zaJ zch [(zcv 1 (.one 0) (zdp (zad 1)) zet elt [0,2])]) [none,some (false,.int c),some (false,s)] (zaC 0 r) S=.ok (zcG r c fun i j=>some (w i j)) S:=by
 have hb:-1000000<=(c:Int)/\(c:Int)<=1000000:=by omega
 have e:=zbS (tg:=.one 0) (elt:=zaJ zch [(zcv 1 (.one 0) (zdp (zad 1)) zet elt [0,2])]) (ρ0:=[none,some (false,.int c),some (false,s)]) (S:=S) (g:=fun d=>match d with | .int i=>zfq c fun j=>some (w i.toNat j) | _=>.non) (ds:=zaC 0 (r:Int)) (by
  intro d hd;obtain ⟨k,hk⟩:=List.getElem?_of_mem hd;obtain ⟨hi,rfl⟩:=zh3 hk;refine ⟨_,rfl,?_⟩
  have ei:=zbS (tg:=.one 0) (elt:=elt) (ρ0:=[none,some (false,.int k),some (false,s)]) (S:=S) (g:=fun d=>match d with | .int j=>.int (w k j.toNat) | _=>.non) (ds:=zaC 0 (c:Int)) (by
   intro d hd;obtain ⟨m,hm⟩:=List.getElem?_of_mem hd;obtain ⟨hj,rfl⟩:=zh3 hm;refine ⟨_,rfl,?_⟩;show elt [some (false,.int m),some (false,.int k),some (false,s)] S=Out.ok (.int (w k ((m:Int).toNat))) S;rw [Int.toNat_natCast]
   exact he k m hi hj)
  rw [zjR] at ei
  have e2:((List.range c).map fun m:Nat=>(match D.int (m:Int) with | .int j=>D.int (w k j.toNat) | _=>.non))=zdv c fun j=>some (w k j):=by
   unfold zdv;apply List.map_congr_left;intro m _;simp [oD]
  rw [e2] at ei
  have hl:(zdv c fun j=>some (w k j)).length<=100000:=by rw [zde];omega
  show _=Out.ok (zfq c fun j=>some (w ((k:Int).toNat) j)) S;rw [Int.toNat_natCast];unfold zfq;generalize zdv c (fun j=>some (w k j))=res at *
  simp [hb,ei,hl])
 rw [zjR] at e
 have e2:((List.range r).map fun k:Nat=>(match D.int (k:Int) with | .int i=>zfq c fun j=>some (w i.toNat j) | _=>.non))=zcG r c fun i j=>some (w i j):=by
  unfold zcG;apply List.map_congr_left;intro m _;simp
 rw [e2] at e;exact e
theorem zgg{o:Option Int}{w x:Int}(hw:0<=w):0<=zbE o w x:=by
 unfold zbE;split
 ·omega
 ·split<;>omega
theorem zfP{l:List Int}(h:∀x∈l,0<=x):0<=l.sum/\(l.sum=0↔∀x∈l,x=0):=by
 induction l with
 | nil=>simp
 | cons a l ih =>
  obtain ⟨h1,h2⟩:=ih fun x hx=>h x (List.mem_cons_of_mem _ hx)
  have ha:=h a List.mem_cons_self;rw [List.sum_cons];refine ⟨by omega,?_⟩;constructor
  ·intro z x hx
   rcases List.mem_cons.mp hx with rfl | hx
   ·omega
   ·exact (h2.mp (by omega)) x hx
  ·intro z;rw [z a List.mem_cons_self,h2.mpr fun x hx=>z x (List.mem_cons_of_mem _ hx)];rfl
section
variable{ts:Z2}{r c:Nat}{g:Z1}{w:Nat->Nat->Int}{G:Nat->Nat->Int}
theorem zf1{i j:Nat}(hi:i<r)(hj:j<c):(i,j)∈zby r c:=by
 unfold zby;exact List.mem_flatMap.mpr ⟨i,List.mem_range.mpr hi,List.mem_map.mpr ⟨j,List.mem_range.mpr hj,rfl⟩⟩
theorem ziy(hw:∀i j,0<=w i j):0<=zbB r c g w G:=by
 unfold zbB;refine (zfP fun x hx=>?_).1;obtain ⟨p,_,rfl⟩:=List.mem_map.mp hx;exact zgg (hw _ _)
theorem zfG(hw:∀i j,1<=w i j):zbB r c g w G=0↔∀i j,i<r->j<c->g i j=none\/g i j=some (G i j):=by
 unfold zbB
 rw [(zfP fun x hx=>by
  obtain ⟨p,_,rfl⟩:=List.mem_map.mp hx
  exact zgg (by have:=hw p.1 p.2;omega)).2]
 have key:∀i j,zbE (g i j) (w i j) (G i j)=0↔g i j=none\/g i j=some (G i j):=by
  intro i j;have:=hw i j;unfold zbE
  cases hg:g i j with
  | none=>simp
  | some y =>
   dsimp only
   by_cases e:y=G i j
   ·rw [if_pos e,e];simp
   ·rw [if_neg e];constructor
    ·intro z;omega
    ·rintro (z | z)
     ·cases z
     ·exact absurd (Option.some.inj z) e
 constructor
 ·intro h i j hi hj;exact (key i j).mp (h _ (List.mem_map.mpr ⟨(i,j),zf1 hi hj,rfl⟩))
 ·intro h x hx;obtain ⟨p,hp,rfl⟩:=List.mem_map.mp hx;obtain ⟨h1,h2⟩:=zdP hp;exact (key _ _).mpr (h _ _ h1 h2)
end
section
variable{ts:Z2}{r c:Nat}{g h:Z1}{w v:Nat->Nat->Int}
theorem zkY(hc:1<=c)(hw:∀i j,1<=w i j){t:List Int}:zbB r c g w (tnG c t)=0↔agG r c g t=true:=by
 rw [zfG hw,zhK hc];constructor
 ·intro h i j hi hj;exact zf2.mpr (h i j hi hj)
 ·intro h i j hi hj;exact zf2.mp (h i j hi hj)
theorem zfr(hc:1<=c):rights ts r c=zvO ts r c:=by
 show zba ts r c _=_;rw [zb1,List.filter_eq_self];intro t _;exact (zhK hc).mpr fun _ _ _ _=>rfl
theorem zeh(hc:1<=c)(hw:∀i j,1<=w i j):(zba ts r c g).length=(rights ts r c).countP fun t=>decide (zbB r c g w (tnG c t)=0):=by
 rw [zb1,zfr hc,List.countP_eq_length_filter];congr 2;funext t;rw [Bool.eq_iff_iff,decide_eq_true_iff,zkY hc hw]
theorem zi0(hc:1<=c)(hw:∀i j,1<=w i j){a b:Int}(hl:zcQ ts r c g w=some (a,b)):(a=0↔0<(zba ts r c g).length)/\(a=0->b=((zba ts r c g).length:Int))/\0<=a:=by
 obtain ⟨⟨t,ht,e⟩,h2,h3⟩:=(zdS hc).mp hl
 have hnn:0<=a:=by rw [<-e];exact ziy fun i j=>by have:=hw i j;omega
 refine ⟨⟨fun z=>?_,fun z=>?_⟩,fun z=>?_,hnn⟩
 ·subst z;rw [zeh hc hw,List.countP_pos_iff];exact ⟨t,ht,decide_eq_true e⟩
 ·rw [zeh hc hw,List.countP_pos_iff] at z;obtain ⟨u,hu,hd⟩:=z;have:=h2 u hu;have:=of_decide_eq_true hd;omega
 ·subst z;rw [h3,zeh hc hw]
end
end S2
namespace S2
open PySem
open L2 hiding D
section
variable{ts:Z2}{r c:Nat}{g h s:Z1}{w:Nat->Nat->Int}{G:Nat->Nat->Int}
def zhf(s h:Z1):Nat->Nat->Option Int:=fun i j=>if (s i j).isSome then none else h i j
theorem zoL{q:Z1}{i j a b:Nat}:zc9 q (plD i j) a b=if a=i/\b=j then none else q a b:=by rw [zej];rfl
open Classical in
theorem ziu:∀(ps:List D) (q:Z1) (a b:Nat),(∀d∈ps,∃i j,d=plD i j)->ps.foldl zc9 q a b=if plD a b∈ps then none else q a b
 | [],_,_,_,_=>by simp
 | d::ps,q,a,b,hp=>by
  obtain ⟨i,j,rfl⟩:=hp d (.head _);rw [List.foldl_cons,ziu ps _ a b fun d hd=>hp d (.tail _ hd),zoL]
  by_cases h1:plD a b∈ps
  ·rw [if_pos h1,if_pos (List.mem_cons_of_mem _ h1)]
  ·rw [if_neg h1]
   by_cases h2:a=i/\b=j
   ·obtain ⟨rfl,rfl⟩:=h2;rw [if_pos ⟨rfl,rfl⟩,if_pos (List.mem_cons_self ..)]
   ·rw [if_neg h2,if_neg];intro hm
    rcases List.mem_cons.mp hm with e | e
    ·exact h2 (zj2 e)
    ·exact h1 e
theorem zog:flr r c (((zce r c).filter (zbL s)).foldl zc9 h)=flr r c (zhf s h):=by
 apply zkM;intro i j hi hj;rw [ziu _ _ _ _ fun d hd=>by obtain ⟨i,j,_,_,e⟩:=zcC (List.mem_filter.mp hd).1;exact ⟨i,j,e⟩];unfold zhf
 by_cases hs:(s i j).isSome=true
 ·rw [if_pos (zeC hi hj hs),if_pos hs]
 ·rw [if_neg,if_neg hs];intro hm;have:=(List.mem_filter.mp hm).2;rw [zhu] at this;exact hs this
theorem zmO{α:Type}{f k:α->Int}:∀{l:List α},(∀x∈l,f x<=k x)->(l.map f).sum<=(l.map k).sum
 | [],_=>Int.le_refl _
 | x::l,hx=>by
  simp only [List.map_cons,List.sum_cons];have:=hx x (.head _);have:=zmO fun y hy=>hx y (.tail x hy)
  omega
theorem zjy{α:Type}{f k:α->Int}:∀{l:List α},(l.map fun x=>f x+k x).sum=(l.map f).sum+(l.map k).sum
 | []=>rfl
 | x::l=>by
  simp only [List.map_cons,List.sum_cons];have:=zjy (f:=f) (k:=k) (l:=l);omega
theorem zjx{α:Type}{f:α->Int}:∀{l:List α} {x:α},(∀y∈l,0<=f y)->x∈l->f x<=(l.map f).sum
 | y::l,x,hn,hx=>by
  simp only [List.map_cons,List.sum_cons]
  rcases List.mem_cons.mp hx with rfl | hx
  ·have:∀z∈l.map f,0<=z:=fun z hz=>by obtain ⟨u,hu,rfl⟩:=List.mem_map.mp hz;exact hn u (.tail _ hu)
   have:=(zfP this).1;omega
  ·have:=zjx (fun z hz=>hn z (.tail _ hz)) hx;have:=hn y (.head _);omega
theorem zkW(hw:∀i j,0<=w i j)(hl:LeG r c s h):zbB r c s w G<=zbB r c h w G:=by
 apply zmO;intro p hp;obtain ⟨hi,hj⟩:=zdP hp
 rcases hl p.1 p.2 hi hj with e | e
 ·rw [e];exact zgg (hw _ _)
 ·rw [e];exact Int.le_refl _
theorem zmx(hl:LeG r c s h):zbB r c h w G=zbB r c s w G+zbB r c (zhf s h) w G:=by
 unfold zbB;rw [<-zjy];congr 1;apply List.map_congr_left;intro p hp;obtain ⟨hi,hj⟩:=zdP hp;unfold zhf
 cases hs:s p.1 p.2 with
 | none=>simp [zbE]
 | some x =>
  rcases hl p.1 p.2 hi hj with e | e
  ·rw [hs] at e;cases e
  ·rw [<-e,hs];simp [zbE]
theorem zkX(hc:1<=c)(hw:∀i j,1<=w i j){t:List Int}(ht:t∈rights ts r c)(hs:zcF ts r c s=false):∃i j,i<r/\j<c/\(s i j).isSome=true/\w i j<=zbB r c s w (tnG c t):=by
 have hz:zbB r c s w (tnG c t)≠0:=fun z=>by
  have h1:=(zkY hc hw (g:=s) (t:=t)).mp z
  have:t∈zba ts r c s:=by rw [zb1];exact List.mem_filter.mpr ⟨by rw [<-zfr hc];exact ht,h1⟩
  unfold zcF at hs;rw [Bool.not_eq_false'] at hs;rw [List.isEmpty_iff.mp hs] at this;cases this
 have:¬ ∀i j,i<r->j<c->s i j=none\/s i j=some (tnG c t i j):=fun z=>hz ((zfG hw).mpr z)
 apply Classical.byContradiction;intro hno;apply this;intro i j hi hj
 cases hs:s i j with
 | none=>exact .inl rfl
 | some x =>
  right;apply Classical.byContradiction;intro hne;apply hno;refine ⟨i,j,hi,hj,by rw [hs];rfl,?_⟩;have:=zjx (f:=fun p:Nat×Nat=>zbE (s p.1 p.2) (w p.1 p.2) (tnG c t p.1 p.2)) (l:=zby r c) (fun p _=>zgg (by have:=hw p.1 p.2;omega)) (zf1 hi hj);refine Int.le_trans ?_ this;show w i j<=zbE (s i j) (w i j) (tnG c t i j);rw [hs];have hx:x≠tnG c t i j:=fun z=>hne (by rw [z])
  simp [zbE,hx]
  try omega
end
end S2
namespace S2.L32
open PySem
open L2 hiding D
noncomputable def zdL:Fs :=
  (zal (sFz [1,7,10] (zbT 7 false (eFn zbh [(zad 1),(zad 7),(zad 10),(zaj .non)]))) sNx)
noncomputable def zcN:Fs :=
  (zal (sFz [1,9,5] (sIf (zai gtD (zai ixD (eFn zaE [(zad 1),(zad 9),(zad 5)]) (zaj (.int 0))) (zao 6)) (zal (sFz [] (zbn (zaj (.bl false)))) sNx) sNx)) (zal (sFz [9,5] (zbT 8 false (zai zcg (zao 8) (zaJ zgR [(zcv 1 (.one 0) (zaX (eFn zaQ [(zad 9)])) zet (eFn zcW [(zad 1),(zad 0)]) [5])])))) (zal (sFz [9] (zhZ (.one 10) (zaX (eFn zaQ [(zad 9)])) zdL)) (zal (sFz [1,7] (zbT 9 false (eFn zcX [(zad 1),(zad 7)]))) sNx))))
noncomputable def zhP:Fs:=zal (sFz [1,7] (zbn (zhD (zai leD (zao 8) (zao 6)) (zai gtD (eFn zaF [(zad 1),(zad 7)]) (zaj (.int 0)))))) sNx
noncomputable def zhQ:Fs:=zal (sFz [] (zgC 100000 (zai zdo (zao 9) (zaj .non)) zcN)) zhP
noncomputable def zhR:Fs:=zal (sFz [1,7] (zbT 9 false (eFn zcX [(zad 1),(zad 7)]))) zhQ
noncomputable def zjn:Fs:=zal (sFz [] (zbT 8 false (zaj (.int 0)))) zhR
noncomputable def zjo:Fs:=zal (sFz [4] (zbT 7 false (zad 4))) zjn
noncomputable def zhg:Fs:=zal (sFz [1,4] (sIf (zai neD (zai gtD (zao 6) (zaj (.int 0))) (zai zdo (eFn zcX [(zad 1),(zad 4)]) (zaj .non))) (zal (sFz [] (zbn (zaj (.bl false)))) sNx) sNx)) zjo
noncomputable def zjp:Fs:=zal (sFz [1,4,5] (zbT 6 false (zai ixD (eFn zaE [(zad 1),(zad 4),(zad 5)]) (zaj (.int 0))))) zhg
noncomputable def zfN:Fs:=zal (sFz [1,2,3] (sIf (zai eqD (eFn zaF [(zad 1),(eFn zd7 [(zad 2),(zad 3)])]) (zaj (.int 0))) (zal (sFz [1,4,5,1,4] (zbn (zhD (zai zmg (eFn zaE [(zad 1),(zad 4),(zad 5)]) (zaj .non)) (zai eqD (eFn zaQ [(eFn zcX [(zad 1),(zad 4)])]) (zg1 []))))) sNx) sNx)) zjp
noncomputable def zjq:Fs:=zal (sFz [2,3,0] (zbT 5 false (zaJ zch [(zcv 1 (.one 0) (zdp (zad 2)) zet (zaJ zch [(zcv 1 (.one 0) (zdp (zad 1)) zet (zai zcg (zaj (.int 1)) (eFn zaw [(zad 2),(zai zcg (zai zcg (zaj (.int 200)) (zai zfv (zaj (.int 7)) (zao 1))) (zao 0)),(zaj (.int 4))])) [0,2])]) [3,0])]))) zfN
noncomputable def zjr:Fs:=zal (sFz [0,1,2,3] (zbT 4 false (eFn zcl [(zad 0),(zaj (.int 100)),(zad 1),(zad 2),(zad 3),(zaj (.int 2))]))) zjq
noncomputable def zjs:Fs:=zal (sFz [0] (zhi (.tup [2,3]) (eFn zck [(zad 0),(zaj (.int 90))]))) zjr
noncomputable def zjt:Fs:=zal (sFz [0] (zbT 1 false (eFn zcj [(zad 0),(zaj (.int 0)),(zaj (.int 3))]))) zjs
noncomputable def zoH:Fs :=
  zjt
noncomputable def zqa:List S2.D->Sto->Out S2.D:=zbo 11 false zoH
end S2.L32
namespace S2.L32
open PySem
open L2 hiding D
abbrev Sl:=Option (Bool×D)
def wP(w:Nat->Nat->Int):D->Int | .tup [.int i,.int j]=>w i.toNat j.toNat | _=>0
theorem zpl{w:Nat->Nat->Int}{i j:Nat}:wP w (plD i j)=w i j:=by
 show w ((i:Int)).toNat ((j:Int)).toNat=_;rw [Int.toNat_natCast,Int.toNat_natCast]
theorem zmi{l:List Int}:zbH (l.map D.int)=some l:=by
 induction l with
 | nil=>rfl
 | cons x l ih=>simp [zbH,ih]
section
variable{ts:Z2}{r c:Nat}{g h s:Z1}{w:Nat->Nat->Int}
def zoS(r c:Nat)(h:Z1):Nat:=(zby r c).countP fun p=>(h p.1 p.2).isSome
theorem zix{α:Type}{p q:α->Bool}:∀{l:List α},(∀x∈l,p x=true->q x=true)->(∃x∈l,q x=true/\p x=false)->l.countP p<l.countP q
 | [],_,h=>by obtain ⟨x,hx,_⟩:=h;cases hx
 | y::l,hm,h=>by
  have hm':∀x∈l,p x=true->q x=true:=fun x hx=>hm x (.tail _ hx)
  have hle:l.countP p<=l.countP q:=List.countP_mono_left hm';have h0:=hm y (.head _);rw [List.countP_cons,List.countP_cons];obtain ⟨x,hx,hq,hp⟩:=h
  rcases List.mem_cons.mp hx with rfl | hx
  ·rw [hq,hp];simp;omega
  ·have:=zix hm' ⟨x,hx,hq,hp⟩
   cases hpy:p y with
   | true=>rw [h0 hpy];simp;omega
   | false=>simp;omega
theorem zoR{i j:Nat}(hl:LeG r c s h)(hi:i<r)(hj:j<c)(hs:(s i j).isSome=true):zoS r c (zhf s h)<zoS r c h:=by
 apply zix
 ·intro p _ hp;unfold zhf at hp;split at hp
  ·cases hp
  ·exact hp
 ·refine ⟨(i,j),zf1 hi hj,?_,?_⟩
  ·rcases hl i j hi hj with e | e
   ·rw [e] at hs;cases hs
   ·show (h i j).isSome=true;rw [<-e];exact hs
  ·show (zhf s h i j).isSome=false;unfold zhf;rw [if_pos hs];rfl
theorem zm0(hh:InT ts h):InT ts (zhf s h):=by
 intro i j x e;unfold zhf at e;split at e
 ·cases e
 ·exact hh i j x e
theorem zqF(hl:LeG r c h g):LeG r c (zhf s h) g:=by
 intro i j hi hj;unfold zhf;split
 ·exact .inl rfl
 ·exact hl i j hi hj
theorem zqW{S:Sto}{s0 s2 s3 s4 s5 s6 s8 s9:Sl}(P:FP ts r c):∀(ps:List D) (h:Z1),(∀d∈ps,∃i j,i<r/\j<c/\d=plD i j)->∀s10:Sl,∃s10':Sl,zef (.one 10) zdL ps [s0,some (false,.tup (ts.map zak)),s2,s3,s4,s5,s6,some (false,flr r c h),s8,s9,s10] S=.nx [s0,some (false,.tup (ts.map zak)),s2,s3,s4,s5,s6,some (false,flr r c (ps.foldl zc9 h)),s8,s9,s10'] S
 | [],h,_,s10=>⟨s10,rfl⟩
 | d::ps,h,hp,s10=>by
  obtain ⟨i,j,hi,hj,rfl⟩:=hp d (.head _);have r6:=P.r6;have c6:=P.c6;have e:=zdM (ts:=ts) (g:=h) (o:=none) (S:=S) (fun x z=>by cases z) P.r1 hi hj (by omega) (by omega);obtain ⟨s10',e2⟩:=zqW (S:=S) (s0:=s0) (s2:=s2) (s3:=s3) (s4:=s4) (s5:=s5) (s6:=s6) (s8:=s8) (s9:=s9) P ps (zc9 h (plD i j)) (fun d hd=>hp d (.tail _ hd)) (some (false,plD i j));refine ⟨s10',?_⟩;rw [List.foldl_cons];rw [zej] at e2 ⊢;have e':zbh [.tup (ts.map zak),flr r c h,plD i j,.non] S=.ok (flr r c (zeS h i j none)) S:=e;generalize flr r c (zeS h i j none)=f1 at *;generalize flr r c (List.foldl zc9 (zeS h i j none) ps)=f2 at *;generalize flr r c h=f0 at *;generalize ts.map zak=tsd at *
  have eb:zdL [s0,some (false,.tup tsd),s2,s3,s4,s5,s6,some (false,f0),s8,s9,some (false,plD i j)] S=.nx [s0,some (false,.tup tsd),s2,s3,s4,s5,s6,some (false,f1),s8,s9,some (false,plD i j)] S:=by
   simp [zdL,e']
  unfold zef;show (match zdL [s0,some (false,.tup tsd),s2,s3,s4,s5,s6,some (false,f0),s8,s9,some (false,plD i j)] S with | .nx ρ' S'=>zef (.one 10) zdL ps ρ' S' | .ct ρ' S'=>zef (.one 10) zdL ps ρ' S' | .bk ρ' S'=>.nx ρ' S' | o=>o)=_;rw [eb];exact e2
theorem zrt{S:Sto}:∀(ps:List D),1<=r->(∀d∈ps,∃i j,i<r/\j<c/\d=plD i j)->zbY (.one 0) zet (eFn zcW [(zad 1),(zad 0)]) [none,some (false,flr r c fun i j=>some (w i j))] ps S=.ok ((ps.map (wP w)).map D.int) S:=by
 intro ps h1 hp
 rw [zbS (g:=fun d=>D.int (wP w d)) (fun d hd=>by
  obtain ⟨i,j,hi,hj,rfl⟩:=hp d hd;refine ⟨_,rfl,?_⟩;have e:=zhn (g:=fun i j=>some (w i j)) (S:=S) h1 hi hj;rw [zpl];generalize flr r c (fun i j=>some (w i j))=fw at *
  simp [e,oD]),List.map_map]
 rfl
theorem zjB(hne:rights ts r c≠[])(hs:zcF ts r c s=false):∃i j,i<r/\j<c/\(s i j).isSome=true:=by
 apply Classical.byContradiction;intro hno;apply hne
 have hle:LeG r c s fun _ _=>none:=fun i j hi hj=>by
  cases e:s i j with
  | none=>exact .inl rfl
  | some x=>exact (hno ⟨i,j,hi,hj,by rw [e];rfl⟩).elim
 have:zcF ts r c (fun _ _=>none)=false:=by
  cases hb:zcF ts r c (fun _ _=>none) with
  | false=>rfl
  | true=>rw [zgc hle hb] at hs;cases hs
 unfold zcF at this;rw [Bool.not_eq_false'] at this;exact List.isEmpty_iff.mp this
abbrev envL(l:List Int)(ts:Z2)(r c:Nat)(g:Z1)(w:Nat->Nat->Int)(a:Int)(h:Z1)(due:Int)(so:D)(s10:Sl):Env :=
 [some (false,.scr l),some (false,.tup (ts.map zak)),some (false,.int r),some (false,.int c),some (false,flr r c g),some (false,flr r c fun i j=>some (w i j)),some (false,.int a),some (false,flr r c h),some (false,.int due),some (false,so),s10]
theorem zrE{l:List Int}{a b due:Int}{s10:Sl}(P:FP ts r c)(hw:∀i j,1<=w i j)(hl:zcQ ts r c g w=some (a,b))(hlg:LeG r c h g)(hh:InT ts h)(hI:∀t∈rights ts r c,due+zbB r c h w (tnG c t)<=zbB r c g w (tnG c t))(hno:zcF ts r c h=false)(S:Sto) :
  ∃h' due' S' s10',zcN (envL l ts r c g w a h due (flr r c (zbQ ts r c h)) s10) S=.nx (envL l ts r c g w a h' due' (if zcF ts r c h' then .non else flr r c (zbQ ts r c h')) s10') S'/\zoS r c h'<zoS r c h/\LeG r c h' g/\InT ts h'/\∀t∈rights ts r c,due'+zbB r c h' w (tnG c t)<=zbB r c g w (tnG c t):=by
 have r6:=P.r6;have c6:=P.c6;have c1:=P.c1;have r1:=P.r1
 have hw0:∀i j,0<=w i j:=fun i j=>by have:=hw i j;omega
 have I:=zgw hno;have hin:=zlv (r:=r) (c:=c) hh;have hsn:=I.no;have hsl:LeG r c (zbQ ts r c h) h:=fun i j _ _=>I.le i j
 generalize zbQ ts r c h=s at *
 have hne:rights ts r c≠[]:=fun z=>by rw [<-zdg (g:=g) (w:=w) c1,hl] at z;cases z
 have hsg:LeG r c s g:=fun i j hi hj=>by
  rcases hsl i j hi hj with e | e
  ·exact .inl e
  ·rw [e];exact hlg i j hi hj
 obtain ⟨S1,e1⟩:=zds (g:=s) (w:=w) P S;obtain ⟨⟨t0,ht0,et0⟩,hmin,_⟩:=(zdS c1).mp hl
 cases hls:zcQ ts r c s w with
 | none=>rw [zdg c1] at hls;exact (hne hls).elim
 | some q =>
 obtain ⟨a2,b2⟩:=q;rw [hls] at e1;have e1':zaE [.tup (ts.map zak),flr r c s,flr r c fun i j=>some (w i j)] S=.ok (.tup [.int a2,.int b2]) S1:=e1
 have ha2:a2<=a:=by
  have h1:=((zdS c1).mp hls).2.1 t0 ht0;have h2:=zkW (G:=tnG c t0) hw0 hsg;omega
 have hgt:¬ (a<a2):=by omega
 have e2:=zfU (g:=s) (S:=S1) r1 (show r<=100 by omega) (show c<=100 by omega);have hps:∀d∈(zce r c).filter (zbL s),∃i j,i<r/\j<c/\d=plD i j:=fun d hd=>zcC (List.mem_filter.mp hd).1
 have e3:=zrt (w:=w) (S:=S1) _ r1 hps;obtain ⟨i0,j0,hi0,hj0,hs0⟩:=zjB hne hsn;have hm0:=zeC hi0 hj0 hs0
 have hne2:((zce r c).filter (zbL s)).map (wP w)≠[]:=fun z=>by rw [List.map_eq_nil_iff.mp z] at hm0;cases hm0
 have e4:zgR [.lst ((((zce r c).filter (zbL s)).map (wP w)).map D.int)]=some (.int (zeB (((zce r c).filter (zbL s)).map (wP w)))):=by
  show (zbH _).bind _=_;rw [zmi];show (if _ then none else some _)=_;rw [if_neg];rw [List.isEmpty_iff];exact hne2
 have hmn:∀t∈rights ts r c,zeB (((zce r c).filter (zbL s)).map (wP w))<=zbB r c s w (tnG c t):=by
  intro t ht;obtain ⟨i,j,hi,hj,hs,hle⟩:=zkX c1 hw ht hsn;refine Int.le_trans (zie (x:=w i j) ?_) hle;exact List.mem_map.mpr ⟨plD i j,zeC hi hj hs,zpl⟩
 have hlen:((zce r c).filter (zbL s)).length<=100000:=by
  refine Nat.le_trans (List.length_filter_le _ _) ?_;rw [zf0];have:=P.rc;omega
 obtain ⟨s10',e5⟩:=zqW (S:=S1) (s0:=some (false,.scr l)) (s2:=some (false,.int r)) (s3:=some (false,.int c)) (s4:=some (false,flr r c g)) (s5:=some (false,flr r c fun i j=>some (w i j))) (s6:=some (false,.int a)) (s8:=some (false,.int (due+zeB (((zce r c).filter (zbL s)).map (wP w))))) (s9:=some (false,flr r c s)) P _ h hps s10;rw [zog] at e5;obtain ⟨S2,e6⟩:=zdN P (zm0 (s:=s) hh) S1;refine ⟨zhf s h,due+zeB (((zce r c).filter (zbL s)).map (wP w)),S2,s10',?_,zoR hsl hi0 hj0 hs0,zqF hlg,zm0 hh,?_⟩
 ·clear hps hm0 hmn hne2;unfold envL;generalize zeB (((zce r c).filter (zbL s)).map (wP w))=mn at *
  have hl3:((((zce r c).filter (zbL s)).map (wP w)).map D.int).length<=100000:=by rw [List.length_map,List.length_map];exact hlen
  generalize (((zce r c).filter (zbL s)).map (wP w)).map D.int=wl at *;generalize (zce r c).filter (zbL s)=ps at *;generalize (if zcF ts r c (zhf s h) then D.non else flr r c (zbQ ts r c (zhf s h)))=so at *;generalize flr r c (zhf s h)=fo at *;generalize flr r c h=fh at *;generalize flr r c s=fs at *;generalize flr r c g=fg at *;generalize flr r c (fun i j=>some (w i j))=fw at *;generalize ts.map zak=tsd at *;simp [zcN,e1',hgt,e2,e3,e4,hl3,e5,e6]
 ·intro t ht;have h1:=hI t ht;have h2:=hmn t ht;have h3:=zmx (w:=w) (G:=tnG c t) hsl;omega
theorem zs9{l:List Int}{a b:Int}(P:FP ts r c)(hw:∀i j,1<=w i j)(hl:zcQ ts r c g w=some (a,b)):∀(m n:Nat) (h:Z1) (due:Int) (s10:Sl) (S:Sto),zoS r c h<=m->m<n->LeG r c h g->InT ts h->(∀t∈rights ts r c,due+zbB r c h w (tnG c t)<=zbB r c g w (tnG c t)) →
  ∃h' due' S' s10',zcT (zai zdo (zao 9) (zaj .non)) zcN n (envL l ts r c g w a h due (if zcF ts r c h then .non else flr r c (zbQ ts r c h)) s10) S=.nx (envL l ts r c g w a h' due' .non s10') S'/\InT ts h'/\zcF ts r c h'=true/\due'<=a:=by
 have fin:∀(n:Nat) (h:Z1) (due:Int) (s10:Sl) (S:Sto),0<n->InT ts h->zcF ts r c h=true->(∀t∈rights ts r c,due+zbB r c h w (tnG c t)<=zbB r c g w (tnG c t)) →
   ∃h' due' S' s10',zcT (zai zdo (zao 9) (zaj .non)) zcN n (envL l ts r c g w a h due (if zcF ts r c h then .non else flr r c (zbQ ts r c h)) s10) S=.nx (envL l ts r c g w a h' due' .non s10') S'/\InT ts h'/\zcF ts r c h'=true/\due'<=a:=by
  intro n h due s10 S hn hh hb hI;rw [hb,if_pos rfl];refine ⟨h,due,S,s10,?_,hh,hb,?_⟩
  ·cases n with
   | zero=>cases hn
   | succ n=>rfl
  ·obtain ⟨⟨t0,ht0,et0⟩,_,_⟩:=(zdS P.c1).mp hl;have h1:=hI t0 ht0
   have h2:=ziy (r:=r) (c:=c) (g:=h) (w:=w) (G:=tnG c t0) fun i j=>by have:=hw i j;omega
   omega
 intro m
 induction m with
 | zero =>
  intro n h due s10 S hm hn hlg hh hI
  cases hb:zcF ts r c h with
  | true=>have fn:=fin n h due s10 S (by omega) hh hb hI;rw [hb] at fn;exact fn
  | false =>
   obtain ⟨h',due',S',s10',_,hlt,_⟩:=zrE (l:=l) (s10:=s10) P hw hl hlg hh hI hb S;omega
 | succ m ih =>
  intro n h due s10 S hm hn hlg hh hI
  cases hb:zcF ts r c h with
  | true=>have fn:=fin n h due s10 S (by omega) hh hb hI;rw [hb] at fn;exact fn
  | false =>
   obtain ⟨h',due',S',s10',e,hlt,hlg',hh',hI'⟩:=zrE (l:=l) (s10:=s10) P hw hl hlg hh hI hb S
   cases n with
   | zero=>omega
   | succ n =>
    obtain ⟨h2,due2,S2,s2,e2,x⟩:=ih n h' due' s10' S' (by omega) (by omega) hlg' hh' hI';refine ⟨h2,due2,S2,s2,?_,x⟩;rw [if_neg (by decide)];unfold zcT;have ec:(zai zdo (zao 9) (zaj .non)) (envL l ts r c g w a h due (flr r c (zbQ ts r c h)) s10) S=.ok (.bl true) S:=rfl;rw [ec];show (match zcN (envL l ts r c g w a h due (flr r c (zbQ ts r c h)) s10) S with | .nx ρ' S'=>zcT (zai zdo (zao 9) (zaj .non)) zcN n ρ' S' | .ct ρ' S'=>zcT (zai zdo (zao 9) (zaj .non)) zcN n ρ' S' | .bk ρ' S'=>.nx ρ' S' | o=>o)=_;rw [e];exact e2
theorem zsq{l:List Int}{a b:Int}(P:FP ts r c)(hg:InT ts g)(hw:∀i j,1<=w i j)(hl:zcQ ts r c g w=some (a,b))(S:Sto){s7 s8 s9 s10:Sl} :
  ∃S',zhg [some (false,.scr l),some (false,.tup (ts.map zak)),some (false,.int r),some (false,.int c),some (false,flr r c g),some (false,flr r c fun i j=>some (w i j)),some (false,.int a),s7,s8,s9,s10] S=.rt (.bl true) S':=by
 obtain ⟨S1,e1⟩:=zdN P hg S;obtain ⟨S2,e2⟩:=zdN P hg S1
 obtain ⟨h,due,S3,s10',e3,hh,hb,hd⟩:=zs9 (l:=l) P hw hl (zoS r c g) 100000 g 0 s10 S2 (Nat.le_refl _) (by
  have h1:zoS r c g<=(zby r c).length:=List.countP_le_length
  have h2:(zby r c).length=r*c:=by rw [zeV P.c1];simp
  have:=P.rc
  omega) (fun i j _ _=>.inr rfl) hg (fun t _=>by omega)
 obtain ⟨S4,e4⟩:=zeP P hh S3;obtain ⟨z1,_,z3⟩:=zi0 P.c1 hw hl
 have hpos:(0:Int)<((zba ts r c h).length:Nat):=by
  unfold zcF at hb
  cases hf:zba ts r c h with
  | nil=>rw [hf] at hb;cases hb
  | cons x y=>simp
 have hq:∃so,(if zcF ts r c g then .non else flr r c (zbQ ts r c g))=so/\zdo so .non=some (.bl (decide (0<a))):=by
  refine ⟨_,rfl,?_⟩
  cases hb2:zcF ts r c g with
  | true =>
   have:a=0:=z1.mpr (by
    unfold zcF at hb2
    cases hf:zba ts r c g with
    | nil=>rw [hf] at hb2;cases hb2
    | cons x y=>simp)
   subst this;rfl
  | false =>
   have:a≠0:=fun z=>by
    have:=z1.mp z;unfold zcF at hb2
    cases hf:zba ts r c g with
    | nil=>rw [hf] at this;cases this
    | cons x y=>rw [hf] at hb2;cases hb2
   have:0<a:=by omega
   rw [decide_eq_true this];rfl
 obtain ⟨so,eso,hso⟩:=hq
 have hnb:neD (.bl (decide (0<a))) (.bl (decide (0<a)))=some (.bl false):=by rw [zoo];simp
 refine ⟨S4,?_⟩;unfold envL at e3;rw [eso] at e1 e2 e3;generalize flr r c h=fh at *;generalize flr r c g=fg at *;generalize flr r c (fun i j=>some (w i j))=fw at *;generalize ts.map zak=tsd at *;generalize ((zba ts r c h).length:Int)=nf at *;have e3':zgC 100000 (zai zdo (zao 9) (zaj .non)) zcN [some (false,.scr l),some (false,.tup tsd),some (false,.int r),some (false,.int c),some (false,fg),some (false,fw),some (false,.int a),some (false,fg),some (false,.int 0),some (false,so),s10] S2=_:=e3;simp [zhg,zjo,zjn,zhR,zhQ,zhP,e1,e2,hso,hnb,e3',e4,hd,hpos]
theorem zsr{l:List Int}(P:FP ts r c)(hg:InT ts g)(hw:∀i j,1<=w i j)(S:Sto){s6 s7 s8 s9 s10:Sl} :
  ∃S',zfN [some (false,.scr l),some (false,.tup (ts.map zak)),some (false,.int r),some (false,.int c),some (false,flr r c g),some (false,flr r c fun i j=>some (w i j)),s6,s7,s8,s9,s10] S=.rt (.bl true) S':=by
 have r6:=P.r6;have c6:=P.c6;have c1:=P.c1;have r1:=P.r1;have e2:=zfp (S:=S) P.r1 (show r<=100 by omega) P.c1 (show c<=100 by omega);obtain ⟨S1,e1⟩:=zeP (g:=fun _ _=>none) P zhr S;have e1':zaF [.tup (ts.map zak),flr r c fun _ _=>none] S=.ok (.int ((rights ts r c).length:Nat)) S1:=e1;have q:=zrp (a:=((rights ts r c).length:Nat)) (b:=0);obtain ⟨S2,e3⟩:=zds (g:=g) (w:=w) P S1
 cases hl:zcQ ts r c g w with
 | none =>
  rw [hl] at e3;have e3':zaE [.tup (ts.map zak),flr r c g,flr r c fun i j=>some (w i j)] S1=.ok .non S2:=e3;have hr:=(zdg (g:=g) (w:=w) c1).mp hl;obtain ⟨S3,e4⟩:=zdN P hg S2
  have hno:∀h,zcF ts r c h=false:=fun h=>by
   cases hb:zcF ts r c h with
   | false=>rfl
   | true =>
    have hz:zcF ts r c (fun _ _=>none)=true:=zgc (fun i j _ _=>.inl rfl) hb;unfold zcF at hz;have:zba ts r c (fun _ _=>none)=[]:=hr;rw [this] at hz;cases hz
  rw [hno g,if_neg (by decide)] at e4;have I:=zgw (hno g);have e5:=zfU (g:=zbQ ts r c g) (S:=S3) r1 (show r<=100 by omega) (show c<=100 by omega)
  have hnil:(zce r c).filter (zbL (zbQ ts r c g))=[]:=by
   rw [List.filter_eq_nil_iff];intro d hd;obtain ⟨i,j,hi,hj,rfl⟩:=zcC hd;rw [zhu];intro hs
   have hs':(g i j).isSome=true:=by
    rcases I.le i j with e | e
    ·rw [e] at hs;cases hs
    ·rw [<-e];exact hs
   have:=I.ok i j (zeC hi hj hs') hs;rw [hno] at this;cases this
  rw [hnil] at e5;refine ⟨S3,?_⟩;rw [hr] at e1' q;have q':eqD (.int 0) (.int 0)=some (.bl true):=rfl;have q2:eqD (.lst []) (.lst [])=some (.bl true):=rfl;generalize flr r c (zbQ ts r c g)=fs at *;generalize flr r c (fun i j=>some (w i j))=fw at *;generalize flr r c (fun _ _=>none)=fe at *;generalize flr r c g=fl at *;generalize ts.map zak=tsd at *;simp at e1';simp [zfN,e1',e2,e3',q',e4,e5,q2]
 | some qq =>
  obtain ⟨a,b⟩:=qq;rw [hl] at e3;have e3':zaE [.tup (ts.map zak),flr r c g,flr r c fun i j=>some (w i j)] S1=.ok (.tup [.int a,.int b]) S2:=e3
  have hne:rights ts r c≠[]:=fun z=>by rw [<-zdg (g:=g) (w:=w) c1,hl] at z;cases z
  rw [decide_eq_false (by
   intro z;apply hne;apply List.eq_nil_of_length_eq_zero
   omega)] at q
  obtain ⟨S3,e4⟩:=zsq (s7:=s7) (s8:=s8) (s9:=s9) (s10:=s10) (l:=l) P hg hw hl S2;refine ⟨S3,?_⟩;generalize flr r c (fun i j=>some (w i j))=fw at *;generalize flr r c (fun _ _=>none)=fe at *;generalize flr r c g=fl at *;generalize ts.map zak=tsd at *;generalize ((rights ts r c).length:Int)=nr at *;simp only [zfN,zjp];simp [e1',e2,e3',q,e4]
end
theorem zl8:∀l:List Int,l.length<=63->∃S,zqa [.scr l] []=.ok (.bl true) S:=by
 intro l _;obtain ⟨ts,hT,et⟩:=zjK (l:=l) (at':=0) (most:=3) (S:=[]) (by omega) (by omega) (by omega);obtain ⟨r,c,h1,hr,c1,hc,hrc,es⟩:=zjL (l:=l) (at':=90) (S:=[]) (by omega);have n1:=hT.ne;have n4:=hT.le;have ht:TOk ts:=⟨hT.four,by omega⟩
 have hp2:0<((ts.map zak).length:Int)*2:=by simp;omega
 have f2:=zjP (l:=l) (at':=100) (m:=2) (ts:=ts.map zak) (r:=r) (c:=c) (S:=[]) (by omega) hp2 (by decide) (by omega) (by omega) (by omega) (by omega)
 have g2:InT ts (zjd l 100 (ts.map zak).length 2):=fun i j x e=>by simpa using zqQ hp2 x e
 rw [Int.toNat_natCast,Int.toNat_natCast] at f2;generalize zjd l 100 (ts.map zak).length 2=gb at *;have P:FP ts r c:=⟨ht,by omega,zsT (by omega) hrc,h1,c1,hrc⟩
 have f7:zb8 7=true:=by decide
 obtain ⟨w,hw,ew⟩:∃w:Nat->Nat->Int,(∀i j,1<=w i j)/\zbY (.one 0) zet (zaJ zch [(zcv 1 (.one 0) (zdp (zad 1)) zet (zai zcg (zaj (.int 1)) (eFn zaw [(zad 2),(zai zcg (zai zcg (zaj (.int 200)) (zai zfv (zaj (.int 7)) (zao 1))) (zao 0)),(zaj (.int 4))])) [0,2])]) [none,some (false,.int c),some (false,.scr l)] (zaC 0 r) []=.ok (zcG r c fun i j=>some (w i j)) []:=by
  refine ⟨fun i j=>1+zb7 l (200+7*i+j) 4,fun i j=>?_,zhl (by omega) (by omega) ?_⟩
  ·have:=zcs l (200+7*(i:Int)+j) (many:=4) (by omega);show 1<=1+zb7 l (200+7*(i:Int)+j) 4;omega
  ·intro i j _ _;have k:=zci (l:=l) (k:=200+7*(i:Int)+j) (many:=4) (S:=[]) (by omega) (by omega);simp [f7,k]
 obtain ⟨S',e⟩:=zsr (l:=l) (w:=w) (s6:=none) (s7:=none) (s8:=none) (s9:=none) (s10:=none) P g2 hw [];refine ⟨S',?_⟩
 have hlw:(zcG r c fun i j=>some (w i j)).length<=100000:=by rw [zdj];omega
 have hb:-1000000<=(r:Int)/\(r:Int)<=1000000:=by omega
 generalize ts.map zak=tsd at *;unfold flr at *;generalize zcG r c (fun i j=>some (w i j))=fw at *;generalize zcG r c gb=fl at *;simp only [zqa,zaq,zoH,zjt,zjs,zjr,zjq];simp [et,es,f2,hb,ew,hlw,e]
end S2.L32
namespace M32
open PySem L2 S2 S2.L32
def top(i:Nat):Stmt:=PySem.Challenge.pw_floorfits_k32_whole_stuck_costs.main.body.getD i (.Pass ⟨0,0,0,0⟩)
def T:Tab:=⟨[("NORTH",.int 0),("EAST",.int 1),("SOUTH",.int 2),("WEST",.int 3)],["isinstance","int","bool","tuple","list","len","range","all","sum","min","zip","ValueError"],["FloorError","NoPlace","NoTile","Unlike"],[("Unlike","FloorError"),("NoPlace","FloorError"),("NoTile","FloorError")],[],[("Ways","tiles"),("Ways","ground"),("Ways","size"),("Ways","is_round"),("Ways","known"),("Mends","size"),("Mends","ways"),("Mends","laid"),("Mends","weights"),("Mends","known")],["known"]⟩
noncomputable def F0:Fn3:=⟨"",[],[],[]⟩
noncomputable def F1:Fn3:=F0.fn "is_whole" ⟨1,false,zbk⟩
theorem d1:zaf (Gn T F0) false ["thing"] (top 11)=some zdl:=by rfl
theorem s1:FnScope ["thing"] ["thing"] (zaa (top 11)):=⟨rfl,rfl,rfl,by decide +kernel,rfl,by decide +kernel,by decide +kernel⟩
noncomputable def F2:Fn3:=F1.fn "is_tuple_of" ⟨3,false,zay⟩
theorem d2:zaf (Gn T F1) false ["thing","least","most"] (top 12)=some zb2:=by rfl
theorem s2:FnScope ["thing","least","most"] ["thing","least","most"] (zaa (top 12)):=⟨rfl,rfl,rfl,by decide +kernel,rfl,by decide +kernel,by decide +kernel⟩
noncomputable def F3:Fn3:=F2.fn "has_number" ⟨2,false,zbl⟩
theorem d3:zaf (Gn T F2) false ["tiles","thing"] (top 13)=some zco:=by rfl
theorem s3:FnScope ["tiles","thing"] ["tiles","thing"] (zaa (top 13)):=⟨rfl,rfl,rfl,by decide +kernel,rfl,by decide +kernel,by decide +kernel⟩
noncomputable def F4:Fn3:=F3.fn "may_lie" ⟨2,false,zcY⟩
theorem d4:zaf (Gn T F3) false ["tiles","thing"] (top 14)=some zdV:=by rfl
theorem s4:FnScope ["tiles","thing"] ["tiles","thing"] (zaa (top 14)):=⟨rfl,rfl,rfl,by decide +kernel,rfl,by decide +kernel,by decide +kernel⟩
noncomputable def F5:Fn3:=F4.fn "empty" ⟨2,false,zd7⟩
theorem d5:zaf (Gn T F4) false ["rows","columns"] (top 15)=some zhz:=by rfl
theorem s5:FnScope ["rows","columns"] ["rows","columns"] (zaa (top 15)):=⟨rfl,rfl,rfl,by decide +kernel,rfl,by decide +kernel,by decide +kernel⟩
noncomputable def F6:Fn3:=F5.fn "size_of" ⟨1,false,zbs⟩
theorem d6:zaf (Gn T F5) false ["floor","columns"] (top 16)=some zfd:=by rfl
theorem s6:FnScope ["floor","columns"] ["floor"] (zaa (top 16)):=⟨rfl,rfl,rfl,by decide +kernel,rfl,by decide +kernel,by decide +kernel⟩
noncomputable def F7:Fn3:=F6.fn "places_of" ⟨1,true,zaP⟩
theorem d7:zaf (Gn T F6) true ["floor","size","places","row","column"] (top 17)=some zdG:=by rfl
theorem s7:FnScope ["floor","size","places","row","column"] ["floor"] (zaa (top 17)):=⟨rfl,rfl,rfl,by decide +kernel,rfl,by decide +kernel,by decide +kernel⟩
noncomputable def F8:Fn3:=F7.fn "is_row_like" ⟨2,false,zbu⟩
theorem d8:zaf (Gn T F7) false ["row","thing"] (top 18)=some zcJ:=by rfl
theorem s8:FnScope ["row","thing"] ["row","thing"] (zaa (top 18)):=⟨rfl,rfl,rfl,by decide +kernel,rfl,by decide +kernel,by decide +kernel⟩
noncomputable def F9:Fn3:=F8.fn "is_like" ⟨2,false,zcZ⟩
theorem d9:zaf (Gn T F8) false ["floor","thing"] (top 19)=some zdW:=by rfl
theorem s9:FnScope ["floor","thing"] ["floor","thing"] (zaa (top 19)):=⟨rfl,rfl,rfl,by decide +kernel,rfl,by decide +kernel,by decide +kernel⟩
noncomputable def F10:Fn3:=F9.fn "refuse_unlike" ⟨2,false,zbt⟩
theorem d10:zaf (Gn T F9) false ["floor","other"] (top 20)=some zb9:=by rfl
theorem s10:FnScope ["floor","other"] ["floor","other"] (zaa (top 20)):=⟨rfl,rfl,rfl,by decide +kernel,rfl,by decide +kernel,by decide +kernel⟩
noncomputable def F11:Fn3:=F10.fn "number_at" ⟨2,false,zaD⟩
theorem d11:zaf (Gn T F10) false ["floor","place"] (top 21)=some zdH:=by rfl
theorem s11:FnScope ["floor","place"] ["floor","place"] (zaa (top 21)):=⟨rfl,rfl,rfl,by decide +kernel,rfl,by decide +kernel,by decide +kernel⟩
noncomputable def F12:Fn3:=F11.fn "laid_places" ⟨1,true,zaQ⟩
theorem d12:zaf (Gn T F11) true ["floor"] (top 22)=some zcI:=by rfl
theorem s12:FnScope ["floor"] ["floor"] (zaa (top 22)):=⟨rfl,rfl,rfl,by decide +kernel,rfl,by decide +kernel,by decide +kernel⟩
noncomputable def F13:Fn3:=F12.fn "has_place" ⟨2,false,za1⟩
theorem d13:zaf (Gn T F12) false ["floor","place","size"] (top 23)=some zbM:=by rfl
theorem s13:FnScope ["floor","place","size"] ["floor","place"] (zaa (top 23)):=⟨rfl,rfl,rfl,by decide +kernel,rfl,by decide +kernel,by decide +kernel⟩
noncomputable def F14:Fn3:=F13.fn "refuse_outside" ⟨2,false,zaV⟩
theorem d14:zaf (Gn T F13) false ["floor","place"] (top 24)=some zbU:=by rfl
theorem s14:FnScope ["floor","place"] ["floor","place"] (zaa (top 24)):=⟨rfl,rfl,rfl,by decide +kernel,rfl,by decide +kernel,by decide +kernel⟩
noncomputable def F15:Fn3:=F14.fn "tile_at" ⟨2,false,zcW⟩
theorem d15:zaf (Gn T F14) false ["floor","place"] (top 25)=some zfc:=by rfl
theorem s15:FnScope ["floor","place"] ["floor","place"] (zaa (top 25)):=⟨rfl,rfl,rfl,by decide +kernel,rfl,by decide +kernel,by decide +kernel⟩
noncomputable def F16:Fn3:=F15.fn "with_number" ⟨3,false,zb0⟩
theorem d16:zaf (Gn T F15) false ["floor","place","number","old","row"] (top 26)=some zcH:=by rfl
theorem s16:FnScope ["floor","place","number","old","row"] ["floor","place","number"] (zaa (top 26)):=⟨rfl,rfl,rfl,by decide +kernel,rfl,by decide +kernel,by decide +kernel⟩
noncomputable def F17:Fn3:=F16.fn "with_tile" ⟨4,false,zbh⟩
theorem d17:zaf (Gn T F16) false ["tiles","floor","place","number"] (top 27)=some zdF:=by rfl
theorem s17:FnScope ["tiles","floor","place","number"] ["tiles","floor","place","number"] (zaa (top 27)):=⟨rfl,rfl,rfl,by decide +kernel,rfl,by decide +kernel,by decide +kernel⟩
noncomputable def F18:Fn3:=F17.fn "suits" ⟨2,false,zeR⟩
theorem d18:zaf (Gn T F17) false ["wanted","colour"] (top 29)=some zhy:=by rfl
theorem s18:FnScope ["wanted","colour"] ["wanted","colour"] (zaa (top 29)):=⟨rfl,rfl,rfl,by decide +kernel,rfl,by decide +kernel,by decide +kernel⟩
noncomputable def F19:Fn3:=F18.cls "Ways" [.bl false] ⟨4,false,zaN⟩
theorem d19:zaf (Gn T (F18.at "Ways")) false ["self","tiles","floor","is_round"] (inC 0 (top 30))=some zcc:=by rfl
theorem s19:FnScope ["self","tiles","floor","is_round"] ["self","tiles","floor","is_round"] (zaa (inC 0 (top 30))):=⟨rfl,rfl,rfl,by decide +kernel,rfl,by decide +kernel,by decide +kernel⟩
noncomputable def F20:Fn3:=F19.mt "first_seam" "Ways" ⟨1,false,zaM⟩
theorem d20:zaf (Gn T (F19.at "Ways")) false ["self"] (inC 1 (top 30))=some zbN:=by rfl
theorem s20:FnScope ["self"] ["self"] (zaa (inC 1 (top 30))):=⟨rfl,rfl,rfl,by decide +kernel,rfl,by decide +kernel,by decide +kernel⟩
noncomputable def F21:Fn3:=F20.mt "ends_row" "Ways" ⟨2,false,za2⟩
theorem d21:zaf (Gn T (F20.at "Ways")) false ["self","step"] (inC 2 (top 30))=some zcb:=by rfl
theorem s21:FnScope ["self","step"] ["self","step"] (zaa (inC 2 (top 30))):=⟨rfl,rfl,rfl,by decide +kernel,rfl,by decide +kernel,by decide +kernel⟩
noncomputable def F22:Fn3:=F21.mt "colour_round" "Ways" ⟨4,false,zas⟩
theorem d22:zaf (Gn T (F21.at "Ways")) false ["self","step","seam","tile"] (inC 3 (top 30))=some zaT:=by rfl
theorem s22:FnScope ["self","step","seam","tile"] ["self","step","seam","tile"] (zaa (inC 3 (top 30))):=⟨rfl,rfl,rfl,by decide +kernel,rfl,by decide +kernel,by decide +kernel⟩
noncomputable def F23:Fn3:=F22.mt "seam_behind" "Ways" ⟨4,false,zaY⟩
theorem d23:zaf (Gn T (F22.at "Ways")) false ["self","step","seam","tile","is_last","in_last_row","east","south","around"] (inC 4 (top 30))=some zbz:=by rfl
theorem s23:FnScope ["self","step","seam","tile","is_last","in_last_row","east","south","around"] ["self","step","seam","tile"] (zaa (inC 4 (top 30))):=⟨rfl,rfl,rfl,by decide +kernel,rfl,by decide +kernel,by decide +kernel⟩
noncomputable def F24:Fn3:=F23.mt "numbers_for" "Ways" ⟨2,false,zaG⟩
theorem d24:zaf (Gn T (F23.at "Ways")) false ["self","step","laid"] (inC 5 (top 30))=some za0:=by rfl
theorem s24:FnScope ["self","step","laid"] ["self","step"] (zaa (inC 5 (top 30))):=⟨rfl,rfl,rfl,by decide +kernel,rfl,by decide +kernel,by decide +kernel⟩
noncomputable def F25:Fn3:=F24.mt "fits_round" "Ways" ⟨4,false,zaL⟩
theorem d25:zaf (Gn T (F24.at "Ways")) false ["self","step","seam","tile"] (inC 6 (top 30))=some za5:=by rfl
theorem s25:FnScope ["self","step","seam","tile"] ["self","step","seam","tile"] (zaa (inC 6 (top 30))):=⟨rfl,rfl,rfl,by decide +kernel,rfl,by decide +kernel,by decide +kernel⟩
noncomputable def F26:Fn3:=F25.mt "fits" "Ways" ⟨4,false,zcB⟩
theorem d26:zaf (Gn T (F25.at "Ways")) false ["self","step","seam","tile"] (inC 7 (top 30))=some zdJ:=by rfl
theorem s26:FnScope ["self","step","seam","tile"] ["self","step","seam","tile"] (zaa (inC 7 (top 30))):=⟨rfl,rfl,rfl,by decide +kernel,rfl,by decide +kernel,by decide +kernel⟩
noncomputable def F27:Fn3:=F26.mt "choices" "Ways" ⟨3,true,za9⟩
theorem d27:zaf (Gn T (F26.at "Ways")) true ["self","step","seam","found","number","tile"] (inC 8 (top 30))=some zcu:=by rfl
theorem s27:FnScope ["self","step","seam","found","number","tile"] ["self","step","seam"] (zaa (inC 8 (top 30))):=⟨rfl,rfl,rfl,by decide +kernel,rfl,by decide +kernel,by decide +kernel⟩
noncomputable def F28:Fn3:=F27.mt "count_from" "Ways" ⟨3,false,zbJ⟩
theorem d28:∀r,zaf (Gn T ((F27.mt "count_from" "Ways" ⟨["self","step","seam"].length,false,r⟩).at "Ways")) false ["self","step","seam","key"] (inC 9 (top 30))=some (zag r):=by intro r;rfl
theorem s28:FnScope ["self","step","seam","key"] ["self","step","seam"] (zaa (inC 9 (top 30))):=⟨rfl,rfl,rfl,by decide +kernel,rfl,by decide +kernel,by decide +kernel⟩
noncomputable def F29:Fn3:=F28.mt "count_all" "Ways" ⟨1,false,zbe⟩
theorem d29:zaf (Gn T (F28.at "Ways")) false ["self"] (inC 10 (top 30))=some zbV:=by rfl
theorem s29:FnScope ["self"] ["self"] (zaa (inC 10 (top 30))):=⟨rfl,rfl,rfl,by decide +kernel,rfl,by decide +kernel,by decide +kernel⟩
noncomputable def F30:Fn3:=F29.fn "count_fills" ⟨2,false,zaF⟩
theorem d30:zaf (Gn T F29) false ["tiles","floor"] (top 31)=some zcK:=by rfl
theorem s30:FnScope ["tiles","floor"] ["tiles","floor"] (zaa (top 31)):=⟨rfl,rfl,rfl,by decide +kernel,rfl,by decide +kernel,by decide +kernel⟩
noncomputable def F31:Fn3:=F30.fn "has_fill" ⟨2,false,zcy⟩
theorem d31:zaf (Gn T F30) false ["tiles","floor"] (top 33)=some zei:=by rfl
theorem s31:FnScope ["tiles","floor"] ["tiles","floor"] (zaa (top 33)):=⟨rfl,rfl,rfl,by decide +kernel,rfl,by decide +kernel,by decide +kernel⟩
noncomputable def F32:Fn3:=F31.fn "without" ⟨3,false,zdO⟩
theorem d32:zaf (Gn T F31) false ["tiles","floor","place"] (top 34)=some zfb:=by rfl
theorem s32:FnScope ["tiles","floor","place"] ["tiles","floor","place"] (zaa (top 34)):=⟨rfl,rfl,rfl,by decide +kernel,rfl,by decide +kernel,by decide +kernel⟩
noncomputable def F33:Fn3:=F32.fn "stuck" ⟨2,false,zcX⟩
theorem d33:zaf (Gn T F32) false ["tiles","floor","left","place","less"] (top 35)=some zge:=by rfl
theorem s33:FnScope ["tiles","floor","left","place","less"] ["tiles","floor"] (zaa (top 35)):=⟨rfl,rfl,rfl,by decide +kernel,rfl,by decide +kernel,by decide +kernel⟩
noncomputable def F34:Fn3:=F33.fn "cost_at" ⟨3,false,zc0⟩
theorem d34:zaf (Gn T F33) false ["laid","weight","number"] (top 37)=some zdX:=by rfl
theorem s34:FnScope ["laid","weight","number"] ["laid","weight","number"] (zaa (top 37)):=⟨rfl,rfl,rfl,by decide +kernel,rfl,by decide +kernel,by decide +kernel⟩
noncomputable def F35:Fn3:=F34.cls "Mends" [] ⟨4,false,zbf⟩
theorem d35:zaf (Gn T (F34.at "Mends")) false ["self","tiles","floor","weights"] (inC 0 (top 38))=some zbW:=by rfl
theorem s35:FnScope ["self","tiles","floor","weights"] ["self","tiles","floor","weights"] (zaa (inC 0 (top 38))):=⟨rfl,rfl,rfl,by decide +kernel,rfl,by decide +kernel,by decide +kernel⟩
noncomputable def F36:Fn3:=F35.mt "offers" "Mends" ⟨3,false,zdw⟩
theorem d36:∀r1 r2 r3,zaf (Gn T ((((F35.mt "offers" "Mends" ⟨["self","step","seam"].length,false,r1⟩).mt "least_by_offers" "Mends" ⟨["self","step","seam"].length,false,r2⟩).mt "least_from" "Mends" ⟨["self","step","seam"].length,false,r3⟩).at "Mends")) false ["self","step","seam","found","number","behind","rest","cost"] (inC 1 (top 38))=some (zaz r1 r2 r3):=by intro r1 r2 r3;rfl
theorem s36:FnScope ["self","step","seam","found","number","behind","rest","cost"] ["self","step","seam"] (zaa (inC 1 (top 38))):=⟨rfl,rfl,rfl,by decide +kernel,rfl,by decide +kernel,by decide +kernel⟩
noncomputable def F37:Fn3:=F36.mt "least_by_offers" "Mends" ⟨3,false,zbv⟩
theorem d37:∀r1 r2 r3,zaf (Gn T ((((F35.mt "offers" "Mends" ⟨["self","step","seam"].length,false,r1⟩).mt "least_by_offers" "Mends" ⟨["self","step","seam"].length,false,r2⟩).mt "least_from" "Mends" ⟨["self","step","seam"].length,false,r3⟩).at "Mends")) false ["self","step","seam","offers","least"] (inC 2 (top 38))=some (zae r1 r2 r3):=by intro r1 r2 r3;rfl
theorem s37:FnScope ["self","step","seam","offers","least"] ["self","step","seam"] (zaa (inC 2 (top 38))):=⟨rfl,rfl,rfl,by decide +kernel,rfl,by decide +kernel,by decide +kernel⟩
noncomputable def F38:Fn3:=F37.mt "least_from" "Mends" ⟨3,false,zaZ⟩
theorem d38:∀r1 r2 r3,zaf (Gn T ((((F35.mt "offers" "Mends" ⟨["self","step","seam"].length,false,r1⟩).mt "least_by_offers" "Mends" ⟨["self","step","seam"].length,false,r2⟩).mt "least_from" "Mends" ⟨["self","step","seam"].length,false,r3⟩).at "Mends")) false ["self","step","seam","key"] (inC 3 (top 38))=some (zah r1 r2 r3):=by intro r1 r2 r3;rfl
theorem s38:FnScope ["self","step","seam","key"] ["self","step","seam"] (zaa (inC 3 (top 38))):=⟨rfl,rfl,rfl,by decide +kernel,rfl,by decide +kernel,by decide +kernel⟩
noncomputable def F39:Fn3:=F38.mt "least_all" "Mends" ⟨1,false,za4⟩
theorem d39:zaf (Gn T (F38.at "Mends")) false ["self"] (inC 4 (top 38))=some zbO:=by rfl
theorem s39:FnScope ["self"] ["self"] (zaa (inC 4 (top 38))):=⟨rfl,rfl,rfl,by decide +kernel,rfl,by decide +kernel,by decide +kernel⟩
noncomputable def F40:Fn3:=F39.fn "least_cost" ⟨3,false,zaE⟩
theorem d40:zaf (Gn T F39) false ["tiles","floor","weights"] (top 39)=some zc5:=by rfl
theorem s40:FnScope ["tiles","floor","weights"] ["tiles","floor","weights"] (zaa (top 39)):=⟨rfl,rfl,rfl,by decide +kernel,rfl,by decide +kernel,by decide +kernel⟩
noncomputable def F41:Fn3:=F40.fn "_law_cell" ⟨2,false,zbI⟩
theorem d41:zaf (Gn T F40) false ["_law_script","_law_k"] (top 41)=some zca:=by rfl
theorem s41:FnScope ["_law_script","_law_k"] ["_law_script","_law_k"] (zaa (top 41)):=⟨rfl,rfl,rfl,by decide +kernel,rfl,by decide +kernel,by decide +kernel⟩
noncomputable def F42:Fn3:=F41.fn "_law_pick" ⟨3,false,zaw⟩
theorem d42:zaf (Gn T F41) false ["_law_script","_law_k","_law_many","_law_drawn"] (top 42)=some zdI:=by rfl
theorem s42:FnScope ["_law_script","_law_k","_law_many","_law_drawn"] ["_law_script","_law_k","_law_many"] (zaa (top 42)):=⟨rfl,rfl,rfl,by decide +kernel,rfl,by decide +kernel,by decide +kernel⟩
noncomputable def F43:Fn3:=F42.fn "_law_tiles" ⟨3,false,zcj⟩
theorem d43:zaf (Gn T F42) false ["_law_script","_law_at","_law_most","_law_colours","_law_made","_law_k","_law_tile"] (top 43)=some zc6:=by rfl
theorem s43:FnScope ["_law_script","_law_at","_law_most","_law_colours","_law_made","_law_k","_law_tile"] ["_law_script","_law_at","_law_most"] (zaa (top 43)):=⟨rfl,rfl,rfl,by decide +kernel,rfl,by decide +kernel,by decide +kernel⟩
noncomputable def F44:Fn3:=F43.fn "_law_floor" ⟨6,false,zcl⟩
theorem d44:zaf (Gn T F43) false ["_law_script","_law_at","_law_tiles_here","_law_rows","_law_columns","_law_many","_law_made","_law_row","_law_line","_law_column","_law_here"] (top 44)=some zc8:=by rfl
theorem s44:FnScope ["_law_script","_law_at","_law_tiles_here","_law_rows","_law_columns","_law_many","_law_made","_law_row","_law_line","_law_column","_law_here"] ["_law_script","_law_at","_law_tiles_here","_law_rows","_law_columns","_law_many"] (zaa (top 44)):=⟨rfl,rfl,rfl,by decide +kernel,rfl,by decide +kernel,by decide +kernel⟩
noncomputable def F45:Fn3:=F44.fn "_law_sides" ⟨2,false,zck⟩
theorem d45:zaf (Gn T F44) false ["_law_script","_law_at"] (top 45)=some zc7:=by rfl
theorem s45:FnScope ["_law_script","_law_at"] ["_law_script","_law_at"] (zaa (top 45)):=⟨rfl,rfl,rfl,by decide +kernel,rfl,by decide +kernel,by decide +kernel⟩
theorem d46:zaf (Gn T F45) false ["_law_script","_law_tiles_here","_law_rows","_law_columns","_law_floor_here","_law_weights","_law_least","_law_left","_law_due","_law_some","_law_place"] (top 46)=some zoH:=by rfl
theorem s46:FnScope ["_law_script","_law_tiles_here","_law_rows","_law_columns","_law_floor_here","_law_weights","_law_least","_law_left","_law_due","_law_some","_law_place"] ["_law_script"] (zaa (top 46)):=⟨rfl,rfl,rfl,by decide +kernel,rfl,by decide +kernel,by decide +kernel⟩
theorem gm{K:PySem.W.Frag}{x:Str}{st:Stmt}{f:Addr}{oc kV dc pm cd ct:Value}{od an:Option Addr}{sl:Array (Option Value)}(a:PySem.W.nsIn K mainGlobals x=some (some (.ref f)))(l:K.lookup f=some ⟨oc,od,.func (PySem.W.fnOf x x (zbA st) (zbi st) (zaa st) .none kV dc pm an cd ct),sl⟩)(c:PySem.W.codeIn K cd x=true)(k:PySem.W.keepIn K (.ref f)=true)(i:PySem.W.isFn K (.ref f)=true):GFn K x st:=⟨f,a,oc,od,kV,dc,pm,an,cd,ct,sl,l,c,k,i⟩
theorem mm{K:PySem.W.Frag}{x q:Str}{st:Stmt}{f:Addr}{oc kV dc pm cd ct:Value}{od an:Option Addr}{sl:Array (Option Value)}{C:Addr}(a:PySem.W.findIn K (.ref C) x=some (some (.ref f)))(l:K.lookup f=some ⟨oc,od,.func (PySem.W.fnOf x q (zbA st) (zbi st) (zaa st) .none kV dc pm an cd ct),sl⟩)(c:PySem.W.codeIn K cd q=true)(k:PySem.W.keepIn K (.ref f)=true)(i:PySem.W.isFn K (.ref f)=true):MFn K C x q st:=⟨f,a,oc,od,kV,dc,pm,an,cd,ct,sl,l,c,k,i⟩
theorem all_mk{l:PySem.W.OpenLaw}{w:PySem.World}{K:PySem.W.Frag}{h:Heap}{mg:Z6}{fa f46:Addr}(X:K.In h)(G:h.Ns mainGlobals mg)(hfa:mg "law" = some (.ref fa))
  {od46 an46:Option Addr} {sl46:Array (Option Value)} {oc46 kV46 dc46 pm46 cd46 ct46:Value}
  {yWays yMends:Addr}
  (nyWays:PySem.W.nsIn K mainGlobals "Ways" = some (some (.ref yWays))) (pgWays:PySem.W.plainGet K yWays Str.empty=true) (hdWays:PySem.W.hasDictIn K yWays=true) (poWays:PySem.W.plainOver K yWays=true) (saWays:PySem.W.findIn K (.ref yWays) "__setattr__" = some (some (.builtin "object.__setattr__"))) (mkWays:PySem.W.makesIn K yWays=true) (kpWays:PySem.W.keepIn K (.ref yWays)=true)
  (naWaystiles:PySem.W.findIn K (.ref yWays) "tiles" = some none)
  (naWaysground:PySem.W.findIn K (.ref yWays) "ground" = some none)
  (naWayssize:PySem.W.findIn K (.ref yWays) "size" = some none)
  (naWaysis_round:PySem.W.findIn K (.ref yWays) "is_round" = some none)
  (naWaysknown:PySem.W.findIn K (.ref yWays) "known" = some none)
  (nyMends:PySem.W.nsIn K mainGlobals "Mends" = some (some (.ref yMends))) (pgMends:PySem.W.plainGet K yMends Str.empty=true) (hdMends:PySem.W.hasDictIn K yMends=true) (poMends:PySem.W.plainOver K yMends=true) (saMends:PySem.W.findIn K (.ref yMends) "__setattr__" = some (some (.builtin "object.__setattr__"))) (mkMends:PySem.W.makesIn K yMends=true) (kpMends:PySem.W.keepIn K (.ref yMends)=true)
  (naMendssize:PySem.W.findIn K (.ref yMends) "size" = some none)
  (naMendsways:PySem.W.findIn K (.ref yMends) "ways" = some none)
  (naMendslaid:PySem.W.findIn K (.ref yMends) "laid" = some none)
  (naMendsweights:PySem.W.findIn K (.ref yMends) "weights" = some none)
  (naMendsknown:PySem.W.findIn K (.ref yMends) "known" = some none)
  {f19:Addr} {od19 an19:Option Addr} {sl19:Array (Option Value)} {oc19 kV19 dc19 pm19 cd19 ct19:Value}
  {dt19:Addr} {dl19:Value} {dm19:Option Addr} {dn19:Nat} {dq19:Array (Option Value)}
  (a19:PySem.W.findIn K (.ref yWays) "__init__" = some (some (.ref f19))) (i19:PySem.W.isFn K (.ref f19)=true)
  (l19:K.lookup f19=some ⟨oc19,od19,.func (PySem.W.fnOf "__init__" "Ways.__init__" (zbA (inC 0 (top 30))) (zbi (inC 0 (top 30))) (zaa (inC 0 (top 30))) (.ref dt19) kV19 dc19 pm19 an19 cd19 ct19),sl19⟩) (c19:PySem.W.codeIn K cd19 "Ways.__init__" = true) (k19:PySem.W.keepIn K (.ref f19)=true)
  (dk19:K.lookup dt19=some ⟨dl19,dm19,.seq #[Value.bool false] dn19,dq19⟩)
  (a46:PySem.W.nsIn K mainGlobals "law" = some (some (.ref f46)))
  (l46:K.lookup f46=some ⟨oc46,od46,.func (PySem.W.fnOf "law" "law" (zbA (top 46)) (zbi (top 46)) (zaa (top 46)) .none kV46 dc46 pm46 an46 cd46 ct46),sl46⟩) (c46:PySem.W.codeIn K cd46 "law" = true) (k46:PySem.W.keepIn K (.ref f46)=true)
  (z1:PySem.W.nsIn K mainGlobals "isinstance" = some none)
  (z2:PySem.W.nsIn K mainGlobals "int" = some none)
  (z3:PySem.W.nsIn K mainGlobals "bool" = some none)
  (z4:PySem.W.nsIn K mainGlobals "tuple" = some none)
  (z5:PySem.W.nsIn K mainGlobals "list" = some none)
  (z6:PySem.W.nsIn K mainGlobals "len" = some none)
  (z7:PySem.W.nsIn K mainGlobals "range" = some none)
  (z8:PySem.W.nsIn K mainGlobals "all" = some none)
  (z9:PySem.W.nsIn K mainGlobals "sum" = some none)
  (z10:PySem.W.nsIn K mainGlobals "min" = some none)
  (z11:PySem.W.nsIn K mainGlobals "zip" = some none)
  (z12:PySem.W.nsIn K mainGlobals "ValueError" = some none)
  {gt1:Tok} (gl1:PySem.W.nsIn K mainGlobals "NORTH" = some (some (.int 0 gt1)))
  {gt2:Tok} (gl2:PySem.W.nsIn K mainGlobals "EAST" = some (some (.int 1 gt2)))
  {gt3:Tok} (gl3:PySem.W.nsIn K mainGlobals "SOUTH" = some (some (.int 2 gt3)))
  {gt4:Tok} (gl4:PySem.W.nsIn K mainGlobals "WEST" = some (some (.int 3 gt4)))
  {e0 e1 e2 e3:Addr}
  (n0:PySem.W.nsIn K mainGlobals "FloorError" = some (some (.ref e0))) (x0:PySem.W.excIn K e0 bmV "ValueError.__new__" = true)
  (n1:PySem.W.nsIn K mainGlobals "NoPlace" = some (some (.ref e1))) (x1:PySem.W.excIn K e1 bmV "ValueError.__new__" = true)
  (n2:PySem.W.nsIn K mainGlobals "NoTile" = some (some (.ref e2))) (x2:PySem.W.excIn K e2 bmV "ValueError.__new__" = true)
  (n3:PySem.W.nsIn K mainGlobals "Unlike" = some (some (.ref e3))) (x3:PySem.W.excIn K e3 bmV "ValueError.__new__" = true)
  {el1:Value} {ed1:Option Addr} {ec1:ClassData} {es1:Array (Option Value)} (lk1:K.lookup e1=some ⟨el1,ed1,.cls ec1,es1⟩) (mr1:ec1.mro.contains (.ref e0)=true)
  {el2:Value} {ed2:Option Addr} {ec2:ClassData} {es2:Array (Option Value)} (lk2:K.lookup e2=some ⟨el2,ed2,.cls ec2,es2⟩) (mr2:ec2.mro.contains (.ref e0)=true)
  {el3:Value} {ed3:Option Addr} {ec3:ClassData} {es3:Array (Option Value)} (lk3:K.lookup e3=some ⟨el3,ed3,.cls ec3,es3⟩) (mr3:ec3.mro.contains (.ref e0)=true)
  (p1:GFn K "is_whole" (top 11)) (p2:GFn K "is_tuple_of" (top 12)) (p3:GFn K "has_number" (top 13)) (p4:GFn K "may_lie" (top 14)) (p5:GFn K "empty" (top 15)) (p6:GFn K "size_of" (top 16)) (p7:GFn K "places_of" (top 17)) (p8:GFn K "is_row_like" (top 18)) (p9:GFn K "is_like" (top 19)) (p10:GFn K "refuse_unlike" (top 20)) (p11:GFn K "number_at" (top 21)) (p12:GFn K "laid_places" (top 22)) (p13:GFn K "has_place" (top 23)) (p14:GFn K "refuse_outside" (top 24)) (p15:GFn K "tile_at" (top 25)) (p16:GFn K "with_number" (top 26)) (p17:GFn K "with_tile" (top 27)) (p18:GFn K "suits" (top 29)) (p20:MFn K yWays "first_seam" "Ways.first_seam" (inC 1 (top 30))) (p21:MFn K yWays "ends_row" "Ways.ends_row" (inC 2 (top 30))) (p22:MFn K yWays "colour_round" "Ways.colour_round" (inC 3 (top 30))) (p23:MFn K yWays "seam_behind" "Ways.seam_behind" (inC 4 (top 30))) (p24:MFn K yWays "numbers_for" "Ways.numbers_for" (inC 5 (top 30))) (p25:MFn K yWays "fits_round" "Ways.fits_round" (inC 6 (top 30))) (p26:MFn K yWays "fits" "Ways.fits" (inC 7 (top 30))) (p27:MFn K yWays "choices" "Ways.choices" (inC 8 (top 30))) (p28:MFn K yWays "count_from" "Ways.count_from" (inC 9 (top 30))) (p29:MFn K yWays "count_all" "Ways.count_all" (inC 10 (top 30))) (p30:GFn K "count_fills" (top 31)) (p31:GFn K "has_fill" (top 33)) (p32:GFn K "without" (top 34)) (p33:GFn K "stuck" (top 35)) (p34:GFn K "cost_at" (top 37)) (p35:MFn K yMends "__init__" "Mends.__init__" (inC 0 (top 38))) (p36:MFn K yMends "offers" "Mends.offers" (inC 1 (top 38))) (p37:MFn K yMends "least_by_offers" "Mends.least_by_offers" (inC 2 (top 38))) (p38:MFn K yMends "least_from" "Mends.least_from" (inC 3 (top 38))) (p39:MFn K yMends "least_all" "Mends.least_all" (inC 4 (top 38))) (p40:GFn K "least_cost" (top 39)) (p41:GFn K "_law_cell" (top 41)) (p42:GFn K "_law_pick" (top 42)) (p43:GFn K "_law_tiles" (top 43)) (p44:GFn K "_law_floor" (top 44)) (p45:GFn K "_law_sides" (top 45))
  : ∃fd:FuncData,(∀(s:Shared) (v:Value),BindsTo s fd ⟨[v],[]⟩ [("_law_script",v)])/\∀base:Heap,K.In base->base.Ns mainGlobals mg->FnOk l.prog w K mg base (CXE l.prog w) 144 fa fd ["_law_script"] (S2.zly K):=by
 have e:=hfa.symm.trans (PySem.W.mg_of X G a46);cases e;have CLWays:Cls K yWays:=⟨pgWays,hdWays,poWays,saWays⟩;have CLMends:Cls K yMends:=⟨pgMends,hdMends,poMends,saMends⟩;have U19:FunD K "__init__" "Ways.__init__" (inC 0 (top 30)) f19 _ #[Value.bool false]:=⟨⟨_,_,_,_,dn19,_,_,_,_,_,_,_,rfl,l19,c19,dk19,rfl⟩⟩;have b19:zbG K (PySem.W.fnOf "__init__" "Ways.__init__" (zbA (inC 0 (top 30))) (zbi (inC 0 (top 30))) (zaa (inC 0 (top 30))) (.ref dt19) kV19 dc19 pm19 an19 cd19 ct19) ["self","tiles","floor","is_round"] []:=fun s us KX hl=>bb4 (p:=fun us=>BindsTo s _ ⟨us,[]⟩ ((["self","tiles","floor","is_round"]:List Str).zip (us++[]))) (fun _ _ _ _=>PySem.W.binds_K KX rfl dk19 rfl rfl rfl) us (by simpa using hl)
 have bd19:zbG K (PySem.W.fnOf "__init__" "Ways.__init__" (zbA (inC 0 (top 30))) (zbi (inC 0 (top 30))) (zaa (inC 0 (top 30))) (.ref dt19) kV19 dc19 pm19 an19 cd19 ct19) ["self","tiles","floor","is_round"] [Value.bool false]:=fun s us KX hl=>bb3 (p:=fun us=>BindsTo s _ ⟨us,[]⟩ ((["self","tiles","floor","is_round"]:List Str).zip (us++[Value.bool false]))) (fun _ _ _=>PySem.W.binds_K KX rfl dk19 rfl rfl rfl) us (by simpa using hl)
 have U46:=zm9 (st:=(top 46)) l46 c46 k46;refine ⟨PySem.W.fnOf "law" "law" (zbA (top 46)) (zbi (top 46)) (zaa (top 46)) .none kV46 dc46 pm46 an46 cd46 ct46,fun s v=>.of_eq rfl,fun base _ _=>?_⟩
 let cl:Cf:=⟨fun x=>(([("FloorError",e0),("NoPlace",e1),("NoTile",e2),("Unlike",e3),("Ways",yWays),("Mends",yMends)]:List (Str×Addr)).lookup x).getD 0,K,l.prog,w⟩
 have g0:GOk cl (Gn T F0) l.prog w K mg base 0:=zxh (cl:=cl) (zap ⟨.int 0,_,PySem.W.mg_of X G gl1,⟨_,rfl⟩,fun _=>.int _⟩ (zap ⟨.int 1,_,PySem.W.mg_of X G gl2,⟨_,rfl⟩,fun _=>.int _⟩ (zap ⟨.int 2,_,PySem.W.mg_of X G gl3,⟨_,rfl⟩,fun _=>.int _⟩ (zap ⟨.int 3,_,PySem.W.mg_of X G gl4,⟨_,rfl⟩,fun _=>.int _⟩ zfC)))) (zap (PySem.W.mg_none_of X G z1) (zap (PySem.W.mg_none_of X G z2) (zap (PySem.W.mg_none_of X G z3) (zap (PySem.W.mg_none_of X G z4) (zap (PySem.W.mg_none_of X G z5) (zap (PySem.W.mg_none_of X G z6) (zap (PySem.W.mg_none_of X G z7) (zap (PySem.W.mg_none_of X G z8) (zap (PySem.W.mg_none_of X G z9) (zap (PySem.W.mg_none_of X G z10) (zap (PySem.W.mg_none_of X G z11) (zap (PySem.W.mg_none_of X G z12) zfC)))))))))))) (zap ⟨PySem.W.mg_of X G n0,x0⟩ (zap ⟨PySem.W.mg_of X G n1,x1⟩ (zap ⟨PySem.W.mg_of X G n2,x2⟩ (zap ⟨PySem.W.mg_of X G n3,x3⟩ zfC)))) (zap ⟨⟨_,_,x3⟩,_,_,_,_,lk3,mr3⟩ (zap ⟨⟨_,_,x1⟩,_,_,_,_,lk1,mr1⟩ (zap ⟨⟨_,_,x2⟩,_,_,_,_,lk2,mr2⟩ zfC))) zfC (zap ⟨CLWays,naWaystiles⟩ (zap ⟨CLWays,naWaysground⟩ (zap ⟨CLWays,naWayssize⟩ (zap ⟨CLWays,naWaysis_round⟩ (zap ⟨CLWays,naWaysknown⟩ (zap ⟨CLMends,naMendssize⟩ (zap ⟨CLMends,naMendsways⟩ (zap ⟨CLMends,naMendslaid⟩ (zap ⟨CLMends,naMendsweights⟩ (zap ⟨CLMends,naMendsknown⟩ zfC))))))))));have g1:GOk cl (Gn T F1) l.prog w K mg base 1:=g0.addG X G p1 s1 rfl rfl rfl (fun _ _ _ _ _ _=>bb1 fun _=>rfl) d1;have g2:GOk cl (Gn T F2) l.prog w K mg base 2:=g1.addG X G p2 s2 rfl rfl rfl (fun _ _ _ _ _ _=>bb3 fun _ _ _=>rfl) d2;have g3:GOk cl (Gn T F3) l.prog w K mg base 3:=g2.addG X G p3 s3 rfl rfl rfl (fun _ _ _ _ _ _=>bb2 fun _ _=>rfl) d3;have g4:GOk cl (Gn T F4) l.prog w K mg base 4:=g3.addG X G p4 s4 rfl rfl rfl (fun _ _ _ _ _ _=>bb2 fun _ _=>rfl) d4;have g5:GOk cl (Gn T F5) l.prog w K mg base 5:=g4.addG X G p5 s5 rfl rfl rfl (fun _ _ _ _ _ _=>bb2 fun _ _=>rfl) d5;have g6:GOk cl (Gn T F6) l.prog w K mg base 6:=g5.addG X G p6 s6 rfl rfl rfl (fun _ _ _ _ _ _=>bb1 fun _=>rfl) d6;have g7:GOk cl (Gn T F7) l.prog w K mg base 7:=g6.addG X G p7 s7 rfl rfl rfl (fun _ _ _ _ _ _=>bb1 fun _=>rfl) d7;have g8:GOk cl (Gn T F8) l.prog w K mg base 8:=g7.addG X G p8 s8 rfl rfl rfl (fun _ _ _ _ _ _=>bb2 fun _ _=>rfl) d8;have g9:GOk cl (Gn T F9) l.prog w K mg base 9:=g8.addG X G p9 s9 rfl rfl rfl (fun _ _ _ _ _ _=>bb2 fun _ _=>rfl) d9;have g10:GOk cl (Gn T F10) l.prog w K mg base 10:=g9.addG X G p10 s10 rfl rfl rfl (fun _ _ _ _ _ _=>bb2 fun _ _=>rfl) d10;have g11:GOk cl (Gn T F11) l.prog w K mg base 11:=g10.addG X G p11 s11 rfl rfl rfl (fun _ _ _ _ _ _=>bb2 fun _ _=>rfl) d11;have g12:GOk cl (Gn T F12) l.prog w K mg base 12:=g11.addG X G p12 s12 rfl rfl rfl (fun _ _ _ _ _ _=>bb1 fun _=>rfl) d12;have g13:GOk cl (Gn T F13) l.prog w K mg base 13:=g12.addG X G p13 s13 rfl rfl rfl (fun _ _ _ _ _ _=>bb2 fun _ _=>rfl) d13;have g14:GOk cl (Gn T F14) l.prog w K mg base 14:=g13.addG X G p14 s14 rfl rfl rfl (fun _ _ _ _ _ _=>bb2 fun _ _=>rfl) d14;have g15:GOk cl (Gn T F15) l.prog w K mg base 15:=g14.addG X G p15 s15 rfl rfl rfl (fun _ _ _ _ _ _=>bb2 fun _ _=>rfl) d15;have g16:GOk cl (Gn T F16) l.prog w K mg base 16:=g15.addG X G p16 s16 rfl rfl rfl (fun _ _ _ _ _ _=>bb3 fun _ _ _=>rfl) d16;have g17:GOk cl (Gn T F17) l.prog w K mg base 17:=g16.addG X G p17 s17 rfl rfl rfl (fun _ _ _ _ _ _=>bb4 fun _ _ _ _=>rfl) d17;have g18:GOk cl (Gn T F18) l.prog w K mg base 18:=g17.addG X G p18 s18 rfl rfl rfl (fun _ _ _ _ _ _=>bb2 fun _ _=>rfl) d18;have G19:=zri (cl:=cl) (wo:=w) (P:=l.prog) U19 s19 (g18.at "Ways") rfl rfl rfl d19;have g19:GOk cl (Gn T F19) l.prog w K mg base 20:=GOk.addK (k':=19) (fi:=⟨4,false,zaN⟩) (dvs:=[.bl false]) (g18.up (by decide)) (by decide) (PySem.W.mg_of X G nyWays) ⟨mkWays,a19,i19,kpWays⟩ b19 bd19 (.cons rfl .nil) (fun _=>(.cons (.bl _) .nil)) G19;have g20:GOk cl (Gn T F20) l.prog w K mg base 21:=g19.addMG (c:="Ways") CLWays p20 s20 rfl rfl rfl (fun _ _ _ _ _ _=>bb1 fun _=>rfl) d20;have g21:GOk cl (Gn T F21) l.prog w K mg base 22:=g20.addMG (c:="Ways") CLWays p21 s21 rfl rfl rfl (fun _ _ _ _ _ _=>bb2 fun _ _=>rfl) d21;have g22:GOk cl (Gn T F22) l.prog w K mg base 23:=g21.addMG (c:="Ways") CLWays p22 s22 rfl rfl rfl (fun _ _ _ _ _ _=>bb4 fun _ _ _ _=>rfl) d22;have g23:GOk cl (Gn T F23) l.prog w K mg base 24:=g22.addMG (c:="Ways") CLWays p23 s23 rfl rfl rfl (fun _ _ _ _ _ _=>bb4 fun _ _ _ _=>rfl) d23;have g24:GOk cl (Gn T F24) l.prog w K mg base 25:=g23.addMG (c:="Ways") CLWays p24 s24 rfl rfl rfl (fun _ _ _ _ _ _=>bb2 fun _ _=>rfl) d24;have g25:GOk cl (Gn T F25) l.prog w K mg base 26:=g24.addMG (c:="Ways") CLWays p25 s25 rfl rfl rfl (fun _ _ _ _ _ _=>bb4 fun _ _ _ _=>rfl) d25;have g26:GOk cl (Gn T F26) l.prog w K mg base 27:=g25.addMG (c:="Ways") CLWays p26 s26 rfl rfl rfl (fun _ _ _ _ _ _=>bb4 fun _ _ _ _=>rfl) d26;have g27:GOk cl (Gn T F27) l.prog w K mg base 28:=g26.addMG (c:="Ways") CLWays p27 s27 rfl rfl rfl (fun _ _ _ _ _ _=>bb3 fun _ _ _=>rfl) d27;have g28:GOk cl (Gn T F28) l.prog w K mg base 68:=g27.addRG (c:="Ways") CLWays p28 s28 rfl rfl rfl (fun _ _ _ _ _ _=>bb3 fun _ _ _=>rfl) d28 40;have g29:GOk cl (Gn T F29) l.prog w K mg base 69:=g28.addMG (c:="Ways") CLWays p29 s29 rfl rfl rfl (fun _ _ _ _ _ _=>bb1 fun _=>rfl) d29;have g30:GOk cl (Gn T F30) l.prog w K mg base 70:=g29.addG X G p30 s30 rfl rfl rfl (fun _ _ _ _ _ _=>bb2 fun _ _=>rfl) d30;have g31:GOk cl (Gn T F31) l.prog w K mg base 71:=g30.addG X G p31 s31 rfl rfl rfl (fun _ _ _ _ _ _=>bb2 fun _ _=>rfl) d31;have g32:GOk cl (Gn T F32) l.prog w K mg base 72:=g31.addG X G p32 s32 rfl rfl rfl (fun _ _ _ _ _ _=>bb3 fun _ _ _=>rfl) d32;have g33:GOk cl (Gn T F33) l.prog w K mg base 73:=g32.addG X G p33 s33 rfl rfl rfl (fun _ _ _ _ _ _=>bb2 fun _ _=>rfl) d33;have g34:GOk cl (Gn T F34) l.prog w K mg base 74:=g33.addG X G p34 s34 rfl rfl rfl (fun _ _ _ _ _ _=>bb3 fun _ _ _=>rfl) d34;have g35:GOk cl (Gn T F35) l.prog w K mg base 76:=g34.addKG (c:="Mends") X G nyMends mkMends kpMends p35 s35 rfl rfl rfl (fun _ _ _ _ _ _=>bb4 fun _ _ _ _=>rfl) d35;have g38:GOk cl (Gn T F38) l.prog w K mg base 136:=GOk.addR3G (cl:=cl) (c:="Mends") (n:=60) (n1:=8) (l1:=3) (b1:=zaz) (r1:=zdw) (n2:=5) (l2:=3) (b2:=zae) (r2:=zbv) (n3:=4) (l3:=3) (b3:=zah) (r3:=zaZ) g35 CLMends p36 p37 p38 s36 s37 s38 rfl rfl rfl (fun _ _ _ _ _ _=>bb3 fun _ _ _=>rfl) (fun _ _ _ _ _ _=>bb3 fun _ _ _=>rfl) (fun _ _ _ _ _ _=>bb3 fun _ _ _=>rfl) d36 d37 d38 rfl rfl rfl rfl rfl rfl rfl rfl rfl;have g39:GOk cl (Gn T F39) l.prog w K mg base 137:=g38.addMG (c:="Mends") CLMends p39 s39 rfl rfl rfl (fun _ _ _ _ _ _=>bb1 fun _=>rfl) d39;have g40:GOk cl (Gn T F40) l.prog w K mg base 138:=g39.addG X G p40 s40 rfl rfl rfl (fun _ _ _ _ _ _=>bb3 fun _ _ _=>rfl) d40;have g41:GOk cl (Gn T F41) l.prog w K mg base 139:=g40.addG X G p41 s41 rfl rfl rfl (fun _ _ _ _ _ _=>bb2 fun _ _=>rfl) d41;have g42:GOk cl (Gn T F42) l.prog w K mg base 140:=g41.addG X G p42 s42 rfl rfl rfl (fun _ _ _ _ _ _=>bb3 fun _ _ _=>rfl) d42;have g43:GOk cl (Gn T F43) l.prog w K mg base 141:=g42.addG X G p43 s43 rfl rfl rfl (fun _ _ _ _ _ _=>bb3 fun _ _ _=>rfl) d43;have g44:GOk cl (Gn T F44) l.prog w K mg base 142:=g43.addG X G p44 s44 rfl rfl rfl (fun _ _ _ _ _ _=>bb6 fun _ _ _ _ _ _=>rfl) d44;have g45:GOk cl (Gn T F45) l.prog w K mg base 143:=g44.addG X G p45 s45 rfl rfl rfl (fun _ _ _ _ _ _=>bb2 fun _ _=>rfl) d45;have G46:=zgZ (cl:=cl) (wo:=w) (P:=l.prog) U46 s46 g45 rfl rfl rfl d46;exact G46.imp (zqY (cl:=cl) zl8)
theorem walk{l:PySem.W.OpenLaw}{q:Program}{loose:List Str}{XP:(Str->Option Value)->Heap->Prop}{YP:PySem.World->Heap->Prop}{d:DefRec}{K:Params->PySem.W.Frag}(hn:l.most=some 63)(hdf:d.params.defaults=[])
  (hY:∀(w:PySem.World) (h:Heap),YP w h->(K w.params).In h)
  (F:∀(w:PySem.World) (mg:Z6) (fa:Addr) (h:Heap),(K w.params).In h->h.Ns mainGlobals mg->mg d.name=some (.ref fa) →
   ∃fd:FuncData,(∀(s:Shared) (u:Value),BindsTo s fd ⟨[u],[]⟩ [("_law_script",u)])/\∀base:Heap,(K w.params).In base->base.Ns mainGlobals mg->FnOk l.prog w (K w.params) mg base (CXE l.prog w) 144 fa fd ["_law_script"] (S2.zly (K w.params))) :
  PySem.W.WalkO q loose XP YP l.row.toRowW d [] (fun f vs=>PySem.call f vs) :=
 L2.znm (n:=63) (k:=144) (x:="_law_script") (CX:=fun w=>CXE l.prog w) (sp:=fun w=>S2.zly (K w.params)) hn (by decide) hdf ⟨rfl,by decide,by decide⟩ hY F (fun _ _ a ns hl hO hS=>⟨a,ns,rfl,hl,hO,hS,fun _=>rfl⟩) (by rintro _ _ _ _ _ ⟨_,_,_,_,_,_,_,_,_,_,_,_,_,_,z⟩;exact z)
end M32
namespace PySem.W.Fast
def tw15283840762456013996:=0
def tw9181223615673536303:=0
def tw5932061767866552001:=0
def tw1487831344582462321:=0
def tw2535191352314359322:=0
def tw18358986053116552362:=0
def tw3320847651249561998:=0
def tw16793756762255426102:=0
def tw11226893992039912925:=0
def tw9980534375827162272:=0
def tw13844402933086907565:=0
def tw6094923493788114546:=0
def tw12526160068514216265:=0
def tw13962984292834170485:=0
def tw9280990647975722089:=0
def tw18270571223206559086:=0
def tw2003905780518434449:=0
def tw14918304910602392149:=0
def tw4647085357351815916:=0
def tw13329770897111386026:=0
def tw8627559170582610590:=0
def tw4873506852532526216:=0
def tw15619921816061443296:=0
def tw6248393727146003048:=0
def tw14184010142206998065:=0
def tw2395623125337373918:=0
def tw14554953161135603176:=0
def tw6204134710598517169:=0
def tw8373386793994624850:=0
def tw14765599360022142371:=0
def tw10661881129295030899:=0
def tw4421101033536230963:=0
def tw4572116314876619849:=0
def tw93275103855885813:=0
def tw12000322425426009183:=0
def tw8088981991863445878:=0
def tw14165240864097135022:=0
def tw18096332356518535674:=0
def tw2906654996977241171:=0
def tw6140909943925320175:=0
def tw12609384791878944090:=0
def tw6726457355375103553:=0
def tw6088393716578011965:=0
def tw17748894975175320390:=0
def tw7359053769470438687:=0
def tw3050450187739461012:=0
def tw14027180455151006916:=0
def tw3715390375867267826:=0
def tw2874110874807634780:=0
def tw14082743002379317099:=0
def tw7695317213062550958:=0
def tw17144332147751317751:=0
def tw15084962396528968503:=0
def tw4892511086060813564:=0
def tw9125541161390830490:=0
def tw6491202435861938327:=0
def tw653290156536288075:=0
def tw16797218391585391662:=0
def tw1450115679312187102:=0
def tw7793452329916038941:=0
def tw16718315338598192646:=0
def tw805393087955824943:=0
def tw14710241212844203196:=0
def tw11380643911134482633:=0
def tw5935893172338052961:=0
def tw6888594223956789427:=0
def tw4065653970900021298:=0
def tw17046728832417988421:=0
def tw1456792303412375273:=0
def tw2953614843884130606:=0
def tw16262908951007674701:=0
def tw17658950410007774803:=0
def tw13729222480892414799:=0
def tw5325263214602435690:=0
def tw17775461849487877912:=0
def tw12918609736683716799:=0
def tw13914556154832383609:=0
def tw4373943472280705678:=0
def tw17868402399148958716:=0
def tw1524845509822103107:=0
def tw13881395739740291813:=0
def tw9415768854807347542:=0
def tw8419440512132055722:=0
def tw9472817742615083534:=0
def tw16458860639282734746:=0
def tw10298912595291394601:=0
def tw5838778433245317626:=0
def tw15205676191058276646:=0
def tw14677325043371387061:=0
def tw15947527854608263397:=0
def tw13579227030983353011:=0
def tw5655209327399989778:=0
def tw18151272799793413383:=0
def tw5009320051729425689:=0
def tw1563266233049219718:=0
def tw18432213241647978990:=0
def tw1818891416757270442:=0
def tw1367208496363349515:=0
def tw10434241210853485539:=0
def tw5073762773052506146:=0
def tw15598511633835151330:=0
def tw6213259632298580199:=0
def tw8505077053200527616:=0
def tw9094487617453136015:=0
def tw7332560926373306498:=0
def tw16167030204808337467:=0
def tw12614858403516224208:=0
def tw13830018715225407290:=0
def tw14476886464146704914:=0
def tw8723419009289596956:=0
def tw10310644680529627666:=0
def tw8574101930890263914:=0
def tw5302513862685389451:=0
def tw12234731157938532932:=0
def tw18028524478657948847:=0
def tw825386850779792219:=0
def tw7475178764443700147:=0
def tw13479404241901378147:=0
def tw12226343274771175206:=0
def tw13444360148564658589:=0
def tw16257516033501269502:=0
def tw5623427181816528423:=0
def tw6812895499664922944:=0
def tw2067614271729508084:=0
def tw13142885236443706409:=0
def tw10345222528611241154:=0
def tw9135659748942651691:=0
def tw8819599580115551429:=0
def tw12063163093821246319:=0
def tw11308821016154041390:=0
def tw13420032415083721284:=0
def tw10471207032291105609:=0
def tw12321870480479054059:=0
def tw1878434774304192461:=0
def tw2638504560896152982:=0
def tw1947725947870330338:=0
def tw11893103125574462437:=0
def tw961520426731651221:=0
def tw15235163753055388213:=0
def tw4421142002706755857:=0
def tw5246915374246738713:=0
def tw8176999251043345339:=0
def tw3782652342128707124:=0
def tw2859941892989723307:=0
def tw8963603252038403519:=0
def tw5865811855087208519:=0
def tw16428995002426234317:=0
def tw13828088726135551668:=0
def tw13387529179986048032:=0
def tw13660955084978951682:=0
def tw2143614918202328586:=0
def tw11187448853444371694:=0
def tw12688030662530909513:=0
def tw8307078256611515466:=0
def tw10587154783871256836:=0
def tw218297843321933214:=0
def tw4904979175952542872:=0
def tw2641559340311509304:=0
def tw17127086657747656427:=0
def tw10897219165109554271:=0
def tw8963793569472075825:=0
def tw9178625392954597498:=0
def tw1004698724010792955:=0
def tw7939649456443234092:=0
def tw5451637772022975780:=0
def tw4426975101337868338:=0
def tw6452270626251479664:=0
def tw3360830833328021562:=0
def tw10103314383281251868:=0
def tw12268996324336088882:=0
def tw3472501582682675674:=0
def tw10670846308741152809:=0
def tw13656065827894861370:=0
def tw9204487962558391171:=0
def tw7160563608884820717:=0
def tw3903331399714988835:=0
def tw11386016536326333091:=0
def tw4184721149135472203:=0
def tw16604455912180226511:=0
def tw10875534214261153410:=0
def tw1293184793782737842:=0
def tw9923127618592171319:=0
def tw14433299344945409769:=0
def tw12793929973565845103:=0
def tw8220121329551635157:=0
def tw17796228883897289844:=0
def tw16252489567221206644:=0
def tw5173251582360746685:=0
def tw8475531275603465918:=0
def tw837431010203325112:=0
def tw2503680231798552957:=0
def tw2307767224292874395:=0
def tw13223410951278951887:=0
def tw1066838855656879195:=0
def tw6530372218690603300:=0
def tw1429983782574819498:=0
def tw3725404263439357257:=0
def tw16299082290670921075:=0
def tw16062812601556119974:=0
def tw13289695105059737631:=0
def tw9010591037945060177:=0
def tw18029452513154940603:=0
def tw14092103466775533766:=0
def tw2792731493912023189:=0
def tw9578959588211693519:=0
def tw15787340724666973933:=0
def tw1499300247222669075:=0
def tw13586963696257613319:=0
def tw8441137935326335884:=0
def tw1796339671334535121:=0
def tw11656369800075456780:=0
def tw16000703907088445792:=0
def tw12006580158534528282:=0
def tw9489430000507534586:=0
def tw778002317723276769:=0
def tw16873859521839608818:=0
def tw16867464954199009489:=0
def tw14865265931409897384:=0
def tw4972999309198493922:=0
def tw8652454491835143022:=0
def tw6892504099030083585:=0
def tw12076053224311408703:=0
def tw11465403417359921059:=0
def tw8057431211814685073:=0
def tw9783273196720225589:=0
def tw3195916159898479730:=0
def tw17297878126855478522:=0
def tw3763311293909045401:=0
def tw7998037916904455561:=0
def tw690038250810760269:=0
def tw1682560757993549333:=0
def tw7929832624828624400:=0
def tw15831518047278156281:=0
def tw2111736006552751949:=0
def tw18217369962634178384:=0
def tw15766149635471547400:=0
def tw13515909855789193582:=0
def tw127234400109896740:=0
def tw8723351788508020258:=0
def tw962619708334028652:=0
def tw11036097341393345239:=0
def tw14533795751059480391:=0
def tw10321915515291440138:=0
def tw15036971599046093028:=0
def tw12140610923541134015:=0
def tw4792015423491944239:=0
def tw12656301161088416189:=0
def tw10393254776756553896:=0
def tw5752032272575662250:=0
def tw182552545968169845:=0
def tw15601044487223725224:=0
def tw15137363445545344459:=0
def tw9327681796758453209:=0
def tw9066906311945717428:=0
def tw5998492562469656471:=0
def tw5829167178285270586:=0
def tw3811763282780639168:=0
def tw18139729056037325387:=0
def tw16009047342437423213:=0
def tw15674439397179805004:=0
def tw10050680561668914802:=0
def tw9520787379392237768:=0
def tw13482667262756339906:=0
def tw8121511754096658929:=0
def tw16929660889982048981:=0
def tw10998705590127678589:=0
def tw11432445973040614664:=0
def tw10534844692900319327:=0
def tw8774784875117497879:=0
def tw9852011627051725204:=0
def tw16624548834160760366:=0
def tw9921924758008434958:=0
def tw15987566424812083815:=0
def tw5297835609482423534:=0
def tw17342250200024684660:=0
def tw10375910409103283655:=0
def tw13023455257172361030:=0
def tw15175012843027501395:=0
def tw5513560435317623524:=0
def tw12117896902059047867:=0
def tw138927502982627900:=0
def tw13242182852161240819:=0
def tw12709754510269053086:=0
def tw16684518005678382261:=0
def tw187606633488969745:=0
def tw14335544045530093363:=0
def tw14132554067247822041:=0
def tw12498171169558978875:=0
def tw7857175264709276379:=0
def tw2131522960640200281:=0
def tw12065826135142687677:=0
def tw4659185906378661087:=0
def tw4434559814921796153:=0
def tw3770462211754794536:=0
def tw18262686476964772685:=0
def tw16309857353236798859:=0
def tw12527097736663191908:=0
def tw11112447787536187469:=0
def tw8313578189320056692:=0
def tw6911717613283178292:=0
def tw16738065891687131419:=0
def tw13037687600497073131:=0
def tw10770188458463654216:=0
def tw8219067708912718145:=0
def tw7253590473729685633:=0
def tw6889297521099773683:=0
def tw10093089045523929011:=0
def tw9170624937600680257:=0
def tw14195487756722875470:=0
def tw14224103061654548773:=0
def tw8078325157365898543:=0
def tw1602253675228364837:=0
def tw7968663487582597143:=0
def tw5676366248468495779:=0
def tw2633842703474840594:=0
def tw16713676213389435341:=0
def tw12891356657710047556:=0
def tw10489551102019072943:=0
def tw10300964624636724067:=0
def tw1496166309740928515:=0
def tw13638343385480567649:=0
def tw9760351581795510260:=0
def tw7502395916182384642:=0
def tw6200399278588079531:=0
def tw3858771816881083828:=0
def tw13993131768092868418:=0
def tw13528342544145446171:=0
def tw1338286880800510490:=0
def tw5077061212292558606:=0
def tw3781532075716350811:=0
def tw2233919711445467622:=0
def tw17377663885464199326:=0
def tw16399781387200169151:=0
def tw14856815728793190881:=0
def tw4714610797811840431:=0
def tw2815689606790453394:=0
def tw14902784526341760957:=0
def tw14740390964356714740:=0
def tw8627057634873846769:=0
def tw4679379654888659998:=0
def tw18201153640687710260:=0
def tw16113510096643434997:=0
def tw15478822399531886483:=0
def tw15174946872345444283:=0
def tw14807008851097469847:=0
def tw14185448007900624255:=0
def tw9905835748851664643:=0
def tw9526585835397708899:=0
def tw9501117100473715215:=0
def tw916744471587468560:=0
def tw8832284187809754879:=0
def tw8772372642478276210:=0
def tw8563942059716920287:=0
def tw8552333318537740801:=0
def tw8514814383522998649:=0
def tw8402295805893518660:=0
def tw8087129290000050920:=0
def tw8005300114516593975:=0
def tw7890120314692662414:=0
def tw780476419258066266:=0
def tw7496530780984605593:=0
def tw7425384361237567668:=0
def tw737991219118546972:=0
def tw7208276023056227426:=0
def tw693916912682966001:=0
def tw6902826196069934690:=0
def tw6877578255923458582:=0
def tw6685338703894804014:=0
def tw6610655277605482603:=0
def tw6585271355352529424:=0
def tw6348166115533598344:=0
def tw6347808578377885703:=0
def tw6324019952340106895:=0
def tw6148510935541331396:=0
def tw5962647681098303566:=0
def tw590576459481477508:=0
def tw5878367710915292016:=0
def tw5822044398026597740:=0
def tw5731246021430139644:=0
def tw5730732977591225980:=0
def tw5650904756179296258:=0
def tw5529850192021256905:=0
def tw5467910122414954308:=0
def tw5455496204157534799:=0
def tw5429038752591884634:=0
def tw5343183552873488057:=0
def tw5342869616341696576:=0
def tw5136527018930063687:=0
def tw5075342291762898270:=0
def tw5023124089295463732:=0
def tw4920369303321955923:=0
def tw4919217394938146310:=0
def tw4696330193952254761:=0
def tw3939926434814252857:=0
def tw3854062388374607167:=0
def tw3626505064199611270:=0
def tw3398216638711653146:=0
def tw3108974504989389242:=0
def tw3097726504318838029:=0
def tw3068184225523578960:=0
def tw3056163102832432174:=0
def tw2945993611925771011:=0
def tw2891942645438806144:=0
def tw2861995224467335837:=0
def tw260222962123133543:=0
def tw2415583405607455764:=0
def tw2409237757725612136:=0
def tw2208238194648534040:=0
def tw2079494865542112686:=0
def tw194231976905101709:=0
def tw18441001939374690716:=0
def tw18325937891014162630:=0
def tw1828621705353406212:=0
def tw18071328782086466784:=0
def tw17812509656941898210:=0
def tw17652713960944845724:=0
def tw17482948073813717167:=0
def tw17442771390529409928:=0
def tw17345326532990892783:=0
def tw17312015763897053757:=0
def tw16547699521007305911:=0
def tw16274609876199996917:=0
def tw16189699386218364137:=0
def tw16022972752932733511:=0
def tw15773745965746433956:=0
def tw15621917101563076017:=0
def tw15370015955076922980:=0
def tw15338050589581777250:=0
def tw15104652183032818550:=0
def tw15092752569280133282:=0
def tw15085042285693581205:=0
def tw15044624052918422610:=0
def tw14959025241023504974:=0
def tw14936114989762400410:=0
def tw14362392255325122659:=0
def tw13807264675454951318:=0
def tw13774281634019036954:=0
def tw13662518310433818531:=0
def tw13636347148841679792:=0
def tw13496874828501720805:=0
def tw13374569656612231516:=0
def tw13293883384360788377:=0
def tw13284106892653886189:=0
def tw13049819748890389644:=0
def tw12939935836208306200:=0
def tw12920318016334457119:=0
def tw1282710189551096586:=0
def tw12636929588148020464:=0
def tw12625178642903363971:=0
def tw12494245963118780588:=0
def tw12403917303341934887:=0
def tw12376725724153878607:=0
def tw12275732381034282877:=0
def tw12261100873343699645:=0
def tw12227611229075444642:=0
def tw12174735160166987422:=0
def tw12000363476171205196:=0
def tw11894449225092259410:=0
def tw11863095392719073273:=0
def tw11793282906245958597:=0
def tw11665379672260465649:=0
def tw11371461932807004426:=0
def tw11351278116835916765:=0
def tw11070683642699162998:=0
def tw10900553271526204215:=0
def tw1075876927436728748:=0
def tw10694343980136933651:=0
def tw10689953108574732727:=0
def tw10436552300260546971:=0
def tw10330980638995688690:=0
def tw10230072265652956904:=0
def tw10223848950584529128:=0
def tw10196401595652863839:=0
def tw10144705238426905611:=0
def tw10132071055398151611:=0
end PySem.W.Fast
open PySem PySem.W PyProof.Rows
set_option maxRecDepth 100000 in
set_option maxHeartbeats 0 in
theorem PySem.Challenge.cw_floorfits_k32_whole_stuck_costs_holds : PySem.Challenge.rw_floorfits_k32_whole_stuck_costs.Holds := by
 w_on;o_law;k_head;(case hw=>w_witness2)
 k_fill
 refine M32.walk (l:=PySem.Challenge.rw_floorfits_k32_whole_stuck_costs) rfl rfl (fun w h Y=>PySem.W.kIn_of Y) ?F
 case F =>
  intro w mg fa h KX G hmg;refine' M32.all_mk KX G hmg ?nyWays ?pgWays ?hdWays ?poWays ?saWays ?mkWays ?kpWays ?naWaystiles ?naWaysground ?naWayssize ?naWaysis_round ?naWaysknown ?nyMends ?pgMends ?hdMends ?poMends ?saMends ?mkMends ?kpMends ?naMendssize ?naMendsways ?naMendslaid ?naMendsweights ?naMendsknown ?a19 ?i19 ?l19 ?c19 ?k19 ?dk19 ?a46 ?l46 ?c46 ?k46 ?z1 ?z2 ?z3 ?z4 ?z5 ?z6 ?z7 ?z8 ?z9 ?z10 ?z11 ?z12 ?gl1 ?gl2 ?gl3 ?gl4 ?n0 ?x0 ?n1 ?x1 ?n2 ?x2 ?n3 ?x3 ?lk1 ?mr1 ?lk2 ?mr2 ?lk3 ?mr3 ?_ ?_ ?_ ?_ ?_ ?_ ?_ ?_ ?_ ?_ ?_ ?_ ?_ ?_ ?_ ?_ ?_ ?_ ?_ ?_ ?_ ?_ ?_ ?_ ?_ ?_ ?_ ?_ ?_ ?_ ?_ ?_ ?_ ?_ ?_ ?_ ?_ ?_ ?_ ?_ ?_ ?_ ?_ ?_
  (case nyWays=>k_is);(case pgWays=>k_is);(case hdWays=>k_is);(case poWays=>k_is)
  (case saWays=>k_is);(case mkWays=>k_is);(case kpWays=>k_is);(case naWaystiles=>k_is)
  (case naWaysground=>k_is);(case naWayssize=>k_is);(case naWaysis_round=>k_is);(case naWaysknown=>k_is)
  (case nyMends=>k_is);(case pgMends=>k_is);(case hdMends=>k_is);(case poMends=>k_is)
  (case saMends=>k_is);(case mkMends=>k_is);(case kpMends=>k_is);(case naMendssize=>k_is)
  (case naMendsways=>k_is);(case naMendslaid=>k_is);(case naMendsweights=>k_is);(case naMendsknown=>k_is)
  (case a19=>k_is);(case i19=>k_is);(case l19=>k_is);(case c19=>k_is)
  (case k19=>k_is);(case dk19=>k_is);(case a46=>k_is);(case l46=>k_is)
  (case c46=>k_is);(case k46=>k_is);(case z1=>k_is);(case z2=>k_is)
  (case z3=>k_is);(case z4=>k_is);(case z5=>k_is);(case z6=>k_is)
  (case z7=>k_is);(case z8=>k_is);(case z9=>k_is);(case z10=>k_is)
  (case z11=>k_is);(case z12=>k_is);(case gl1=>k_is);(case gl2=>k_is)
  (case gl3=>k_is);(case gl4=>k_is);(case n0=>k_is);(case x0=>k_exc)
  (case n1=>k_is);(case x1=>k_exc);(case n2=>k_is);(case x2=>k_exc)
  (case n3=>k_is);(case x3=>k_exc);(case lk1=>k_is);(case mr1=>with_unfolding_all rfl)
  (case lk2=>k_is);(case mr2=>with_unfolding_all rfl);(case lk3=>k_is);(case mr3=>with_unfolding_all rfl)
  all_goals ((first | refine' M32.gm ?a ?l ?c ?k ?i | refine' M32.mm ?a ?l ?c ?k ?i);(case a=>k_is);(case l=>k_is);(case c=>k_is);(case k=>k_is);(case i=>k_is))
#print axioms PySem.Challenge.cw_floorfits_k32_whole_stuck_costs_holds
