import PyProof.Rows.All
import Wide.All
import OpenK.AllK
import Wide.FinOn
import Lean
import PyProof.EqAt
import PyProof.EqKinds
import PyProof.TupleCall
import PySem.SetTable
import PyProof.TupleKey
import Wide.Seal
import PyProof.DictRoadsH
import PyProof.Rows.TupTab
import PyProof.Draws
import PyProof.EnumMake
import OpenK.KRaise
import OpenK.KOwn
import PyProof.Rows.TopTwo
import PyProof.RulesAs
import PyProof.RulesDel
import PyProof.ExcArgsOwn
import PyProof.ExcAttrAll.ValueError
import PyProof.Rows.CountFlat
import PyProof.SumWalk
import PyProof.Rows.SeqCalls
import PyProof.ZipIter
import KE.KRevIter
import PyProof.CollectIter
import PyProof.TupleOfGen
import PyProof.ListRange
import PyProof.WalkInts
import PySem.Challenge.RW_floorfits_k99_whole_edges_by_hand
set_option Elab.async false
set_option linter.all false
set_option maxRecDepth 100000
set_option maxHeartbeats 4000000
abbrev Z1:=Nat->Nat->Option Int
abbrev Z2:=List (List Int)
abbrev Z3:=List (PySem.Addr×PySem.Obj)
abbrev Z4:=List (Option Int)
abbrev Z5:=PySem.Value->PySem.Shared->Prop
abbrev Z6:=PySem.Str->Option PySem.Value
theorem S2.bdI{c k:Nat}(h:c<=k)(hk:k<=1000000):-1000000<=(c:Int)/\(c:Int)<=1000000:=⟨Int.le_trans (by decide) (Int.natCast_nonneg c),Int.ofNat_le.mpr (Nat.le_trans h hk)⟩
theorem S2.bdN{c k:Nat}(h:c<=k)(hk:k<=1000000):0<=(c:Int)/\(c:Int)<=1000000:=⟨Int.natCast_nonneg c,Int.ofNat_le.mpr (Nat.le_trans h hk)⟩
local macro_rules | `(tactic| omega) => `(tactic| first | assumption | exact Nat.le_trans (by assumption) (by decide) | exact Nat.lt_of_lt_of_le (by assumption) (by assumption) | exact Nat.lt_of_lt_of_le (by assumption) (by decide) | exact Nat.le_of_lt (by assumption) | exact S2.bdI (by assumption) (by decide) | exact Nat.le_trans (by assumption) (by assumption) | omega +splitDisjunctions)
namespace L2
open PySem PySem.Spec PyProof.Rows
abbrev Key:=Sum Int Str
def zrc:Key->Value->Bool
 | .inl k,v=>Value.isInt k v
 | .inr x,v=>Value.isStrOf x v
def zwR(w:World):Key->Int
 | .inl k=>hashInt k
 | .inr x=>hashStr w x
theorem za1:∀{k:Key} {v:Value},zrc k v=true->(∃i t,k=Sum.inl i/\v=Value.int i t)\/(∃x t,k=Sum.inr x/\v=Value.str x t)
 | .inl i,v,h=>by
  obtain ⟨t,e⟩:=Value.isInt_shape (k:=i) (v:=v) h;exact .inl ⟨i,t,rfl,e⟩
 | .inr x,v,h=>by
  obtain ⟨t,e⟩:=Value.isStrOf_shape (x:=x) (v:=v) h;exact .inr ⟨x,t,rfl,e⟩
theorem zrb(a b:Int):decide ((Sum.inl a:Key)=Sum.inl b)=(a == b):=by
 by_cases e:a=b
 ·subst e;simp
 ·have h:¬ (Sum.inl a:Key)=Sum.inl b:=fun q=>e (Sum.inl.inj q)
  rw [decide_eq_false h];exact (beq_eq_false_iff_ne.mpr e).symm
theorem zq8(a b:Str):decide ((Sum.inr a:Key)=Sum.inr b)=decide (a=b):=by
 by_cases e:a=b
 ·subst e;simp
 ·have h:¬ (Sum.inr a:Key)=Sum.inr b:=fun q=>e (Sum.inr.inj q)
  rw [decide_eq_false h,decide_eq_false e]
theorem zra(a:Int)(b:Str):decide ((Sum.inl a:Key)=Sum.inr b)=false:=decide_eq_false (fun q=>nomatch q)
theorem zq9(a:Str)(b:Int):decide ((Sum.inr a:Key)=Sum.inl b)=false:=decide_eq_false (fun q=>nomatch q)
def zkA(prog:Program)(w:World):PySem.KeyKind prog w Key where
 is:=zrc
 hash:=zwR w
 inj:=fun v a b ha hb=>by
  rcases za1 ha with ⟨i,t,rfl,rfl⟩ | ⟨x,t,rfl,rfl⟩
  ·rcases za1 hb with ⟨j,u,rfl,e⟩ | ⟨y,u,rfl,e⟩
   ·injection e with e1 _;rw [e1]
   ·exact nomatch e
  ·rcases za1 hb with ⟨j,u,rfl,e⟩ | ⟨y,u,rfl,e⟩
   ·exact nomatch e
   ·injection e with e1 _;rw [e1]
 byValue:=fun k v h=>by
  rcases za1 h with ⟨i,t,rfl,rfl⟩ | ⟨x,t,rfl,rfl⟩<;>rfl
 pyHash:=fun hv h=>by
  rcases za1 hv with ⟨i,t,rfl,rfl⟩ | ⟨x,t,rfl,rfl⟩
  ·exact wpAny_pyHash_int h
  ·exact wpAny_pyHash_str h
 eqBool:=fun hu hv h=>by
  rcases za1 hu with ⟨i,t,rfl,rfl⟩ | ⟨x,t,rfl,rfl⟩
  ·rcases za1 hv with ⟨j,u,rfl,rfl⟩ | ⟨y,u,rfl,rfl⟩
   ·rw [zrb] at h;exact wpAny_eqBool_int h
   ·rw [zra] at h;exact SeqAt.EqAt.int_str i t y u _ _ _ _ h
  ·rcases za1 hv with ⟨j,u,rfl,rfl⟩ | ⟨y,u,rfl,rfl⟩
   ·rw [zq9] at h;exact SeqAt.EqAt.str_int x t j u _ _ _ _ h
   ·rw [zq8] at h;exact wpAny_eqBool_str h
 «strs»:=fun k x t v h=>by
  rcases za1 h with ⟨i,u,rfl,e⟩ | ⟨y,u,rfl,e⟩
  ·exact nomatch e
  ·injection e with e1 _
   subst e1
   cases v<;>rfl
end L2
namespace L2
open PySem PySem.Spec PyProof.Rows
inductive V where
 | non | bl (b:Bool) | int (i:Int) | str (x:Str) | byt (b:Array UInt8) | flt (b:UInt64) | ref (a:Addr) | ty (n:String)
 deriving DecidableEq
def zbt:V->Value->Prop
 | .non,u=>u=Value.none
 | .bl b,u=>u=Value.bool b
 | .int i,u=>∃t,u=Value.int i t
 | .str x,u=>∃t,u=Value.str x t
 | .byt b,u=>∃t,u=Value.bytes b t
 | .flt b,u=>∃t,u=Value.float b t
 | .ref a,u=>u=Value.ref a
 | .ty n,u=>u=Value.type n
abbrev Vals:List V->List Value->Prop:=Paired zbt
theorem Vals.length{xs:List V}{us:List Value}(r:Vals xs us):xs.length=us.length:=Paired.length r
theorem Vals.get:∀{xs:List V} {us:List Value} {i:Nat} {x:V},Vals xs us->xs[i]?=some x->∃u,us[i]?=some u/\zbt x u
 | _,_,_,_,.nil,e=>by simp at e
 | _,_,0,_,.cons r _,e=>by simp at e;subst e;exact ⟨_,rfl,r⟩
 | _,_,i+1,x,.cons _ t,e=>by
  obtain ⟨u,h1,h2⟩:=Vals.get (i:=i) (x:=x) t (by simpa using e);exact ⟨u,by simpa using h1,h2⟩
theorem Vals.append:∀{xs ys:List V} {us ws:List Value},Vals xs us->Vals ys ws->Vals (xs++ys) (us++ws)
 | _,_,_,_,.nil,s=>s
 | _,_,_,_,.cons r t,s=>.cons r (Vals.append t s)
theorem Vals.take:∀{xs:List V} {us:List Value} (n:Nat),Vals xs us->Vals (xs.take n) (us.take n)
 | _,_,0,_=>.nil
 | _,_,_+1,.nil=>.nil
 | _,_,n+1,.cons r t=>.cons r (Vals.take n t)
theorem Vals.drop:∀{xs:List V} {us:List Value} (n:Nat),Vals xs us->Vals (xs.drop n) (us.drop n)
 | _,_,0,r=>r
 | _,_,_+1,.nil=>.nil
 | _,_,n+1,.cons _ t=>Vals.drop n t
def zlC:Option V->Option Value->Prop
 | some v,some u=>zbt v u
 | none,none=>True
 | _,_=>False
def KV{κ:Type}:List (κ×V)->List (κ×Value)->Prop:=Paired fun (p:κ×V) (q:κ×Value)=>p.1=q.1/\zbt p.2 q.2
def kV:Key->V
 | .inl i=>.int i
 | .inr x=>.str x
inductive HO where
 | lst (xs:List V)
 | tup (xs:List V)
 | dK (kvs:List (Key×V)) | dT (kvs:List (List Key×V))
 | set (S:Int->Bool) (n:Nat)
 | ins (C dx:Addr) (fs:List (Str×V))
 | own (x:Addr)
 | xd (fs:List (Str×V))
 | met (f x:Addr)
 | rng (lo hi:Int)
 | frz (o:Obj) (u:HO)
 | tbl (ps:Array Value)
 | ext (φ:Heap->Prop)
abbrev Hp:=Addr->Option HO
def upd(H:Hp)(a:Addr)(o:HO):Hp:=fun b=>if b=a then some o else H b
theorem zaQ{H:Hp}{a:Addr}{o:HO}:upd H a o a=some o:=by unfold upd;rw [if_pos rfl]
theorem zau{H:Hp}{a b:Addr}{o:HO}(h:b≠a):upd H a o b=H b:=by unfold upd;rw [if_neg h]
theorem zaB{H:Hp}{a b:Addr}{o:HO}(h:H a=some o)(h':H b=none):a≠b:=by
 intro e;subst e;rw [h] at h';cases h'
section
variable(P:Program)(w:World)
def zb5(H:Hp)(h:Heap)(a:Addr):HO->Prop
 | .lst xs=>xs.length<=sizeLine/\∃(its:List Value) (n:Nat),Vals xs its/\h.get? a=some { cls:=.type "list",data:=.seq its.toArray n }
 | .tup xs=>xs.length<=sizeLine/\∃its:List Value,Vals xs its/\IsTup h a its.toArray
 | .dK kvs=>kvs.length<=sizeLine/\(a == sysModules)=false/\∃vs,KV kvs vs/\h.DictOf (zkA P w) a vs
 | .dT kvs=>kvs.length<=sizeLine/\(a == sysModules)=false/\∃xs:List (List Key×Addr×Value),
   Paired (fun (p:List Key×V) (q:List Key×Addr×Value)=>p.1=q.1/\H q.2.1=some (.tup (p.1.map kV))/\zbt p.2 q.2.2) kvs xs ∧
   ∃o es ep,h.get? a=some o/\o.ExactDict/\o.data=.dict es ep/\es.toList=xs.map (entryOfKey (tupleKind (zkA P w)))/\(xs.map (·.1)).Nodup
 | .set S n=>h.SetOf (intKind P w) a S n
 | .ins C dx fs=>H dx=some (.own a)/\fs.length<=1000/\dx≠a/\h.get? a=some (PySem.W.instObj C dx) ∧
   ∃mA,h.Ns1 dx mA/\(∀f,zlC (fs.lookup f) (mA f))/\PySem.Within mA (fs.map (·.1))
 | .own _=>∃o,h.get? a=some o
 | .xd fs=>∃mA,h.Ns1 a mA/\∀f,zlC (fs.lookup f) (mA f)
 | .rng lo hi=>∃t u v,h.get? a=some { cls:=.type "range",data:=.fields #[.int lo t,.int hi u,.int 1 v] }
 | .frz o u=>h.get? a=some o/\zb5 H h a u
 | .tbl ps=>h.get? a=some { cls:=.none,data:=.fields ps }
 | .met f x=>h.get? a=some (PySem.W.methodObj (.ref f) (.ref x))
 | .ext φ=>φ h/\(∃o,h.get? a=some o)/\∀h1 h2:Heap,φ h1->(∀o,h1.get? a=some o->h2.get? a=some o)->φ h2
def HOk(H:Hp)(h:Heap):Prop:=∀a o,H a=some o->zb5 P w H h a o
end
section
variable{P:Program}{w:World}{H H':Hp}{h h':Heap}{a:Addr}{o:HO}
theorem zb5.lt(x:zb5 P w H h a o):a<h.objs.size:=by
 cases o with
 | lst xs=>obtain ⟨_,_,_,_,e⟩:=x;exact Heap.lt_size e
 | tup xs=>obtain ⟨_,_,_,p⟩:=x;exact p.lt
 | dK kvs=>obtain ⟨_,_,_,_,o,_,_,e,_⟩:=x;exact Heap.lt_size e
 | dT kvs=>obtain ⟨_,_,_,_,o,_,_,e,_⟩:=x;exact Heap.lt_size e
 | set S n=>obtain ⟨o,_,_,_,e,_⟩:=x;exact Heap.lt_size e
 | ins C dx fs=>obtain ⟨_,_,_,e,_⟩:=x;exact Heap.lt_size e
 | own y=>obtain ⟨_,e⟩:=x;exact Heap.lt_size e
 | xd fs=>obtain ⟨_,⟨_,_,_,e,_⟩,_⟩:=x;exact Heap.lt_size e
 | rng lo hi=>obtain ⟨_,_,_,e⟩:=x;exact Heap.lt_size e
 | frz ob u=>obtain ⟨e,_⟩:=x;exact Heap.lt_size e
 | tbl ps=>exact Heap.lt_size (show h.get? a=some _ from x)
 | met f y=>exact Heap.lt_size (show h.get? a=some _ from x)
 | ext φ=>obtain ⟨_,⟨_,e⟩,_⟩:=x;exact Heap.lt_size e
theorem Paired.mapP{α β:Type}{F G:α->β->Prop}:∀{l₁:List α} {l₂:List β},Paired F l₁ l₂->(∀a b,F a b->G a b)->Paired G l₁ l₂
 | _,_,.nil,_=>.nil
 | _,_,.cons r t,f=>.cons (f _ _ r) (Paired.mapP t f)
theorem zb5.stay(x:zb5 P w H h a o)(k:∀b u,(b=a\/H b=some (.own a))->h.get? b=some u->h'.get? b=some u)
  (ho:∀b,H b=some (.own a)->H' b=some (.own a)) (ht:∀b xs,H b=some (.tup xs)->H' b=some (.tup xs)):zb5 P w H' h' a o:=by
 induction o with
 | lst xs=>obtain ⟨z,its,n,r,e⟩:=x;exact ⟨z,its,n,r,k _ _ (.inl rfl) e⟩
 | tup xs=>obtain ⟨z,its,r,ob,e,c⟩:=x;exact ⟨z,its,r,ob,k _ _ (.inl rfl) e,c⟩
 | dK kvs=>obtain ⟨z,y,vs,r,ob,es,ep,e,c⟩:=x;exact ⟨z,y,vs,r,ob,es,ep,k _ _ (.inl rfl) e,c⟩
 | dT kvs =>
  obtain ⟨z,y,xs,r,ob,es,ep,e,c⟩:=x;exact ⟨z,y,xs,Paired.mapP r fun p q z=>⟨z.1,ht _ _ z.2.1,z.2.2⟩,ob,es,ep,k _ _ (.inl rfl) e,c⟩
 | set S n=>obtain ⟨ob,es,ep,t,e,c⟩:=x;exact ⟨ob,es,ep,t,k _ _ (.inl rfl) e,c⟩
 | ins C dx fs =>
  obtain ⟨d,z,ne,e,mA,⟨od,es,ep,e2,c⟩,r⟩:=x;exact ⟨ho _ d,z,ne,k _ _ (.inl rfl) e,mA,⟨od,es,ep,k _ _ (.inr d) e2,c⟩,r⟩
 | own y=>obtain ⟨ob,e⟩:=x;exact ⟨ob,k _ _ (.inl rfl) e⟩
 | xd fs=>obtain ⟨mA,⟨od,es,ep,e,c⟩,r⟩:=x;exact ⟨mA,⟨od,es,ep,k _ _ (.inl rfl) e,c⟩,r⟩
 | rng lo hi=>obtain ⟨t,u,v,e⟩:=x;exact ⟨t,u,v,k _ _ (.inl rfl) e⟩
 | frz ob u ih=>obtain ⟨e,q⟩:=x;exact ⟨k _ _ (.inl rfl) e,ih q⟩
 | tbl ps =>
  have e:h.get? a=some { cls:=.none,data:=.fields ps }:=x;show h'.get? a=some { cls:=.none,data:=.fields ps };exact k a _ (.inl rfl) e
 | met f y =>
  have e:h.get? a=some (PySem.W.methodObj (.ref f) (.ref y)):=x;show h'.get? a=some (PySem.W.methodObj (.ref f) (.ref y));exact k a _ (.inl rfl) e
 | ext φ=>obtain ⟨p,⟨o,e⟩,st⟩:=x;exact ⟨st _ _ p fun o q=>k _ _ (.inl rfl) q,⟨o,k _ _ (.inl rfl) e⟩,st⟩
theorem HOk.lt(x:HOk P w H h)(e:H a=some o):a<h.objs.size:=(x a o e).lt
theorem HOk.fresh(x:HOk P w H h)(e:h.objs.size<=a):H a=none:=by
 cases q:H a with
 | none=>rfl
 | some u=>exact absurd (Nat.lt_of_lt_of_le (x.lt q) e) (Nat.lt_irrefl _)
theorem HOk.kept(x:HOk P w H h)(k:∀b u,h.get? b=some u->h'.get? b=some u):HOk P w H h':=fun a o e =>
 (x a o e).stay (fun b u _ q=>k b u q) (fun _ q=>q) fun _ _ q=>q
theorem HOk.laid(x:HOk P w H h)(k:∀b u,h.get? b=some u->h'.get? b=some u)(hp:h.objs.size<=a)(new:zb5 P w (upd H a o) h' a o):HOk P w (upd H a o) h':=fun b u e=>by
 have hn:=x.fresh hp
 by_cases hb:b=a
 ·subst hb;rw [zaQ] at e;cases e;exact new
 ·rw [zau hb] at e
  exact (x b u e).stay (fun c v _ q=>k c v q) (fun c q=>by rw [zau (zaB q hn)];exact q) fun c xs q=>by rw [zau (zaB q hn)];exact q
end
def Rd(H:Hp)(a:Addr)(u:HO):Prop:=H a=some u\/∃o,H a=some (.frz o u)
theorem Rd.ok{P:Program}{w:World}{H:Hp}{h:Heap}{a:Addr}{u:HO}(r:Rd H a u)(x:HOk P w H h):zb5 P w H h a u:=by
 rcases r with r | ⟨o,r⟩
 ·exact x a u r
 ·obtain ⟨_,q⟩:=x a _ r;exact q
def Mut:Option HO->Prop
 | some (.lst _)=>True
 | some (.dK _)=>True
 | some (.dT _)=>True
 | some (.set _ _)=>True
 | some (.ins _ _ _)=>True
 | some (.ext _)=>True
 | _=>False
section
variable{P:Program}{w:World}{H:Hp}{h h':Heap}{x e:Addr}{o':HO}
theorem HOk.write(ok:HOk P w H h)(mu:Mut (H x))(he:e=x\/H e=some (.own x))(k:∀b u,b≠e->h.get? b=some u->h'.get? b=some u)(heo:∃u,h'.get? e=some u)
  (new:zb5 P w (upd H x o') h' x o'):HOk P w (upd H x o') h':=fun b u q=>by
 have nown:∀c y,H c=some (.own y)->c≠x:=fun c y r z=>by subst z;rw [r] at mu;exact mu
 have ntup:∀c xs,H c=some (.tup xs)->c≠x:=fun c xs r z=>by subst z;rw [r] at mu;exact mu
 by_cases hb:b=x
 ·subst hb;rw [zaQ] at q;cases q;exact new
 ·rw [zau hb] at q
  by_cases hbe:b=e
  ·have q':H b=some (.own x):=by
    rcases he with z | z
    ·exact absurd (hbe.trans z) hb
    ·rw [hbe];exact z
   rw [q] at q';cases q';obtain ⟨v,hv⟩:=heo;exact ⟨v,by rw [hbe];exact hv⟩
  ·refine (ok b u q).stay (fun c v hc r=>k c v ?_ r) (fun c r=>by rw [zau (nown c b r)];exact r) fun c xs r=>by rw [zau (ntup c xs r)];exact r
   rcases hc with rfl | hc
   ·exact hbe
   ·rintro rfl
    rcases he with z | z
    ·exact nown c b hc z
    ·rw [hc] at z;cases z;exact hb rfl
end
structure Un(fs ex:List Addr)(H H':Hp)(h h':Heap):Prop where
 keep:∀b o,h.get? b=some o->H b=none->b ∉ fs->b ∉ ex->h'.get? b=some o
 slot:∀b o,h.get? b=some o->H b=none->b∈fs->b ∉ ex->∃sl,h'.get? b=some { o with slots:=sl }
 free:∀b o,h.get? b=some o->H b=none->b ∉ ex->H' b=none
 there:∀b o,h.get? b=some o->b ∉ ex->∃o',h'.get? b=some o'
 tups:∀b xs,H b=some (.tup xs)->H' b=some (.tup xs)
 frzs:∀b o u,H b=some (.frz o u)->H' b=some (.frz o u)
 tbls:∀b ps,H b=some (.tbl ps)->∃more,H' b=some (.tbl (ps++more))
section
variable{fs fs' ex ex':List Addr}{H H1 H2:Hp}{h h1 h2 h':Heap}{a x e:Addr}{o:HO}
theorem Un.any(u:Un fs ex H H1 h h1){b:Addr}{ob:Obj}(q:h.get? b=some ob)(n:H b=none)(hx:b ∉ ex):∃sl,h1.get? b=some { ob with slots:=sl }:=by
 by_cases hb:b∈fs
 ·exact u.slot b ob q n hb hx
 ·exact ⟨ob.slots,u.keep b ob q n hb hx⟩
theorem Un.kept(k:∀b u,h.get? b=some u->h'.get? b=some u):Un fs ex H H h h' :=
 ⟨fun b ob q _ _ _=>k b ob q,fun b ob q _ _ _=>⟨ob.slots,k b ob q⟩,fun _ _ _ n _=>n,fun b ob q _=>⟨ob,k b ob q⟩,fun _ _ q=>q,fun _ _ _ q=>q,fun _ ps q=>⟨#[],by rw [q];simp⟩⟩
theorem Un.refl:Un fs ex H H h h:=Un.kept fun _ _ q=>q
theorem Un.laid(k:∀b u,h.get? b=some u->h'.get? b=some u)(hp:h.objs.size<=a)(hn:H a=none):Un fs ex H (upd H a o) h h' where
 keep:=fun b u q _ _ _=>k b u q
 slot:=fun b u q _ _ _=>⟨u.slots,k b u q⟩
 free:=fun b u q n _=>by rw [zau (Nat.ne_of_lt (Nat.lt_of_lt_of_le (Heap.lt_size q) hp))];exact n
 there:=fun b u q _=>⟨u,k b u q⟩
 tups:=fun b xs q=>by rw [zau (zaB q hn)];exact q
 frzs:=fun b u xs q=>by rw [zau (zaB q hn)];exact q
 tbls:=fun b ps q=>⟨#[],by rw [zau (zaB q hn),q];simp⟩
theorem Un.write(mu:Mut (H x))(he:e=x\/H e=some (.own x))(k:∀b u,b≠e->h.get? b=some u->h'.get? b=some u)(heo:∃u,h'.get? e=some u):Un fs ex H (upd H x o) h h':=by
 have hx:∀b,H b=none->b≠x:=fun b n z=>by subst z;rw [n] at mu;exact mu
 have hb:∀b,H b=none->b≠e:=fun b n z=>by
  subst z
  rcases he with r | r
  ·exact hx b n r
  ·rw [n] at r;cases r
 have hm:∀b u,H b=some u->¬ Mut (some u)->b≠x:=fun b u q nm z=>by subst z;rw [q] at mu;exact nm mu
 refine ⟨fun b u q n _ _=>k b u (hb b n) q,fun b u q n _ _=>⟨u.slots,k b u (hb b n) q⟩,fun b u q n _=>by rw [zau (hx b n)];exact n,fun b u q _=>?_,
  fun b xs q=>by rw [zau (hm b _ q fun z=>z)];exact q,fun b u xs q=>by rw [zau (hm b _ q fun z=>z)];exact q,fun b ps q=>⟨#[],by rw [zau (hm b _ q fun z=>z),q];simp⟩⟩
 by_cases hbe:b=e
 ·subst hbe;exact heo
 ·exact ⟨u,k b u hbe q⟩
end
def trk(h:Heap)(H:Hp):List Addr:=(List.range h.objs.size).filter fun a=>(H a).isSome
def zmv(h:Heap)(H:Hp):Heap:=PySem.W.hideAll h (trk h H)
theorem zk0(h:Heap)(H:Hp):(zmv h H).objs.size=h.objs.size:=PySem.W.hideAll_size _ _
theorem zmu{h:Heap}{H:Hp}{b:Addr}{o:Obj}(e:h.get? b=some o)(n:H b=none):(zmv h H).get? b=some o :=
 PySem.W.hideAll_get _ e fun hm=>by
  have q:(H b).isSome=true:=(List.mem_filter.mp hm).2;rw [n] at q;simp at q
theorem zor{h:Heap}{H:Hp}{b:Addr}{o:Obj}(e:(zmv h H).get? b=some o):h.get? b=some o/\H b=none:=by
 have e':h.get? b=some o:=PySem.W.of_hideAll (trk h H) e;refine ⟨e',?_⟩
 cases q:H b with
 | none=>rfl
 | some x =>
  have hm:b∈trk h H:=List.mem_filter.mpr ⟨List.mem_range.mpr (Heap.lt_size e'),by simp [q]⟩;have z:(zmv h H).get? b=none:=PySem.W.hideAll_none (trk h H) hm;rw [z] at e;cases e
def zph(g h:Heap)(L:Addr):List (Addr×Obj):=(List.range h.objs.size).filterMap fun a=>if a=L\/(g.get? a).isSome=true then none else (h.get? a).map fun o=>(a,o)
def zcm(g h:Heap)(L d:Addr):List (Addr×Obj):=(zph g h L).filter fun p=>decide (p.1≠d)
end L2
namespace L2
open PySem PySem.Spec PyProof.Rows
structure Mod(K:PySem.W.Frag)(mg:Z6)(base:Heap):Prop where
 kin:K.In base
 glob:base.Ns mainGlobals mg
 blt:∃mb,base.Ns builtinsNs mb/\∀x:Str,x ≠ "__name__" -> mb x=bootBuiltins x
 nolimit:base.NoLimit
structure Cx where
 prog:Program
 w:World
 K:PySem.W.Frag
 mg:Str->Option Value
 base:Heap
 A:Around
 N:List Str
 s₀:Shared
 H₀:Hp
 env:Env
 outer:List Env
 stack:List Env
 ex:List Addr
 fn:Str->Bool
 calm:Bool
 pn:List (Addr×Obj)
 xe:Value->Shared->Prop
def frs(l:List Env):List Addr:=l.filterMap (·.frame)
abbrev Cx.fs(X:Cx):List Addr:=frs X.outer
def Vis(sc:Scope)(x:Str):Prop:=sc.names.lookup x=some .local\/sc.names.lookup x=some .cell\/sc.names.lookup x=some .free
def Loc(sc:Scope)(x:Str):Prop:=sc.names.lookup x=some .local\/sc.names.lookup x=some .cell
def zxA(env:Env)(h:Heap)(m:Z6)(x:Str)(u:Value):Prop :=
 (env.kindOf x=some .local/\m x=some u)\/((env.kindOf x=some .cell\/env.kindOf x=some .free)/\∃c,env.cells.lookup x=some c/\h.IsCell c (some u))
structure Cx.Ok(X:Cx):Prop where
 mod:Mod X.K X.mg X.base
 kind:X.env.scope.kind=.function
 glob:X.env.globals=mainGlobals
 blt:X.env.builtins=builtinsNs
 above:X.s₀.heap.objs.size<=X.env.locals
 inj:∀x y c,X.env.cells.lookup x=some c->X.env.cells.lookup y=some c->x=y
 has:∀x,(X.env.kindOf x=some .cell\/X.env.kindOf x=some .free)->∃c,X.env.cells.lookup x=some c
 cab:∀x c,X.fn x=true->X.env.cells.lookup x=some c->X.s₀.heap.objs.size<=c
 hd:X.calm=true->X.A.handled=none
 frames:X.A.frames=some X.stack
 stk:X.stack=X.outer\/(X.stack=X.env::X.outer/\X.env.frame=some X.env.locals)
 exf:∀b∈X.ex,b≠X.env.locals/\∀x c,X.env.cells.lookup x=some c->c≠b
 bs:∀b o,X.base.get? b=some o->X.s₀.heap.get? b=some o/\X.H₀ b=none
 bsz:X.base.objs.size<=X.s₀.heap.objs.size
 noex:∀b o,X.base.get? b=some o->b ∉ X.ex
 exfs:∀b∈X.ex,b ∉ X.fs
 funs:X.s₀.heap.FunFrames X.base X.outer
 frf:∀b∈X.fs,X.H₀ b=none
structure Inv(X:Cx)(pins:Z3)(σ:List (Option V))(H:Hp)(s:Shared):Prop where
 ok:X.Ok
 os:s.os=X.s₀.os
 bare:AllBare s.gens
 base:Un X.fs X.ex X.H₀ H X.s₀.heap s.heap
 loc:∃m,s.heap.Ns X.env.locals m/\∀(i:Nat) (x:Str) (v:V),X.N[i]?=some x->σ[i]?=some (some v)->Vis X.env.scope x->∃u,zbt v u/\zxA X.env s.heap m x u
 cell:∀x c,X.env.cells.lookup x=some c->∃v,s.heap.IsCell c v
 free:H X.env.locals=none
 freeC:∀x c,X.env.cells.lookup x=some c->H c=none
 pin:∀p∈X.pn++pins,s.heap.get? p.1=some p.2/\H p.1=none/\p.1≠X.env.locals/\p.1 ∉ X.fs/\∀v,p.2.data≠.cell v
 hok:HOk X.prog X.w H s.heap
 len:σ.length=X.N.length
section
variable{X:Cx}{pins:Z3}{σ:List (Option V)}{H H':Hp}{s:Shared}{h':Heap}
theorem Cx.Ok.nofr(ok:X.Ok){b:Addr}{o:Obj}(e:X.base.get? b=some o):b ∉ X.fs:=fun hb=>by
 have:=(ok.funs.mem hb).1;rw [e] at this;cases this
theorem Inv.bs(I:Inv X pins σ H s):∀b o,X.base.get? b=some o->s.heap.get? b=some o/\H b=none:=fun b o e =>
 ⟨I.base.keep b o (I.ok.bs b o e).1 (I.ok.bs b o e).2 (I.ok.nofr e) (I.ok.noex b o e),I.base.free b o (I.ok.bs b o e).1 (I.ok.bs b o e).2 (I.ok.noex b o e)⟩
theorem Inv.bk(I:Inv X pins σ H s):∀b o,X.base.get? b=some o->s.heap.get? b=some o:=fun b o e=>(I.bs b o e).1
theorem Inv.mod(I:Inv X pins σ H s):Mod X.K X.mg X.base:=I.ok.mod
theorem Inv.kIn(I:Inv X pins σ H s):X.K.In s.heap:=I.ok.mod.kin.keeps I.bk
theorem Inv.lt(I:Inv X pins σ H s):X.env.locals<s.heap.objs.size:=let ⟨_,hn,_⟩:=I.loc;hn.lt
theorem Inv.sz(I:Inv X pins σ H s):X.s₀.heap.objs.size<=s.heap.objs.size:=Nat.le_trans I.ok.above (Nat.le_of_lt I.lt)
theorem Inv.nofs(I:Inv X pins σ H s){a:Addr}(h:s.heap.objs.size<=a):a ∉ X.fs:=fun hb=>by
 obtain ⟨_,o,ho,_⟩:=I.ok.funs.mem hb;exact absurd (Nat.lt_of_lt_of_le (Heap.lt_size ho) (Nat.le_trans I.sz h)) (Nat.lt_irrefl _)
theorem Inv.cne(I:Inv X pins σ H s):∀x c,X.env.cells.lookup x=some c->c≠X.env.locals:=fun x c e z=>by
 obtain ⟨v,o,ho,hd⟩:=I.cell x c e;obtain ⟨m,⟨o',es,ep,ho',hd',_⟩,_⟩:=I.loc;rw [z,ho'] at ho;cases ho;rw [hd'] at hd;cases hd
theorem Inv.funs(I:Inv X pins σ H s):s.heap.FunFrames X.base X.outer:=by
 have all:∀(l:List Env),(∀b∈frs l,b∈X.fs)->X.s₀.heap.FunFrames X.base l->s.heap.FunFrames X.base l:=by
  intro l
  induction l with
  | nil=>intro _ _;trivial
  | cons env r ih =>
   intro hs hl;obtain ⟨hk,⟨L,o,hf,hn,ho,hd⟩,hr⟩:=hl;have hL:L∈X.fs:=hs L (by unfold frs;rw [List.filterMap_cons,hf];exact List.mem_cons_self);obtain ⟨sl,e⟩:=I.base.slot L o ho (I.ok.frf L hL) hL fun z=>I.ok.exfs L z hL
   exact ⟨hk,⟨L,_,hf,hn,e,hd⟩,ih (fun b hb=>hs b (by unfold frs;rw [List.filterMap_cons,hf];exact List.mem_cons_of_mem _ hb)) hr⟩
 exact all X.outer (fun _ hb=>hb) I.ok.funs
theorem Inv.stack(I:Inv X pins σ H s):s.heap.FunFrames X.base X.stack:=by
 rcases I.ok.stk with e | ⟨e,hf⟩
 ·rw [e];exact I.funs
 ·rw [e];obtain ⟨m,hn,_⟩:=I.loc;refine .cons (by rw [I.ok.kind];decide) hf hn ?_ I.funs;exact Heap.get?_none_of_le (Nat.le_trans I.ok.bsz I.ok.above)
theorem Inv.stkSub(I:Inv X pins σ H s):∀b∈frs X.stack,b∈X.env.locals::X.fs:=fun b hb=>by
 rcases I.ok.stk with e | ⟨e,hf⟩
 ·rw [e] at hb;exact List.mem_cons_of_mem _ hb
 ·rw [e] at hb;unfold frs at hb;rw [List.filterMap_cons,hf] at hb;exact hb
theorem Inv.stkFree(I:Inv X pins σ H s):∀b∈frs X.stack,H b=none:=fun b hb=>by
 rcases List.mem_cons.mp (I.stkSub b hb) with e | hb
 ·rw [e];exact I.free
 ·obtain ⟨_,o,ho,_⟩:=I.ok.funs.mem hb;exact I.base.free b o ho (I.ok.frf b hb) fun z=>I.ok.exfs b z hb
theorem Inv.step{g':Array GenState}{t':Nat}{d':Drawn}{ch:List Addr}(I:Inv X pins σ H s)
  (hch:∀b∈ch,(b∈X.ex\/X.s₀.heap.objs.size<=b)/\b≠X.env.locals/\(∀x c,X.env.cells.lookup x=some c->c≠b)/\∀p∈X.pn++pins,p.1≠b)
  (keep:∀b o,b≠X.env.locals->b ∉ X.fs->b ∉ ch->s.heap.get? b=some o->H b=none->h'.get? b=some o)
  (slot:∀b o,b≠X.env.locals->b∈X.fs->b ∉ ch->s.heap.get? b=some o->H b=none->∃sl,h'.get? b=some { o with slots:=sl }) (free:∀b o,b ∉ ch->s.heap.get? b=some o->H b=none->H' b=none)
  (there:∀b o,b ∉ ch->s.heap.get? b=some o->∃o',h'.get? b=some o')
  (tups:∀b xs,H b=some (.tup xs)->H' b=some (.tup xs)) (frzs:∀b o u,H b=some (.frz o u)->H' b=some (.frz o u)) (tbls:∀b ps,H b=some (.tbl ps)->∃more,H' b=some (.tbl (ps++more)))
  (ns:∀m,s.heap.Ns X.env.locals m->h'.Ns X.env.locals m) (hok:HOk X.prog X.w H' h') (hg:AllBare g') :
  Inv X pins σ H' { s with heap:=h',gens:=g',drawn:=d',toks:=t' }:=by
 have neL:∀b o,X.s₀.heap.get? b=some o->b≠X.env.locals:=fun b o e=>Nat.ne_of_lt (Nat.lt_of_lt_of_le (Heap.lt_size e) I.ok.above)
 have neC:∀b o,X.s₀.heap.get? b=some o->b ∉ X.ex->b ∉ ch:=fun b o e hx hb=>by
  rcases (hch b hb).1 with z | z
  ·exact hx z
  ·exact absurd (Nat.lt_of_lt_of_le (Heap.lt_size e) z) (Nat.lt_irrefl _)
 have cellK:∀x c,X.env.cells.lookup x=some c->∀v,s.heap.IsCell c v->h'.IsCell c v:=fun x c e v ⟨o,ho,hd⟩=>by
  have nch:c ∉ ch:=fun z=>(hch c z).2.2.1 x c e rfl
  by_cases hc:c∈X.fs
  ·obtain ⟨sl,q⟩:=slot c o (I.cne x c e) hc nch ho (I.freeC x c e);exact ⟨_,q,hd⟩
  ·exact ⟨o,keep c o (I.cne x c e) hc nch ho (I.freeC x c e),hd⟩
 refine ⟨I.ok,I.os,hg,⟨fun b o e n hb hx=>?_,fun b o e n hb hx=>?_,fun b o e n hx=>?_,fun b o e hx=>?_,fun b xs e=>tups b xs (I.base.tups b xs e),fun b o xs e=>frzs b o xs (I.base.frzs b o xs e),fun b ps e=>?_⟩,?_,fun x c e=>?_,?_,fun x c e=>?_,fun p hp=>?_,hok,I.len⟩
 ·exact keep b o (neL b o e) hb (neC b o e hx) (I.base.keep b o e n hb hx) (I.base.free b o e n hx)
 ·obtain ⟨sl,e1⟩:=I.base.slot b o e n hb hx;obtain ⟨sl',e2⟩:=slot b _ (neL b o e) hb (neC b o e hx) e1 (I.base.free b o e n hx);exact ⟨sl',e2⟩
 ·obtain ⟨o',e1⟩:=I.base.there b o e hx;exact free b o' (neC b o e hx) e1 (I.base.free b o e n hx)
 ·obtain ⟨o',e1⟩:=I.base.there b o e hx;exact there b o' (neC b o e hx) e1
 ·obtain ⟨m1,e1⟩:=I.base.tbls b ps e;obtain ⟨m2,e2⟩:=tbls b _ e1;exact ⟨m1++m2,by rw [e2,Array.append_assoc]⟩
 ·obtain ⟨m,hn,hl⟩:=I.loc;refine ⟨m,ns m hn,fun i x v e1 e2 e3=>?_⟩;obtain ⟨u,r,l⟩:=hl i x v e1 e2 e3;refine ⟨u,r,?_⟩
  rcases l with l | ⟨k,c,e,z⟩
  ·exact .inl l
  ·exact .inr ⟨k,c,e,cellK x c e _ z⟩
 ·obtain ⟨v,z⟩:=I.cell x c e;exact ⟨v,cellK x c e v z⟩
 ·obtain ⟨m,⟨o,_,_,ho,_⟩,_⟩:=I.loc;exact free _ o (fun z=>(hch _ z).2.1 rfl) ho I.free
 ·obtain ⟨v,o,ho,hd⟩:=I.cell x c e;exact free c o (fun z=>(hch c z).2.2.1 x c e rfl) ho (I.freeC x c e)
 ·obtain ⟨e,n,ne,nf,d⟩:=I.pin p hp;have nch:p.1 ∉ ch:=fun z=>(hch p.1 z).2.2.2 p hp rfl
  exact ⟨keep p.1 p.2 ne nf nch e n,free p.1 p.2 nch e n,ne,nf,d⟩
theorem Inv.un{t':Nat}(I:Inv X pins σ H s)(u:Un X.fs [] H H' s.heap h')(hok:HOk X.prog X.w H' h'):Inv X pins σ H' { s with heap:=h',toks:=t' }:=by
 obtain ⟨m,⟨o,es,ep,ho,r⟩,_⟩:=id I.loc;obtain ⟨sl,hL⟩:=u.any ho I.free (by simp)
 exact I.step (g':=s.gens) (d':=s.drawn) (ch:=[]) (fun _ z=>nomatch z) (fun b o _ hb _ e n=>u.keep b o e n hb (by simp)) (fun b o _ hb _ e n=>u.slot b o e n hb (by simp)) (fun b o _ e n=>u.free b o e n (by simp)) (fun b o _ e=>u.there b o e (by simp)) u.tups u.frzs u.tbls (fun m' hm=>by
  obtain ⟨o',es',ep',ho',r'⟩:=hm;rw [ho] at ho';cases ho'
  exact ⟨_,es',ep',hL,r'⟩) hok I.bare
theorem Inv.call{g':Array GenState}{t':Nat}{d':Drawn}{ch:List Addr}(I:Inv X pins σ H s)(u:Un (frs X.stack) ch H H' s.heap h')(hok:HOk X.prog X.w H' h')(hg:AllBare g')
  (hch:∀b∈ch,(b∈X.ex\/X.s₀.heap.objs.size<=b)/\b≠X.env.locals/\(∀x c,X.env.cells.lookup x=some c->c≠b)/\∀p∈X.pn++pins,p.1≠b) :
  Inv X pins σ H' { s with heap:=h',gens:=g',drawn:=d',toks:=t' }:=by
 obtain ⟨m,⟨o,es,ep,ho,r⟩,_⟩:=id I.loc;obtain ⟨sl,hL⟩:=u.any ho I.free fun z=>(hch _ z).2.1 rfl
 exact I.step (ch:=ch) hch (fun b o hL hb hc e n=>u.keep b o e n (fun z=>(List.mem_cons.mp (I.stkSub b z)).elim hL hb) hc) (fun b o _ _ hc e n=>u.any e n hc) (fun b o hc e n=>u.free b o e n hc) (fun b o hc e=>u.there b o e hc) u.tups u.frzs u.tbls (fun m' hm=>by
  obtain ⟨o',es',ep',ho',r'⟩:=hm;rw [ho] at ho';cases ho'
  exact ⟨_,es',ep',hL,r'⟩) hok hg
theorem Inv.turned{t':Nat}{it:Addr}(I:Inv X pins σ H s)(k:∀b o,b≠it->s.heap.get? b=some o->h'.get? b=some o)(hn:H it=none)(hL:it≠X.env.locals)
  (h1:it∈X.ex\/X.s₀.heap.objs.size<=it) (h2:∀x c,X.env.cells.lookup x=some c->c≠it) (h3:∀p∈X.pn++pins,p.1≠it):Inv X pins σ H { s with heap:=h',toks:=t' }:=by
 have nit:∀b u,H b=some u->b≠it:=fun b u e z=>by rw [z,hn] at e;cases e
 refine I.step (g':=s.gens) (d':=s.drawn) (ch:=[it]) (fun b hb=>?_) (fun b o _ _ hc e _=>k b o (fun z=>hc (by simp [z])) e) (fun b o _ _ hc e _=>⟨o.slots,k b o (fun z=>hc (by simp [z])) e⟩) (fun _ _ _ _ n=>n)
  (fun b o hc e=>⟨o,k b o (fun z=>hc (by simp [z])) e⟩) (fun _ _ e=>e) (fun _ _ _ e=>e) (fun b ps e=>⟨#[],by rw [e];simp⟩) (fun m hm=>?_) (fun b u e=>?_) I.bare
 ·have e:b=it:=by simpa using hb
  subst e;exact ⟨h1,hL,h2,h3⟩
 ·obtain ⟨o,es,ep,ho,r⟩:=hm;exact ⟨o,es,ep,k _ o (Ne.symm hL) ho,r⟩
 ·refine (I.hok b u e).stay (fun c v hc q=>k c v ?_ q) (fun _ q=>q) fun _ _ q=>q
  rcases hc with z | z
  ·rw [z];exact nit b u e
  ·exact nit c _ z
theorem Inv.tok(I:Inv X pins σ H s)(t:Nat):Inv X pins σ H { s with toks:=t }:=I.un (h':=s.heap) (t':=t) Un.refl I.hok
theorem Inv.kept{t':Nat}(I:Inv X pins σ H s)(k:∀b u,s.heap.get? b=some u->h'.get? b=some u):Inv X pins σ H { s with heap:=h',toks:=t' }:=I.un (Un.kept k) (I.hok.kept k)
theorem Inv.laid{a:Addr}{o:HO}{t':Nat}(I:Inv X pins σ H s)(k:∀b u,s.heap.get? b=some u->h'.get? b=some u)(hp:s.heap.objs.size<=a)(new:zb5 X.prog X.w (upd H a o) h' a o) :
  Inv X pins σ (upd H a o) { s with heap:=h',toks:=t' }:=I.un (Un.laid k hp (I.hok.fresh hp)) (I.hok.laid k hp new)
theorem Inv.write{x e:Addr}{o:HO}{t':Nat}(I:Inv X pins σ H s)(mu:Mut (H x))(he:e=x\/H e=some (.own x))(k:∀b u,b≠e->s.heap.get? b=some u->h'.get? b=some u)(heo:∃u,h'.get? e=some u)
  (new:zb5 X.prog X.w (upd H x o) h' x o):Inv X pins σ (upd H x o) { s with heap:=h',toks:=t' }:=I.un (Un.write mu he k heo) (I.hok.write mu he k heo new)
theorem Inv.pins_of{pins':Z3}(I:Inv X pins σ H s)(h:∀p∈pins',s.heap.get? p.1=some p.2/\H p.1=none/\p.1≠X.env.locals/\p.1 ∉ X.fs/\∀v,p.2.data≠.cell v):Inv X pins' σ H s :=
 ⟨I.ok,I.os,I.bare,I.base,I.loc,I.cell,I.free,I.freeC,fun p hp=>(List.mem_append.mp hp).elim (fun z=>I.pin p (List.mem_append_left _ z)) (h p),I.hok,I.len⟩
theorem ziv{N:List Str}(hN:N.Nodup){i j:Nat}{x:Str}(a:N[i]?=some x)(b:N[j]?=some x):i=j:=by
 obtain ⟨h1,e1⟩:=List.getElem?_eq_some_iff.mp a;obtain ⟨h2,e2⟩:=List.getElem?_eq_some_iff.mp b;exact (List.getElem_inj hN).mp (e1.trans e2.symm)
theorem zgy{M:Model}{A:Around}{E:Z5}{i:Nat}{x:Str}{v:V}{u:Value}{Q:Unit->Shared->Prop}(I:Inv X pins σ H s)(hN:X.N.Nodup)(hi:X.N[i]?=some x)(hx:Loc X.env.scope x)(r:zbt v u)
  (h:∀s',Inv X pins (σ.set i (some v)) H s'->(∃a,Heap.SameBut a s.heap s'.heap/\(a=X.env.locals\/X.env.cells.lookup x=some a))->Q () s') (hf:X.fn x=true\/X.env.scope.names.lookup x=some .local:=by first | exact .inl rfl | exact .inr rfl | assumption):wpAny M A (storeName X.env x u) Q E s:=by
 obtain ⟨m,hn,hl⟩:=id I.loc
 have hcls:(X.env.scope.kind == .class||(X.env.scope.kind == .module&&X.env.locals != X.env.globals))=false:=by rw [I.ok.kind];rfl
 have hiσ:i<σ.length:=by rw [I.len];exact (List.getElem?_eq_some_iff.mp hi).1
 have cne:=I.cne
 have tracked:∀{a:Addr} {h':Heap},(∃o,s.heap.get? a=some o/\H a=none)->Heap.SameBut a s.heap h'->HOk X.prog X.w H h':=fun {a h'} ha hs b ob e=>by
  obtain ⟨_,_,hfree⟩:=ha;refine (I.hok b ob e).stay (fun c w' hc q=>(hs.2 c ?_).trans q) (fun _ q=>q) fun _ _ q=>q
  rintro rfl
  rcases hc with rfl | hc
  ·rw [hfree] at e;cases e
  ·rw [hfree] at hc;cases hc
 rcases hx with hk | hk
 ·refine wpAny_storeName_local hk hn (fun h' hn' hs=>?_) hcls;obtain ⟨oL,_,_,hoL,_⟩:=id hn;refine h _ ⟨I.ok,I.os,I.bare,⟨fun b o e n hb hx=>?_,fun b o e n hb hx=>?_,I.base.free,fun b o e hx=>?_,I.base.tups,I.base.frzs,I.base.tbls⟩,⟨_,hn',fun j y v' e1 e2 e3=>?_⟩,fun y c e=>?_,I.free,I.freeC,fun p hp=>?_,tracked ⟨oL,hoL,I.free⟩ hs,by simpa using I.len⟩ ⟨_,hs,.inl rfl⟩
  ·exact (hs.2 b (Nat.ne_of_lt (Nat.lt_of_lt_of_le (Heap.lt_size e) I.ok.above))).trans (I.base.keep b o e n hb hx)
  ·obtain ⟨sl,e1⟩:=I.base.slot b o e n hb hx;exact ⟨sl,(hs.2 b (Nat.ne_of_lt (Nat.lt_of_lt_of_le (Heap.lt_size e) I.ok.above))).trans e1⟩
  ·obtain ⟨o',e1⟩:=I.base.there b o e hx;exact ⟨o',(hs.2 b (Nat.ne_of_lt (Nat.lt_of_lt_of_le (Heap.lt_size e) I.ok.above))).trans e1⟩
  ·by_cases hj:j=i
   ·subst hj;rw [hi] at e1;cases e1;rw [List.getElem?_set_self hiσ] at e2;cases e2;exact ⟨u,r,.inl ⟨hk,by simp⟩⟩
   ·rw [List.getElem?_set_ne (Ne.symm hj)] at e2;obtain ⟨u',r',q⟩:=hl j y v' e1 e2 e3;refine ⟨u',r',?_⟩
    rcases q with ⟨k,e⟩ | ⟨k,c,e,z⟩
    ·refine .inl ⟨k,?_⟩;have:y≠x:=fun e=>hj (ziv hN e1 (e ▸ hi))
     simp [this,e]
    ·exact .inr ⟨k,c,e,z.sameBut hs (cne y c e)⟩
  ·obtain ⟨w',z⟩:=I.cell y c e;exact ⟨w',z.sameBut hs (cne y c e)⟩
  ·obtain ⟨e,n,ne,nf,d⟩:=I.pin p hp;exact ⟨(hs.2 p.1 ne).trans e,n,ne,nf,d⟩
 ·have hfn:X.fn x=true:=by
   rcases hf with z | z
   ·exact z
   ·rw [z] at hk;cases hk
  obtain ⟨c,hc⟩:=I.ok.has x (.inl hk);obtain ⟨w',z⟩:=I.cell x c hc;refine wpAny_storeName_cell I.ok.kind hk hc z (fun h' hc' hs=>?_);obtain ⟨oc,hoc,hocd⟩:=id z;refine h { s with heap:=h' } ⟨I.ok,I.os,I.bare,⟨fun b o e n hb hx=>?_,fun b o e n hb hx=>?_,I.base.free,fun b o e hx=>?_,I.base.tups,I.base.frzs,I.base.tbls⟩,⟨m,hn.sameBut hs (Ne.symm (cne x c hc)),fun j y v' e1 e2 e3=>?_⟩,fun y c' e=>?_,I.free,I.freeC,fun p hp=>?_,tracked ⟨oc,hoc,I.freeC x c hc⟩ hs,by simpa using I.len⟩ ⟨c,hs,.inr hc⟩
  ·exact (hs.2 b (Nat.ne_of_lt (Nat.lt_of_lt_of_le (Heap.lt_size e) (I.ok.cab x c hfn hc)))).trans (I.base.keep b o e n hb hx)
  ·obtain ⟨sl,e1⟩:=I.base.slot b o e n hb hx;exact ⟨sl,(hs.2 b (Nat.ne_of_lt (Nat.lt_of_lt_of_le (Heap.lt_size e) (I.ok.cab x c hfn hc)))).trans e1⟩
  ·obtain ⟨o',e1⟩:=I.base.there b o e hx;exact ⟨o',(hs.2 b (Nat.ne_of_lt (Nat.lt_of_lt_of_le (Heap.lt_size e) (I.ok.cab x c hfn hc)))).trans e1⟩
  ·by_cases hj:j=i
   ·subst hj;rw [hi] at e1;cases e1;rw [List.getElem?_set_self hiσ] at e2;cases e2;exact ⟨u,r,.inr ⟨.inl hk,c,hc,hc'⟩⟩
   ·rw [List.getElem?_set_ne (Ne.symm hj)] at e2;obtain ⟨u',r',q⟩:=hl j y v' e1 e2 e3;refine ⟨u',r',?_⟩
    rcases q with q | ⟨k,c',e,z'⟩
    ·exact .inl q
    ·refine .inr ⟨k,c',e,z'.sameBut hs ?_⟩;rintro rfl;exact hj (ziv hN e1 (I.ok.inj _ _ _ e hc ▸ hi))
  ·by_cases hcc:c'=c
   ·subst hcc;exact ⟨_,hc'⟩
   ·obtain ⟨w2,z2⟩:=I.cell y c' e;exact ⟨w2,z2.sameBut hs hcc⟩
  ·obtain ⟨e,n,ne,nf,d⟩:=I.pin p hp;refine ⟨(hs.2 p.1 ?_).trans e,n,ne,nf,d⟩;intro q;rw [q,hoc] at e;have q':oc=p.2:=Option.some.inj e;exact d w' (by rw [<-q'];exact hocd)
theorem zdL{M:Model}{A:Around}{E:Z5}{i:Nat}{x:Str}{v:V}{u:Value}{Q:Unit->Shared->Prop}(I:Inv X pins σ H s)(hN:X.N.Nodup)(hi:X.N[i]?=some x)(hx:Loc X.env.scope x)(r:zbt v u)
  (h:∀s',Inv X pins (σ.set i (some v)) H s'->Q () s') (hf:X.fn x=true\/X.env.scope.names.lookup x=some .local:=by first | exact .inl rfl | exact .inr rfl | assumption):wpAny M A (storeName X.env x u) Q E s :=
 zgy I hN hi hx r (fun s' I' _=>h s' I') hf
theorem Inv.call'{s':Shared}{ch:List Addr}(I:Inv X pins σ H s)(ho:s'.os=s.os)(u:Un (frs X.stack) ch H H' s.heap s'.heap)(hok:HOk X.prog X.w H' s'.heap)(hg:AllBare s'.gens)
  (hch:∀b∈ch,(b∈X.ex\/X.s₀.heap.objs.size<=b)/\b≠X.env.locals/\(∀x c,X.env.cells.lookup x=some c->c≠b)/\∀p∈X.pn++pins,p.1≠b):Inv X pins σ H' s':=by
 obtain ⟨h',g',d',t',o'⟩:=s';have e:o'=s.os:=ho;subst e;exact I.call (g':=g') (t':=t') (d':=d') u hok hg hch
end
abbrev XK:=Value->Option Addr->Hp->Prop
abbrev St:=List (Option V)
abbrev VK:=V->Hp->Prop
abbrev TE:=St->Hp->VK->Prop
abbrev TT:=St->Hp->(Bool->Hp->Prop)->Prop
abbrev TA:=St->Hp->(List V->Hp->Prop)->Prop
structure Ends where
 nx:St->Hp->Prop
 rt:VK
 bk:St->Hp->Prop:=fun _ _=>False
 ct:St->Hp->Prop:=fun _ _=>False
abbrev TS:=Ends->St->Hp->Prop
def EP(X:Cx)(pins:Z3)(σ:St)(Q:VK)(u:Value)(s':Shared):Prop:=∃v H',Inv X pins σ H' s'/\zbt v u/\Q v H'
def TP(X:Cx)(pins:Z3)(σ:St)(Q:Bool->Hp->Prop)(b:Bool)(s':Shared):Prop:=∃H',Inv X pins σ H' s'/\Q b H'
def AP(X:Cx)(pins:Z3)(σ:St)(Q:List V->Hp->Prop)(us:List Value)(s':Shared):Prop:=∃vs H',Inv X pins σ H' s'/\Vals vs us/\Q vs H'
def SP(X:Cx)(pins:Z3)(D:Ends)(f:Flow)(s':Shared):Prop :=
 match f with
 | .next=>∃σ' H',Inv X pins σ' H' s'/\D.nx σ' H'
 | .brk=>∃σ' H',Inv X pins σ' H' s'/\D.bk σ' H'
 | .cont=>∃σ' H',Inv X pins σ' H' s'/\D.ct σ' H'
 | .ret u=>∃v σ' H',Inv X pins σ' H' s'/\zbt v u/\D.rt v H'
def PE(X:Cx)(e:Expr)(t:TE):Prop :=
 ∀(pins:Z3) (s:Shared) (σ:St) (H:Hp) (Q:VK),Inv X pins σ H s->t σ H Q->wpAny (model X.prog X.w) X.A (eval e X.env) (EP X pins σ Q) X.xe s
def PT(X:Cx)(e:Expr)(t:TT):Prop :=
 ∀(pins:Z3) (s:Shared) (σ:St) (H:Hp) (Q:Bool->Hp->Prop),Inv X pins σ H s->t σ H Q->wpAny (model X.prog X.w) X.A (isTrue e X.env (eval e X.env)) (TP X pins σ Q) X.xe s
def PW(X:Cx)(e:Expr)(t:TT):Prop :=
 ∀(whole:Sem Value) (pins:Z3) (s:Shared) (σ:St) (H:Hp) (Q:Bool->Hp->Prop),Inv X pins σ H s->t σ H Q->wpAny (model X.prog X.w) X.A (isTrue e X.env whole) (TP X pins σ Q) X.xe s
theorem PW.pt{X:Cx}{e:Expr}{t:TT}(h:PW X e t):PT X e t:=h _
def PA(X:Cx)(es:List Expr)(t:TA):Prop :=
 ∀(pos:Pos) (pins:Z3) (s:Shared) (σ:St) (H:Hp) (Q:List V->Hp->Prop),Inv X pins σ H s->t σ H Q->wpAny (model X.prog X.w) X.A (spliced (backTo pos (starEach es X.env))) (AP X pins σ Q) X.xe s
def PS(X:Cx)(st:Stmt)(t:TS):Prop :=
 ∀(pins:Z3) (s:Shared) (σ:St) (H:Hp) (D:Ends),Inv X pins σ H s->t D σ H->wpAny (model X.prog X.w) X.A (exec st X.env) (SP X pins D) X.xe s
def PSs(X:Cx)(st:List Stmt)(t:TS):Prop :=
 ∀(pins:Z3) (s:Shared) (σ:St) (H:Hp) (D:Ends),Inv X pins σ H s->t D σ H->wpAny (model X.prog X.w) X.A (execs st X.env) (SP X pins D) X.xe s
theorem thn{α:Type}{t:Sem α}{Q Q':α->Shared->Prop}{M:Model}{A:Around}{E:Z5}{s:Shared}(h:wpAny M A t Q E s)(hQ:∀a s,Q a s->Q' a s):wpAny M A t Q' E s:=wpAny_mono h hQ fun _ _ x=>x
end L2
namespace L2
open PySem PySem.Spec PyProof.Rows
section
variable{X:Cx}
def zwz(i:Nat):TE:=fun σ H Q=>∃v,σ[i]?=some (some v)/\Q v H
def tC(v:V):TE:=fun _ H Q=>Q v H
theorem zeQ{i:Nat}{x:Str}{pos:Pos}(hN:X.N[i]?=some x)(hv:Vis X.env.scope x)(hd:(x == ("__debug__":Str))=false:=by decide)(hcd:(x == ("__classdict__":Str))=false:=by decide):PE X (.Name x pos) (zwz i):=by
 intro pins s σ H Q I h;obtain ⟨v,e,h⟩:=h;obtain ⟨m,hn,hl⟩:=I.loc;obtain ⟨u,r,l⟩:=hl i x v hN e hv;have fin:EP X pins σ Q u s:=⟨v,H,I,r,h⟩
 rcases l with ⟨hk,hm⟩ | ⟨hk,c,hc,hcell⟩
 ·exact wpAny_Name (wpAny_loadName_local I.ok.kind hk hn hm fin) hd
 ·rcases hk with hk | hk
  ·exact wpAny_Name (wpAny_loadName_cell I.ok.kind hk hc hcell fin) hd
  ·exact wpAny_Name (wpAny_loadName_free I.ok.kind hk hc hcell fin hcd) hd
theorem zqF{i j pos}:PE X (.Constant (.int i) j pos) (tC (.int i)):=fun _ _ _ H _ I h=>wpAny_Constant_int ⟨.int i,H,I.tok _,⟨_,rfl⟩,h⟩
theorem zs4{b j pos}:PE X (.Constant (.bool b) j pos) (tC (.bl b)):=fun _ _ _ H _ I h=>Constant_bool ⟨.bl b,H,I,rfl,h⟩
theorem zqC{j pos}:PE X (.Constant .none j pos) (tC .non):=fun _ _ _ H _ I h=>Constant_none ⟨.non,H,I,rfl,h⟩
theorem zqx{x j pos}:PE X (.Constant (.str x) j pos) (tC (.str x)):=fun _ _ _ H _ I h=>Calls.Constant_str ⟨.str x,H,I.tok _,⟨_,rfl⟩,h⟩
def Gl(X:Cx)(x:Str):Prop:=X.env.kindOf x=some .globalImplicit
theorem zeZ{E:Z5}{pins:Z3}{s:Shared}{σ:St}{H:Hp}{x:Str}{u:Value}{pos:Pos}{Q:Z5}(I:Inv X pins σ H s)(hg:Gl X x)(hm:X.mg x=some u)(h:Q u s)
  (hd:(x == ("__debug__":Str))=false:=by decide):wpAny (model X.prog X.w) X.A (eval (.Name x pos) X.env) Q E s :=
 Calls.Name_function_global I.ok.kind hg (Calls.loadGlobal_global (by rw [I.ok.glob];exact I.mod.glob.keeps I.bk) hm h) hd
theorem ze0{E:Z5}{pins:Z3}{s:Shared}{σ:St}{H:Hp}{x:Str}{u:Value}{pos:Pos}{Q:Z5}(I:Inv X pins σ H s)(hg:Gl X x)(hm:X.mg x=none)(hv:bootBuiltins x=some u)(h:Q u s)
  (hn:x ≠ "__name__":=by decide) (hd:(x == ("__debug__":Str))=false:=by decide):wpAny (model X.prog X.w) X.A (eval (.Name x pos) X.env) Q E s:=by
 obtain ⟨mb,h1,h2⟩:=I.mod.blt;exact Calls.Name_function_global I.ok.kind hg (Calls.loadGlobal_builtin (by rw [I.ok.glob];exact I.mod.glob.keeps I.bk) hm (by rw [I.ok.blt];exact h1.keeps I.bk) ((h2 x hn).trans hv) h) hd
theorem zoj{x:Str}{v:V}{u:Value}{pos:Pos}(hg:Gl X x)(hm:X.mg x=some u)(r:zbt v u)(hd:(x == ("__debug__":Str))=false:=by decide):PE X (.Name x pos) (tC v) :=
 fun _ _ _ H _ I h=>zeZ I hg hm ⟨v,H,I,r,h⟩ hd
theorem zol{x:Str}{v:V}{u:Value}{pos:Pos}(hg:Gl X x)(hm:X.mg x=none)(hv:bootBuiltins x=some u)(r:zbt v u)(hn:x ≠ "__name__":=by decide)(hd:(x == ("__debug__":Str))=false:=by decide):PE X (.Name x pos) (tC v) :=
 fun _ _ _ H _ I h=>ze0 I hg hm hv ⟨v,H,I,r,h⟩ hn hd
variable{a b:Expr}{ta tb:TE}{pos:Pos}
def tB(t:TE):TT:=fun σ H Q=>t σ H fun x H1=>∃c,x=.bl c/\Q c H1
theorem zqo{e:Expr}{t:TE}(h:PE X e t)(he:∀whole,isTrue e X.env whole=(do let v ← whole;standAt e.pos;holding [v] (truthy v)):=by intro _;rfl):PT X e (tB t):=by
 intro pins s σ H Q I hw;refine isTrue_plain (thn (h pins s σ H _ I hw) fun v s1 ⟨x,H1,I1,r1,q1⟩=>?_) (he _);obtain ⟨d,rfl,q⟩:=q1;cases r1;exact wpAny_truthy_bool ⟨H1,I1,q⟩
variable{tA tB':TT}{zcm:List Expr}
def zuM(t u:TT):TT:=fun σ H Q=>t σ H fun c H1=>if c=true then u σ H1 Q else Q false H1
def tOr(t u:TT):TT:=fun σ H Q=>t σ H fun c H1=>if c=true then Q true H1 else u σ H1 Q
def zuK(t:TT):TT:=fun σ H Q=>t σ H fun c H1=>Q (!c) H1
theorem zn8(ha:PT X a tA):PW X (.BoolOp .And [a] pos) tA:=by
 intro wh pins s σ H Q I h;refine isTrue_and (thn (ha pins s σ H Q I h) fun c s1 e=>?_)
 cases c with
 | true=>exact isTrue_and_nil e
 | false=>exact e
theorem zqm(ha:PT X a tA):PW X (.BoolOp .Or [a] pos) tA:=by
 intro wh pins s σ H Q I h;refine isTrue_or (thn (ha pins s σ H Q I h) fun c s1 e=>?_)
 cases c with
 | false=>exact isTrue_or_nil e
 | true=>exact e
theorem zqn(ha:PT X a tA)(hb:PW X (.BoolOp .And (b::zcm) pos) tB'):PW X (.BoolOp .And (a::b::zcm) pos) (zuM tA tB'):=by
 intro wh pins s σ H Q I h;refine isTrue_and (thn (ha pins s σ H _ I h) fun c s1 ⟨H1,I1,q1⟩=>?_)
 cases c with
 | true=>exact hb wh pins s1 σ H1 Q I1 q1
 | false=>exact ⟨H1,I1,q1⟩
theorem zsX(ha:PT X a tA)(hb:PW X (.BoolOp .Or (b::zcm) pos) tB'):PW X (.BoolOp .Or (a::b::zcm) pos) (tOr tA tB'):=by
 intro wh pins s σ H Q I h;refine isTrue_or (thn (ha pins s σ H _ I h) fun c s1 ⟨H1,I1,q1⟩=>?_)
 cases c with
 | true=>exact ⟨H1,I1,q1⟩
 | false=>exact hb wh pins s1 σ H1 Q I1 q1
theorem zqp(ha:PT X a tA):PT X (.UnaryOp .Not a pos) (zuK tA):=by
 intro pins s σ H Q I h;exact isTrue_not (ha pins s σ H (fun c H1=>Q (!c) H1) I h)
def zsG(ta tb:TE):TE:=fun σ H Q=>ta σ H fun x H1=>∃c,x=.bl c/\if c=true then tb σ H1 Q else Q (.bl false) H1
def zwE(ta tb:TE):TE:=fun σ H Q=>ta σ H fun x H1=>∃c,x=.bl c/\if c=true then Q (.bl true) H1 else tb σ H1 Q
def zsz(ta:TE):TE:=fun σ H Q=>ta σ H fun x H1=>∃c,x=.bl c/\Q (.bl (!c)) H1
theorem zqA{op}{t:TE}(h:PE X a t):PE X (.BoolOp op [a] pos) t:=fun pins s σ H Q I hw=>BoolOp_one (h pins s σ H Q I hw)
theorem zqG(ha:PE X a ta)(hb:PE X (.BoolOp .And (b::zcm) pos) tb):PE X (.BoolOp .And (a::b::zcm) pos) (zsG ta tb):=by
 intro pins s σ H Q I h;refine BoolOp_and (thn (ha pins s σ H _ I h) fun v s1 ⟨x,H1,I1,r1,q1⟩=>?_);obtain ⟨c,rfl,q1⟩:=q1;cases r1;refine wpAny_truthy_bool ?_
 cases c with
 | true=>exact hb pins s1 σ H1 Q I1 q1
 | false=>exact ⟨.bl false,H1,I1,rfl,q1⟩
theorem zs2(ha:PE X a ta)(hb:PE X (.BoolOp .Or (b::zcm) pos) tb):PE X (.BoolOp .Or (a::b::zcm) pos) (zwE ta tb):=by
 intro pins s σ H Q I h;refine BoolOp_or (thn (ha pins s σ H _ I h) fun v s1 ⟨x,H1,I1,r1,q1⟩=>?_);obtain ⟨c,rfl,q1⟩:=q1;cases r1;refine wpAny_truthy_bool ?_
 cases c with
 | false=>exact hb pins s1 σ H1 Q I1 q1
 | true=>exact ⟨.bl true,H1,I1,rfl,q1⟩
theorem zqB(ha:PE X a ta):PE X (.UnaryOp .Not a pos) (zsz ta):=by
 intro pins s σ H Q I h;refine UnaryOp_ (thn (ha pins s σ H _ I h) fun v s1 ⟨x,H1,I1,r1,q1⟩=>?_);obtain ⟨c,rfl,q1⟩:=q1;cases r1;exact not_of (wpAny_truthy_bool ⟨.bl (!c),H1,I1,rfl,q1⟩)
def tIf(t:TT)(ta tb:TE):TE:=fun σ H Q=>t σ H fun c H1=>if c=true then ta σ H1 Q else tb σ H1 Q
theorem zl5{c:Expr}(hc:PT X c tA)(ha:PE X a ta)(hb:PE X b tb):PE X (.IfExp c a b pos) (tIf tA ta tb):=by
 intro pins s σ H Q I h;refine wpAny_IfExp (thn (hc pins s σ H _ I h) fun d s1 ⟨H1,I1,q1⟩=>?_)
 cases d with
 | true=>exact ha pins s1 σ H1 Q I1 q1
 | false=>exact hb pins s1 σ H1 Q I1 q1
end
end L2
namespace L2
open PySem PySem.Spec PyProof.Rows
def SqL(K:PySem.W.Frag)(H:Hp)(a:Addr)(xs:List V):Prop :=
 Rd H a (.lst xs) ∨
  ∃(o:Obj) (its:Array Value) (n:Nat),K.lookup a=some o/\o.cls=.type "list" /\ o.dict=none/\o.data=.seq its n/\its.size<=sizeLine/\Vals xs its.toList
def SqT(K:PySem.W.Frag)(H:Hp)(a:Addr)(xs:List V):Prop :=
 Rd H a (.tup xs) ∨
  ∃(o:Obj) (its:Array Value) (n:Nat),K.lookup a=some o/\o.cls=.type "tuple" /\ o.data=.seq its n/\its.size<=sizeLine/\Vals xs its.toList
def zxz:Value->Option V
 | .none=>some .non
 | .bool b=>some (.bl b)
 | .int i _=>some (.int i)
 | .str x _=>some (.str x)
 | .bytes b _=>some (.byt b)
 | .float b _=>some (.flt b)
 | .ref a=>some (.ref a)
 | .type n=>some (.ty n)
 | _=>none
theorem zbt.abs{x:V}{u:Value}(r:zbt x u):zxz u=some x:=by
 cases x with
 | non=>cases r;rfl
 | bl _=>cases r;rfl
 | int _=>obtain ⟨t,rfl⟩:=r;rfl
 | str _=>obtain ⟨t,rfl⟩:=r;rfl
 | byt _=>obtain ⟨t,rfl⟩:=r;rfl
 | flt _=>obtain ⟨t,rfl⟩:=r;rfl
 | ref _=>cases r;rfl
 | ty _=>cases r;rfl
theorem zbt.inj{x y:V}{u:Value}(r:zbt x u)(q:zbt y u):x=y:=Option.some.inj (r.abs.symm.trans q.abs)
theorem Vals.inj:∀{xs ys:List V} {us:List Value},Vals xs us->Vals ys us->xs=ys
 | _,_,_,.nil,.nil=>rfl
 | _,_,_,.cons r t,.cons r' t'=>by rw [r.inj r',Vals.inj t t']
section
variable{X:Cx}{pins:Z3}{σ:St}{H:Hp}{s:Shared}{a:Addr}{xs ys:List V}
theorem SqL.of{K:PySem.W.Frag}(h:H a=some (.lst xs)):SqL K H a xs:=.inl (.inl h)
theorem SqT.of{K:PySem.W.Frag}(h:H a=some (.tup xs)):SqT K H a xs:=.inl (.inl h)
theorem Inv.list(I:Inv X pins σ H s)(h:SqL X.K H a xs):∃its:List Value,Vals xs its/\PlainL s.heap a its.toArray/\xs.length<=sizeLine:=by
 rcases h with h | ⟨o,its,n,hk,hc,hd,hs,hz,r⟩
 ·obtain ⟨z,its,n,r,e⟩:=h.ok I.hok;exact ⟨its,r,⟨_,n,e,rfl,rfl,rfl⟩,z⟩
 ·refine ⟨its.toList,r,⟨o,n,I.kIn a o hk,hc,hd,by simpa using hs⟩,?_⟩;have e:=r.length;simp only [Array.length_toList] at e;omega
theorem Inv.tuple(I:Inv X pins σ H s)(h:SqT X.K H a xs):∃its:List Value,Vals xs its/\IsTup s.heap a its.toArray/\xs.length<=sizeLine:=by
 rcases h with h | ⟨o,its,n,hk,hc,hs,hz,r⟩
 ·obtain ⟨z,its,r,p⟩:=h.ok I.hok;exact ⟨its,r,p,z⟩
 ·refine ⟨its.toList,r,⟨o,I.kIn a o hk,hc,n,by simpa using hs⟩,?_⟩;have e:=r.length;simp only [Array.length_toList] at e;omega
theorem Inv.list_inj(I:Inv X pins σ H s)(h:SqL X.K H a xs)(h':SqL X.K H a ys):xs=ys:=by
 obtain ⟨its,r,⟨o,n,e,_,_,d⟩,_⟩:=I.list h;obtain ⟨its',r',⟨o',n',e',_,_,d'⟩,_⟩:=I.list h';rw [e] at e';cases e';rw [d] at d'
 injection d' with d1 _
 have:its=its':=by simpa using congrArg Array.toList d1
 subst this;exact r.inj r'
theorem Inv.tuple_inj(I:Inv X pins σ H s)(h:SqT X.K H a xs)(h':SqT X.K H a ys):xs=ys:=by
 obtain ⟨its,r,⟨o,e,_,n,d⟩,_⟩:=I.tuple h;obtain ⟨its',r',⟨o',e',_,n',d'⟩,_⟩:=I.tuple h';rw [e] at e';cases e';rw [d] at d'
 injection d' with d1 _
 have:its=its':=by simpa using congrArg Array.toList d1
 subst this;exact r.inj r'
end
section
variable{X:Cx}{pins:Z3}{σ:St}{H:Hp}{s:Shared}{E:Z5}
end
section
variable{X:Cx}{st:Stmt}{zcm:List Stmt}{t u:TS}{e:Expr}{te:TE}{pos:Pos}
def zpD:TS:=fun D σ H=>D.nx σ H
def zwB(t u:TS):TS:=fun D σ H=>t { D with nx:=u D } σ H
theorem zn9:PSs X [] zpD:=fun _ _ σ H _ I h=>wpAny_execs_nil ⟨σ,H,I,h⟩
theorem zlY(h1:PS X st t)(h2:PSs X zcm u):PSs X (st::zcm) (zwB t u):=by
 intro pins s σ H D I h;refine wpAny_execs_cons (thn (h1 pins s σ H { D with nx:=u D } I h) fun f s1 q=>?_)
 cases f with
 | next =>
  obtain ⟨σ',H',I',q⟩:=q;exact h2 pins s1 σ' H' D I' q
 | ret v=>exact q
 | brk=>exact q
 | cont=>exact q
theorem zsZ(h1:PS X st t):PSs X [st] t:=by
 intro pins s σ H D I h;refine wpAny_execs_cons (thn (h1 pins s σ H D I h) fun f s1 q=>?_)
 cases f with
 | next=>exact wpAny_execs_nil q
 | ret v=>exact q
 | brk=>exact q
 | cont=>exact q
def zpF:TS:=fun D σ H=>D.bk σ H
theorem zob:PS X (.Pass pos) zpD:=fun _ _ σ H _ I h=>wpAny_Pass ⟨σ,H,I,h⟩
theorem zl0:PS X (.Break pos) zpF:=fun _ _ σ H _ I h=>wpAny_Break ⟨σ,H,I,h⟩
theorem Inv.quiet{pins:Z3}{σ:St}{H:Hp}{s:Shared}(I:Inv X pins σ H s):interactive X.env=false:=by simp [interactive,I.ok.kind]
def zsD(te:TE):TS:=fun D σ H=>te σ H fun _ H1=>D.nx σ H1
theorem zkg(he:PE X e te)(hs:swapsWith e none pos.line X.env=pure false:=by rfl):PS X (.Expr e pos) (zsD te):=by
 intro pins s σ H D I h;exact wpAny_Expr_any (thn (he pins s σ H _ I h) fun v s1 ⟨x,H1,I1,r1,q1⟩=>⟨σ,H1,I1,q1⟩) I.quiet hs
def zwD(te:TE):TS:=fun D σ H=>te σ H D.rt
theorem zke(he:PE X e te):PS X (.Return (some e) pos) (zwD te):=by
 intro pins s σ H D I h;exact wpAny_Return_some (thn (he pins s σ H _ I h) fun v s1 ⟨x,H1,I1,r1,q1⟩=>⟨x,σ,H1,I1,r1,q1⟩)
def zsy:TS:=fun D _ H=>D.rt .non H
theorem zoa:PS X (.Return none pos) zsy:=fun _ _ σ H _ I h=>wpAny_Return_none ⟨.non,σ,H,I,rfl,h⟩
def zwG(c:TT)(t u:TS):TS:=fun D σ H=>c σ H fun b H1=>if b=true then t D σ H1 else u D σ H1
theorem zs0{c:Expr}{a b:List Stmt}{tc:TT}(hc:PT X c tc)(ha:PSs X a t)(hb:PSs X b u):PS X (.If c a b pos) (zwG tc t u):=by
 intro pins s σ H D I h;refine wpAny_If (thn (hc pins s σ H _ I h) fun d s1 ⟨H1,I1,q1⟩=>?_)
 cases d with
 | true=>exact ha pins s1 σ H1 D I1 q1
 | false=>exact hb pins s1 σ H1 D I1 q1
end
abbrev TG:=V->St->Hp->(St->Hp->Prop)->Prop
abbrev TGs:=List V->St->Hp->(St->Hp->Prop)->Prop
def PG(X:Cx)(target:Expr)(t:TG):Prop :=
 ∀(pins:Z3) (s:Shared) (σ:St) (H:Hp) (v:V) (u:Value) (Q:St->Hp->Prop),Inv X pins σ H s->zbt v u->t v σ H Q →
  wpAny (model X.prog X.w) X.A (assign target X.env u) (fun _ s'=>∃σ' H',Inv X pins σ' H' s'/\Q σ' H') X.xe s
def PGs(X:Cx)(ts:List Expr)(t:TGs):Prop :=
 ∀(pins:Z3) (s:Shared) (σ:St) (H:Hp) (vs:List V) (us:List Value) (Q:St->Hp->Prop),Inv X pins σ H s->Vals vs us->t vs σ H Q →
  wpAny (model X.prog X.w) X.A (assignInOrder ((assignEach ts X.env).map (·.2)) us) (fun _ s'=>∃σ' H',Inv X pins σ' H' s'/\Q σ' H') X.xe s
abbrev TSet:=V->V->V->Hp->(Hp->Prop)->Prop
def zvY(X:Cx)(t:TSet):Prop :=
 ∀(pins:Z3) (s:Shared) (σ:St) (H:Hp) (o i v:V) (ov iv u:Value) (Q:Hp->Prop),Inv X pins σ H s->zbt o ov->zbt i iv->zbt v u->t o i v H Q →
  wpAny (model X.prog X.w) X.A (setItem ov iv u) (fun _ s'=>∃H',Inv X pins σ H' s'/\Q H') X.xe s
abbrev TIp:=V->V->Hp->VK->Prop
def PIp(X:Cx)(op:Operator)(t:TIp):Prop :=
 ∀(pins:Z3) (s:Shared) (σ:St) (H:Hp) (x y:V) (v u:Value) (Q:VK),Inv X pins σ H s->zbt x v->zbt y u->t x y H Q →
  wpAny (model X.prog X.w) X.A (inplaceOp op v u) (EP X pins σ Q) X.xe s
section
variable{X:Cx}{pos:Pos}
def zk3(i:Nat):TG:=fun v σ H Q=>Q (σ.set i (some v)) H
theorem zkl{i:Nat}{x:Str}(hN:X.N.Nodup)(hi:X.N[i]?=some x)(hx:Loc X.env.scope x)(hf:X.fn x=true\/X.env.scope.names.lookup x=some .local:=by first | exact .inl rfl | exact .inr rfl | assumption):PG X (.Name x pos) (zk3 i):=by
 intro pins s σ H v u Q I r h;exact wpAny_assign_Name (zdL I hN hi hx r (fun s' I'=>⟨_,H,I',h⟩) hf)
def zxt:TGs:=fun vs σ H Q=>vs=[]/\Q σ H
def ztB(t:TG)(u:TGs):TGs:=fun vs σ H Q=>∃v r,vs=v::r/\t v σ H fun σ' H'=>u r σ' H' Q
theorem zoi:PGs X [] zxt:=by
 intro pins s σ H vs us Q I r h;obtain ⟨e,h⟩:=h;subst e;cases r;exact assignInOrder_nil ⟨σ,H,I,h⟩
theorem zl2{e:Expr}{es:List Expr}{t:TG}{u:TGs}(h1:PG X e t)(h2:PGs X es u)
  (hs:(assignEach (e::es) X.env).map (·.2)=assign e X.env::(assignEach es X.env).map (·.2):=by rfl):PGs X (e::es) (ztB t u):=by
 intro pins s σ H vs us Q I r h;obtain ⟨v,vr,e1,h⟩:=h;subst e1
 cases r with
 | cons r rr =>
  rw [hs];refine assignInOrder_cons (thn (h1 pins s σ H _ _ _ I r h) fun _ s1 ⟨σ1,H1,I1,q1⟩=>?_);exact h2 pins s1 σ1 H1 _ _ Q I1 rr q1
def zxr(K:PySem.W.Frag)(n:Nat)(t:TGs):TG:=fun v σ H Q=>∃a xs,v=.ref a/\SqT K H a xs/\xs.length=n/\t xs σ H Q
theorem zqu{es:List Expr}{k:Nat}{t:TGs}{n:Nat}(hc:X.calm=true)(h:PGs X es t)
  (hn:(assignEach es X.env).length=n:=by rfl) (hst:(assignEach es X.env).findIdx? (·.1)=none:=by rfl):PG X (.Tuple es k pos) (zxr X.K n t):=by
 intro pins s σ H v u Q I r hw;obtain ⟨a,xs,e1,hq,hl,hw⟩:=hw;subst e1;cases r;obtain ⟨its,rv,ht,hz⟩:=I.tuple hq;refine assign_Tuple_tuple (I.ok.hd hc) ht (by simp [hn,<-hl,rv.length]) hst fun h' hx=>?_
 have I1:Inv X pins σ H { s with heap:=h' }:=I.kept (t':=s.toks) fun b o e=>hx b o (Nat.ne_of_lt (Heap.lt_size e)) e
 exact h pins _ σ H xs _ Q I1 (by simpa using rv) hw
def zxs(to ti:TE)(t:TSet):TG:=fun v σ H Q=>to σ H fun o H1=>ti σ H1 fun i H2=>t o i v H2 fun H3=>Q σ H3
theorem zqv{o i:Expr}{to ti:TE}{t:TSet}(ho:PE X o to)(hi:PE X i ti)(hs:zvY X t)
  (ha:∀v,assign (.Subscript o i pos) X.env v=(do
   let ov ← holding [v] (eval o X.env)
   let iv ← holding [v,ov] (eval i X.env)
   standAt pos
   holding [v,ov,iv] (setItem ov iv v)
   release [v,ov,iv] []):=by intro _;rfl):PG X (.Subscript o i pos) (zxs to ti t):=by
 intro pins s σ H v u Q I r h;rw [ha];refine wpAny_bind (wpAny_holding (thn (ho pins s σ H _ I h) fun ov s1 ⟨x,H1,I1,r1,q1⟩=>?_));refine wpAny_bind (wpAny_holding (thn (hi pins s1 σ H1 _ I1 q1) fun iv s2 ⟨y,H2,I2,r2,q2⟩=>?_));refine wpAny_bind (wpAny_standAt (wpAny_bind (wpAny_holding (thn (hs pins s2 σ H2 x y v ov iv u _ I2 r1 r2 r q2) fun _ s3 ⟨H3,I3,q3⟩=>?_))));exact wpAny_release ⟨σ,H3,I3,q3⟩
def zpm(te:TE)(g:TG):TS:=fun D σ H=>te σ H fun x H1=>g x σ H1 D.nx
theorem zm3{tg e:Expr}{te:TE}{g:TG}(he:PE X e te)(hg:PG X tg g)(hs:swapsWithSole [tg] e pos.line X.env=pure false:=by rfl)(hw:swappedStores [tg] e X.env=pure none:=by rfl)
  (h1:(assignEach [tg] X.env).map (·.2)=[assign tg X.env]:=by rfl):PS X (.Assign [tg] e pos) (zpm te g):=by
 intro pins s σ H D I h;refine wpAny_Assign_stores (thn (he pins s σ H _ I h) fun v s1 ⟨x,H1,I1,r1,q1⟩=>?_) hs hw;rw [h1];exact thn (hg pins s1 σ H1 x v _ I1 r1 q1) fun _ s2 q=>q
theorem zm1{i:Nat}{x:Str}{e:Expr}{te:TE}{pos':Pos}(hN:X.N.Nodup)(hi:X.N[i]?=some x)(hx:Loc X.env.scope x)(he:PE X e te)(hs:swapsWith e (some (.Name x pos')) pos.line X.env=pure false:=by rfl)(hf:X.fn x=true\/X.env.scope.names.lookup x=some .local:=by first | exact .inl rfl | exact .inr rfl | assumption) :
  PS X (.Assign [.Name x pos'] e pos) (zpm te (zk3 i)):=by
 intro pins s σ H D I h;refine wpAny_Assign_Name (thn (he pins s σ H _ I h) fun v s1 ⟨y,H1,I1,r1,q1⟩=>?_) hs;exact zdL I1 hN hi hx r1 (fun s2 I2=>⟨_,H1,I2,q1⟩) hf
def zuJ(i j:Nat)(ta:TA):TS:=fun D σ H=>ta σ H fun vs H1=>∃v w,vs=[v,w]/\D.nx ((σ.set i (some v)).set j (some w)) H1
theorem zqq{i j:Nat}{x y:Str}{a b:Expr}{ta:TA}{px py pt:Pos}{kt k2 pt2}(hc:X.calm=true)(hN:X.N.Nodup)(hi:X.N[i]?=some x)(hj:X.N[j]?=some y)(hij:i≠j)
  (hx:X.env.scope.names.lookup x=some .local) (hy:X.env.scope.names.lookup y=some .local) (ha:PA X [a,b] ta)
  (hw:swappedStores [.Tuple [.Name x px,.Name y py] kt pt] (.Tuple [a,b] k2 pt2) X.env=pure (some [x,y]))
  (hs:swapsWithSole [.Tuple [.Name x px,.Name y py] kt pt] (.Tuple [a,b] k2 pt2) pos.line X.env=pure false:=by rfl) :
  PS X (.Assign [.Tuple [.Name x px,.Name y py] kt pt] (.Tuple [a,b] k2 pt2) pos) (zuJ i j ta):=by
 intro pins s σ H D I h;rw [exec_Assign_arm];refine wpAny_bind (wpAny_standAt ?_);rw [hs];refine wpAny_bind (wpAny_pure ?_);rw [if_neg (by decide)];refine wpAny_bind (Tuple_ (thn (ha _ pins s σ H _ I h) fun us s1 ⟨vs,H1,I1,r1,q1⟩=>?_));obtain ⟨v,w,e1,q1⟩:=q1;subst e1
 obtain ⟨u1,u2,rfl,rv,rw'⟩:∃u1 u2,us=[u1,u2]/\zbt v u1/\zbt w u2:=by
  cases r1 with
  | cons p q =>
   cases q with
   | cons p' q' =>
    cases q';exact ⟨_,_,rfl,p,p'⟩
 refine wpAny_newObj_type ?_ (by show 2<=sizeLine;decide);have I2:Inv X pins σ H1 { s1 with heap:=s1.heap.push { cls:=.type "tuple",data:=.seq [u1,u2].toArray } }:=I1.kept (t':=s1.toks) fun b o e=>Heap.get?_push_of_some _ e
 rw [hw];refine wpAny_bind (wpAny_pure ?_);show wpAny (model X.prog X.w) X.A (do rule "assign.swapped-stores";let items ← unpackItems (.ref s1.heap.objs.size) 2 none;assignInOrder [fun v=>bindName X.env y v,fun v=>bindName X.env x v] items.reverse;pure Flow.next) _ _ _;refine wpAny_bind (wpAny_rule (wpAny_bind (unpackItems_tuple (items:=#[u1,u2]) (I.ok.hd hc) (IsTup.new s1.heap _) fun h' hx'=>?_)));have I3:=I2.kept (h':=h') (t':=s1.toks) fun b o e=>hx' b o (Nat.ne_of_lt (Heap.lt_size e)) e
 show wpAny _ _ (assignInOrder [fun v=>bindName X.env y v,fun v=>bindName X.env x v] [u2,u1] >>= fun _=>pure Flow.next) _ _ _;refine wpAny_bind (assignInOrder_cons (wpAny_bindName (zdL I3 hN hj (.inl hy) rw' (fun s2 I4=>?_) (.inr hy))));refine assignInOrder_cons (wpAny_bindName (zdL I4 hN hi (.inl hx) rv (fun s3 I5=>assignInOrder_nil (wpAny_pure ?_)) (.inr hx)));rw [List.set_comm _ _ (Ne.symm hij)] at I5;exact ⟨_,H1,I5,q1⟩
def zwI(i:Nat)(te:TE)(ti:TIp):TS:=fun D σ H=>∃x,σ[i]?=some (some x)/\te σ H fun y H1=>ti x y H1 fun z H2=>D.nx (σ.set i (some z)) H2
theorem zqs{i:Nat}{x:Str}{e:Expr}{te:TE}{op:Operator}{ti:TIp}{pos':Pos}(hN:X.N.Nodup)(hi:X.N[i]?=some x)(hx:Loc X.env.scope x)(he:PE X e te)(ho:PIp X op ti)(hf:X.fn x=true\/X.env.scope.names.lookup x=some .local:=by first | exact .inl rfl | exact .inr rfl | assumption) :
  PS X (.AugAssign (.Name x pos') op e pos) (zwI i te ti):=by
 intro pins s σ H D I h;obtain ⟨v,e1,h⟩:=h;obtain ⟨m,hn,hl⟩:=I.loc
 have vis:Vis X.env.scope x:=by rcases hx with k | k;exact .inl k;exact .inr (.inl k)
 obtain ⟨u,r,l⟩:=hl i x v hi e1 vis;refine wpAny_AugAssign_Name ?_
 have go:wpAny (model X.prog X.w) X.A (eval e X.env) (fun w s₂=>wpAny (model X.prog X.w) X.A (inplaceOp op u w) (fun r s₃=>wpAny (model X.prog X.w) X.A (storeName X.env x r) (fun _=>SP X pins D .next) X.xe s₃) X.xe s₂) X.xe s:=by
  refine thn (he pins s σ H _ I h) fun w s1 ⟨y,H1,I1,r1,q1⟩=>?_
  refine thn (ho pins s1 σ H1 v y u w _ I1 r r1 q1) fun z s2 ⟨zv,H2,I2,r2,q2⟩=>?_
  exact zdL I2 hN hi hx r2 (fun s3 I3=>⟨_,H2,I3,q2⟩) hf
 rcases l with ⟨hk,hm⟩ | ⟨hk,c,hc,hcell⟩
 ·exact wpAny_loadName_local I.ok.kind hk hn hm go
 ·rcases hk with hk | hk
  ·exact wpAny_loadName_cell I.ok.kind hk hc hcell go
  ·rcases hx with k | k
   ·have:X.env.scope.names.lookup x=some .free:=hk;rw [k] at this;cases this
   ·have:X.env.scope.names.lookup x=some .free:=hk;rw [k] at this;cases this
end
section
variable{X:Cx}{pos:Pos}
end
structure It where
 go:Nat->Hp->Prop
 yld:Nat->Hp->V->Hp->Prop
 stop:Nat->Hp->Prop
def zlE(X:Cx)(pins:Z3)(H:Hp)(b:Addr):Prop :=
 H b=none/\b≠X.env.locals/\b ∉ X.fs/\(b∈X.ex\/X.s₀.heap.objs.size<=b)/\(∀x c,X.env.cells.lookup x=some c->c≠b)/\∀p∈X.pn++pins,p.1≠b
theorem Inv.fpOk{X:Cx}{pins:Z3}{σ:St}{H H':Hp}{s:Shared}{b:Addr}(I:Inv X pins σ H s)(hb:s.heap.objs.size<=b)(hn:H' b=none):zlE X pins H' b:=by
 refine ⟨hn,Nat.ne_of_gt (Nat.lt_of_lt_of_le I.lt hb),I.nofs hb,.inr (Nat.le_trans I.sz hb),fun x c e z=>?_,fun p hp z=>?_⟩
 ·obtain ⟨v,q⟩:=I.cell x c e;exact absurd (Nat.lt_of_lt_of_le q.lt (by rw [z];exact hb)) (Nat.lt_irrefl _)
 ·exact absurd (Nat.lt_of_lt_of_le (Heap.lt_size (I.pin p hp).1) (by rw [z];exact hb)) (Nat.lt_irrefl _)
structure Turn(P:Program)(w:World)(K:PySem.W.Frag)(tg:Expr)(J:It)(fp:List Addr)(it:Addr)(tn:Nat->Heap->Prop):Prop where
 mem:it∈fp
 obj:∀i h,tn i h->∀b∈fp,∃o,h.get? b=some o/\∀v,o.data≠.cell v
 keep:∀i h h',tn i h->(∀b∈fp,∀o,h.get? b=some o->h'.get? b=some o)->tn i h'
 item:∀(X:Cx),X.prog=P->X.w=w->X.K=K->X.calm=true->∀(i:Nat) (pins:Z3) (s:Shared) (σ:St) (H:Hp) (E:Z5),Inv X pins σ H s->(∀b∈fp,zlE X pins H b)->tn i s.heap->J.go i H →
  wpAny (model P w) X.A (pyNext (.ref it)) (fun r s1=>∃u,r=some u ∧
   wpAny (model P w) X.A (letOwnedTupleGo tg (.ref it) u) (fun _ s2=>∃x H',Inv X pins σ H' s2/\zbt x u/\J.yld i H x H'/\tn (i+1) s2.heap/\∀b∈fp,H' b=none) E s1) E s
 done:∀(X:Cx),X.prog=P->X.w=w->X.K=K->X.calm=true->∀(i:Nat) (pins:Z3) (s:Shared) (σ:St) (H:Hp) (E:Z5),Inv X pins σ H s->(∀b∈fp,zlE X pins H b)->tn i s.heap->J.stop i H →
  wpAny (model P w) X.A (pyNext (.ref it)) (fun r s1=>r=none/\Inv X pins σ H s1) E s
 self:∀(A:Around) (i:Nat) (s:Shared) (Q:Z5) (E:Z5),tn i s.heap->Q (.ref it) s->wpAny (model P w) A (pyIter (.ref it)) Q E s
abbrev TI:=St->Hp->(It->Hp->Prop)->Prop
def PIE(X:Cx)(pins:Z3)(σ:St)(tg:Expr)(R:It->Hp->Prop)(itv:Value)(s2:Shared):Prop :=
 ∃(it:Addr) (fp:List Addr) (tn:Nat->Heap->Prop) (J:It) (H':Hp),itv=.ref it/\Inv X pins σ H' s2/\Turn X.prog X.w X.K tg J fp it tn/\tn 0 s2.heap/\(∀b∈fp,zlE X pins H' b)/\R J H'
def PI(X:Cx)(tg iter:Expr)(wi:TI):Prop :=
 ∀(pins:Z3) (s:Shared) (σ:St) (H:Hp) (R:It->Hp->Prop),Inv X pins σ H s->wi σ H R →
  wpAny (model X.prog X.w) X.A (eval iter X.env) (fun v s1=>wpAny (model X.prog X.w) X.A (pyIter v) (PIE X pins σ tg R) X.xe s1) X.xe s
theorem zoN {M : Model} {A : Around} {E : Z5} {s : Shared} {tg : Expr} {it : Addr} {u : Value} {o : Obj} {n : String} {vs : Array Value} {Q : Unit -> Shared -> Prop} (ho : s.heap.get? it = some o) (hc : o.cls = .type n) (hd : o.data = .fields vs)
    (hn : ["enumerate", "zip", "dict_itemiterator", "dict_reverseitemiterator", "odict_iterator", "itertools.zip_longest", "itertools.pairwise"].contains n = false) (hQ : Q () s) : wpAny M A (letOwnedTupleGo tg (.ref it) u) Q E s := by
  unfold letOwnedTupleGo
  cases tg <;> first
    | exact wpAny_pure hQ
    | (cases u <;> first
        | exact wpAny_pure hQ
        | (refine wpAny_bind (wpAny_load ho ?_)
           rw [hc, hd];show wpAny M A (if (["enumerate", "zip", "dict_itemiterator", "dict_reverseitemiterator", "odict_iterator", "itertools.zip_longest", "itertools.pairwise"].contains n && vs[0]? == some (rawInt _)) = true then _ else _) Q E s;rw [if_neg (by intro h; rw [hn, Bool.false_and] at h; cases h)]
           exact wpAny_pure hQ))
def Itl(K:PySem.W.Frag)(a:Addr):It :=
 ⟨fun i H=>∃xs x,SqL K H a xs/\xs[i]?=some x,fun i H x H'=>H'=H/\∀xs,SqL K H a xs->xs[i]?=some x,fun i H=>∃xs,SqL K H a xs/\xs.length<=i⟩
def Itt(K:PySem.W.Frag)(a:Addr):It :=
 ⟨fun i H=>∃xs x,SqT K H a xs/\xs[i]?=some x,fun i H x H'=>H'=H/\∀xs,SqT K H a xs->xs[i]?=some x,fun i H=>∃xs,SqT K H a xs/\xs.length<=i⟩
def Itr(lo:Int)(n:Nat):It:=⟨fun i _=>i<n,fun i H x H'=>H'=H/\x=.int (lo+i),fun i _=>n<=i⟩
theorem zjH{P:Program}{w:World}{K:PySem.W.Frag}{tg:Expr}(a it:Addr):Turn P w K tg (Itl K a) [it] it (fun i h=>h.IsListIter it a i) where
 mem:=by simp
 obj:=fun i h st b hb=>by
  have e:b=it:=by simpa using hb
  subst e;obtain ⟨o,e,c,d⟩:=st;exact ⟨o,e,fun v z=>by rw [d] at z;cases z⟩
 keep:=fun i h h' st k=>st.at fun o e=>k it (by simp) o e
 item:=by
  intro X hP hw hK hc i pins s σ H E I hf st hg;subst hP hw hK;obtain ⟨xs,x,hq,hx⟩:=hg;obtain ⟨its,rv,p,hz⟩:=I.list hq;obtain ⟨u,hu,ru⟩:=rv.get hx;obtain ⟨f0,f1,f2,f3,f4,f5⟩:=hf it (by simp);refine wpAny_pyNext_list_item st p.isList (x:=u) (by simpa using hu) fun h' st' sb=>?_
  have I1:Inv X pins σ H { s with heap:=h' }:=I.turned (t':=s.toks) (fun b o hb e=>(sb.2 b hb).trans e) f0 f1 f3 f4 f5;obtain ⟨o,e,c,d⟩:=id st';exact ⟨u,rfl,zoN (s:={ s with heap:=h' }) e c d (by decide) ⟨x,H,I1,ru,⟨rfl,fun ys hy=>by rw [I.list_inj hy hq];exact hx⟩,st',fun b hb=>(hf b hb).1⟩⟩
 done:=by
  intro X hP hw hK hc i pins s σ H E I hf st hg;subst hP hw hK;obtain ⟨xs,hq,hx⟩:=hg;obtain ⟨its,rv,p,hz⟩:=I.list hq;obtain ⟨f0,f1,f2,f3,f4,f5⟩:=hf it (by simp);have hl:=rv.length;exact wpAny_pyNext_list_end (I.ok.hd hc) st p.isList (by simp;omega) fun h' eb=>⟨rfl,I.turned (t':=s.toks) (fun b o hb e=>eb b o hb e) f0 f1 f3 f4 f5⟩
 self:=fun _ _ _ _ _ st h=>wpAny_pyIter_listiter st h
theorem zi1{P:Program}{w:World}{K:PySem.W.Frag}{tg:Expr}(a it:Addr):Turn P w K tg (Itt K a) [it] it (fun i h=>h.IsTupleIter it a i) where
 mem:=by simp
 obj:=fun i h st b hb=>by
  have e:b=it:=by simpa using hb
  subst e;obtain ⟨o,e,c,d⟩:=st;exact ⟨o,e,fun v z=>by rw [d] at z;cases z⟩
 keep:=fun i h h' st k=>st.at fun o e=>k it (by simp) o e
 item:=by
  intro X hP hw hK hc i pins s σ H E I hf st hg;subst hP hw hK;obtain ⟨xs,x,hq,hx⟩:=hg;obtain ⟨its,rv,p,hz⟩:=I.tuple hq;obtain ⟨u,hu,ru⟩:=rv.get hx;obtain ⟨f0,f1,f2,f3,f4,f5⟩:=hf it (by simp);refine wpAny_pyNext_tuple_item st (show s.heap.IsTuple a its.toArray from p) (x:=u) (by simpa using hu) fun h' st' sb=>?_
  have I1:Inv X pins σ H { s with heap:=h' }:=I.turned (t':=s.toks) (fun b o hb e=>(sb.2 b hb).trans e) f0 f1 f3 f4 f5;obtain ⟨o,e,c,d⟩:=id st';exact ⟨u,rfl,zoN (s:={ s with heap:=h' }) e c d (by decide) ⟨x,H,I1,ru,⟨rfl,fun ys hy=>by rw [I.tuple_inj hy hq];exact hx⟩,st',fun b hb=>(hf b hb).1⟩⟩
 done:=by
  intro X hP hw hK hc i pins s σ H E I hf st hg;subst hP hw hK;obtain ⟨xs,hq,hx⟩:=hg;obtain ⟨its,rv,p,hz⟩:=I.tuple hq;obtain ⟨f0,f1,f2,f3,f4,f5⟩:=hf it (by simp);have hl:=rv.length;exact wpAny_pyNext_tuple_end (I.ok.hd hc) st (show s.heap.IsTuple a its.toArray from p) (by simp;omega) fun h' eb=>⟨rfl,I.turned (t':=s.toks) (fun b o hb e=>eb b o hb e) f0 f1 f3 f4 f5⟩
 self:=fun _ _ _ _ _ st h=>wpAny_pyIter_tupleiter st h
theorem zi2{P:Program}{w:World}{K:PySem.W.Frag}{tg:Expr}(it:Addr)(lo:Int)(n:Nat):Turn P w K tg (Itr lo n) [it] it (fun i h=>IsRangeIter h it (lo+(i:Nat)*1) ((n:Int)-(i:Nat)) 1) where
 mem:=by simp
 obj:=fun i h st b hb=>by
  have e:b=it:=by simpa using hb
  subst e
  exact ⟨_,st,fun v z=>by
   have z':Data.fields _=Data.cell v:=z
   cases z'⟩
 keep:=fun i h h' st k=>k it (by simp) _ st
 item:=by
  intro X hP hw hK hc i pins s σ H E I hf st hg;subst hP hw hK;obtain ⟨f0,f1,f2,f3,f4,f5⟩:=hf it (by simp);have W:=Walks.range (prog:=X.prog) (w:=X.w) (I.ok.hd hc) it lo 1 n;refine W.item i s _ _ hg st fun v h' tk hv st' kk=>?_
  obtain ⟨t,rfl⟩:=hv;have I1:Inv X pins σ H { s with heap:=h',toks:=tk }:=I.turned (fun b o hb e=>kk b o (by simpa using hb) e) f0 f1 f3 f4 f5;refine ⟨_,rfl,zoN (s:={ s with heap:=h',toks:=tk }) (n:="range_iterator") st' rfl rfl (by decide) ⟨.int (lo+i),H,I1,⟨t,?_⟩,⟨rfl,rfl⟩,st',fun b hb=>(hf b hb).1⟩⟩;rw [Int.mul_one]
 done:=by
  intro X hP hw hK hc i pins s σ H E I hf st hg;subst hP hw hK;obtain ⟨f0,f1,f2,f3,f4,f5⟩:=hf it (by simp);exact wpAny_pyNext_range_end (I.ok.hd hc) st (by have:n<=i:=hg;omega) fun h' eb=>⟨rfl,I.turned (t':=s.toks) (fun b o hb e=>eb b o hb e) f0 f1 f3 f4 f5⟩
 self:=fun _ _ _ _ _ st h=>wpAny_pyIter_rangeiter st h
end L2
namespace L2
open PySem PySem.Spec PyProof.Rows
section
variable{X:Cx}{tg:Expr}
def ztz(K:PySem.W.Frag)(tl:TE):TI:=fun σ H R=>tl σ H fun x H1=>∃a,x=.ref a/\(∃xs,SqL K H1 a xs)/\R (Itl K a) H1
def zxp(K:PySem.W.Frag)(tl:TE):TI:=fun σ H R=>tl σ H fun x H1=>∃a,x=.ref a/\(∃xs,SqT K H1 a xs)/\R (Itt K a) H1
theorem zoh{l:Expr}{tl:TE}(hl:PE X l tl):PI X tg l (ztz X.K tl):=by
 intro pins s σ H R I h;refine thn (hl pins s σ H _ I h) fun v s1 ⟨x,H1,I1,r1,q1⟩=>?_
 obtain ⟨a,e,⟨xs,hq⟩,q⟩:=q1;subst e;cases r1;obtain ⟨its,rv,p,hz⟩:=I1.list hq;refine wpAny_pyIter_list p.isList ?_;refine ⟨s1.heap.objs.size,[s1.heap.objs.size],_,_,H1,rfl,I1.kept (t':=s1.toks) fun b o e=>Heap.get?_push_of_some _ e,zjH a _,⟨_,Heap.get?_push_size _ rfl,rfl,rfl⟩,fun b hb=>?_,q⟩
 have e:b=s1.heap.objs.size:=by simpa using hb
 subst e;exact I1.fpOk (Nat.le_refl _) (I1.hok.fresh (Nat.le_refl _))
theorem zqt{l:Expr}{tl:TE}(hl:PE X l tl):PI X tg l (zxp X.K tl):=by
 intro pins s σ H R I h;refine thn (hl pins s σ H _ I h) fun v s1 ⟨x,H1,I1,r1,q1⟩=>?_
 obtain ⟨a,e,⟨xs,hq⟩,q⟩:=q1;subst e;cases r1;obtain ⟨its,rv,p,hz⟩:=I1.tuple hq;refine wpAny_pyIter_tuple (show s1.heap.IsTuple a its.toArray from p) ?_;refine ⟨s1.heap.objs.size,[s1.heap.objs.size],_,_,H1,rfl,I1.kept (t':=s1.toks) fun b o e=>Heap.get?_push_of_some _ e,zi1 a _,⟨_,Heap.get?_push_size _ rfl,rfl,rfl⟩,fun b hb=>?_,q⟩
 have e:b=s1.heap.objs.size:=by simpa using hb
 subst e;exact I1.fpOk (Nat.le_refl _) (I1.hok.fresh (Nat.le_refl _))
theorem zik{pins:Z3}{σ:St}{H:Hp}{s:Shared}{R:It->Hp->Prop}{E:Z5}{lo hi:Int}{t u v:Tok}{tk:Nat}(I:Inv X pins σ H s)(h1:-(2 ^ 62)<=lo)(h2:lo<2 ^ 62)(h3:-(2 ^ 62)<=hi)(h4:hi<2 ^ 62)
  (q:R (Itr lo (hi-lo).toNat) H):wpAny (model X.prog X.w) X.A (pyIter (.ref s.heap.objs.size)) (PIE X pins σ tg R) E { s with heap:=s.heap.push { cls:=.type "range",data:=.fields #[.int lo t,.int hi u,.int 1 v] },toks:=tk }:=by
 refine wpAny_pyIter_range (IsRange.new ..) (small_one h1 h2 h3 h4) ?_;have I1:Inv X pins σ H { s with heap:=s.heap.push { cls:=.type "range",data:=.fields #[.int lo t,.int hi u,.int 1 v] },toks:=tk }:=I.kept fun b o e=>Heap.get?_push_of_some _ e
 refine ⟨(s.heap.push { cls:=.type "range",data:=.fields #[.int lo t,.int hi u,.int 1 v] }).objs.size,[(s.heap.push { cls:=.type "range",data:=.fields #[.int lo t,.int hi u,.int 1 v] }).objs.size],_,_,H,rfl,
  I1.kept (t':=tk) fun b o e=>Heap.get?_push_of_some _ e,zi2 _ lo (hi-lo).toNat,?_,fun b hb=>?_,q⟩
 ·have e1:lo+((0:Nat):Int)*1=lo:=by simp
  have e2:(((hi-lo).toNat:Nat):Int)-((0:Nat):Int)=Builtin.Range.rangeSize lo hi 1:=by rw [rangeSize_one];split<;>omega
  show IsRangeIter _ _ (lo+((0:Nat):Int)*1) ((((hi-lo).toNat:Nat):Int)-((0:Nat):Int)) 1;rw [e1,e2];exact Heap.get?_push_size _ rfl
 ·have e:b=(s.heap.push { cls:=.type "range",data:=.fields #[.int lo t,.int hi u,.int 1 v] }).objs.size:=by simpa using hb
  subst e;exact I1.fpOk (Nat.le_refl _) (I1.hok.fresh (Nat.le_refl _))
def zty(ta:TA):TI:=fun σ H R=>ta σ H fun vs H1=>∃j:Int,vs=[.int j]/\-(2 ^ 62)<=j/\j<2 ^ 62/\R (Itr 0 j.toNat) H1
def ztx(ta:TA):TI:=fun σ H R=>ta σ H fun vs H1=>∃i j:Int,vs=[.int i,.int j]/\(-(2 ^ 62)<=i/\i<2 ^ 62/\-(2 ^ 62)<=j/\j<2 ^ 62)/\R (Itr i (j-i).toNat) H1
theorem zkk{a:Expr}{ta:TA}{p pos:Pos}(hg:Gl X "range")(hm:X.mg "range" = none)(ha:PA X [a] ta)(hs:starEach [a] X.env=[(false,eval a X.env)]:=by rfl):PI X tg (.Call (.Name "range" p) [a] [] pos) (zty ta):=by
 intro pins s σ H R I h;refine Call_ (ze0 I hg hm boot_range (PyProof.Rows.callWith_type1 (thn (ha pos pins s σ H _ I h) fun us s1 ⟨vs,H1,I1,r1,q1⟩=>?_) hs rfl));obtain ⟨j,e,q1,q2,q⟩:=q1;subst e
 cases r1 with
 | cons r rr =>
  cases rr;obtain ⟨t,rfl⟩:=r;exact call_range_1 (zik I1 (by omega) (by omega) q1 q2 (by simpa using q))
theorem zkj{a b:Expr}{ta:TA}{p pos:Pos}(hg:Gl X "range")(hm:X.mg "range" = none)(ha:PA X [a,b] ta)(hs:starEach [a,b] X.env=[(false,eval a X.env),(false,eval b X.env)]:=by rfl)(hs2:starEach [b] X.env=[(false,eval b X.env)]:=by rfl) :
  PI X tg (.Call (.Name "range" p) [a,b] [] pos) (ztx ta):=by
 intro pins s σ H R I h;refine Call_ (ze0 I hg hm boot_range (PyProof.Rows.callWith_type1 (thn (ha pos pins s σ H _ I h) fun us s1 ⟨vs,H1,I1,r1,q1⟩=>?_) (by rw [hs,hs2]) (by rw [hs2];rfl)));obtain ⟨i,j,e,⟨q1,q2,q3,q4⟩,q⟩:=q1;subst e
 cases r1 with
 | cons r rr =>
  cases rr with
  | cons r' rr =>
   cases rr;obtain ⟨t,rfl⟩:=r;obtain ⟨t',rfl⟩:=r';exact call_range_2 (zik I1 q1 q2 q3 q4 q)
def zwH(wi:TI)(g:TG)(tb:TS):TS:=fun D σ H=>wi σ H fun J H1=>∃W:Nat->Nat->St->Hp->Prop,(∃m,W 0 m σ H1)/\∀i m σ H,W i m σ H →
 (J.stop i H/\D.nx σ H)\/(J.go i H/\∃N:St->Hp->Prop,(∀σ' H',N σ' H'->∃m',m'<m/\W (i+1) m' σ' H')/\∀x H',J.yld i H x H'->g x σ H' fun σ2 H2=>tb { D with nx:=N,ct:=N,bk:=D.nx } σ2 H2)
def zgQ(fp:List Addr)(h:Heap):List (Addr×Obj):=fp.filterMap fun b=>(h.get? b).map fun o=>(b,o)
theorem zdi{fp:List Addr}{h:Heap}{b:Addr}{o:Obj}(hb:b∈fp)(e:h.get? b=some o):(b,o)∈zgQ fp h:=List.mem_filterMap.mpr ⟨b,hb,by rw [e];rfl⟩
theorem zku{fp:List Addr}{h:Heap}{p:Addr×Obj}(hp:p∈zgQ fp h):p.1∈fp/\h.get? p.1=some p.2:=by
 obtain ⟨b,hb,e⟩:=List.mem_filterMap.mp hp
 cases q:h.get? b with
 | none=>rw [q] at e;cases e
 | some o =>
  rw [q] at e;have e':(b,o)=p:=Option.some.inj e;subst e';exact ⟨hb,q⟩
theorem Inv.pinned{pins:Z3}{σ:St}{H:Hp}{s:Shared}{fp:List Addr}(I:Inv X pins σ H s)(hf:∀b∈fp,zlE X pins H b)(ho:∀b∈fp,∃o,s.heap.get? b=some o/\∀v,o.data≠.cell v):Inv X (pins++zgQ fp s.heap) σ H s :=
 I.pins_of fun p hp=>(List.mem_append.mp hp).elim (fun z=>I.pin p (List.mem_append_right _ z)) fun z=>by
  obtain ⟨hb,e⟩:=zku z;obtain ⟨f0,f1,f2,_⟩:=hf p.1 hb;obtain ⟨o,e',d⟩:=ho p.1 hb;rw [e] at e';cases e';exact ⟨e,f0,f1,f2,d⟩
theorem Inv.unpinned{pins pl:Z3}{σ:St}{H:Hp}{s:Shared}(I:Inv X (pins++pl) σ H s):Inv X pins σ H s:=I.pins_of fun p hp=>I.pin p (List.mem_append_right _ (List.mem_append_left _ hp))
theorem zqr{iter:Expr}{body:List Stmt}{wi:TI}{g:TG}{tb:TS}{pos:Pos}(hp:PassesOwn (model X.prog X.w) X.A X.env X.xe)(hc:X.calm=true)(hi:PI X tg iter wi)(hg:PG X tg g)(hb:PSs X body tb)
  (hs:∀x,foldedSetIterable iter X.env x=pure x:=by intro _;rfl):PS X (.For tg iter body [] pos) (zwH wi g tb):=by
 intro pins s σ H D I h;refine wpAny_For (thn (hi pins s σ H _ I h) fun v s1 h1=>thn h1 fun itv s2 h2=>?_) hs;obtain ⟨it,fp,tn,J,H2,e,I2,T,st2,f2,W,⟨m0,w0⟩,turn⟩:=h2;subst e;have stat:∀{H':Hp},(∀b∈fp,H' b=none)->∀b∈fp,zlE X pins H' b:=fun hn b hb=>⟨hn b hb,(f2 b hb).2⟩
 refine codeAny_forLoop_any (fun n s'=>∃i σ' H',Inv X pins σ' H' s'/\tn i s'.heap/\(∀b∈fp,H' b=none)/\W i n σ' H') ?_ m0 ⟨0,σ,H2,I2,st2,fun b hb=>(f2 b hb).1,w0⟩;rintro n s3 ⟨i,σ3,H3,I3,st3,fr3,w3⟩
 rcases turn i n σ3 H3 w3 with ⟨stop,qn⟩ | ⟨go,N,hN,step⟩
 ·refine wpAny_passesOwn hp (thn (T.done X rfl rfl rfl hc i pins s3 σ3 H3 X.xe I3 (stat fr3) st3 stop) fun r s4 ⟨hr,I4⟩=>?_);subst hr;exact wpAny_execs_nil ⟨σ3,H3,I4,qn⟩
 ·refine wpAny_passesOwn hp (thn (T.item X rfl rfl rfl hc i pins s3 σ3 H3 X.xe I3 (stat fr3) st3 go) fun r s4 ⟨u,hr,h4⟩=>?_);subst hr;refine wpAny_passesOwn hp (thn h4 fun _ s5 ⟨x,H5,I5,r5,y5,st5,fr5⟩=>?_);have I5':=I5.pinned (stat fr5) (T.obj _ _ st5);refine wpAny_passesOwn hp (thn (hg _ s5 σ3 H5 x u _ I5' r5 (step x H5 y5)) fun _ s6 ⟨σ6,H6,I6,q6⟩=>?_);refine wpAny_passesOwn hp (thn (hb _ s6 σ6 H6 _ I6 q6) fun f s7 q7=>?_)
  have again:∀{σ7:St} {H7:Hp},Inv X (pins++zgQ fp s5.heap) σ7 H7 s7->N σ7 H7->∃m,m<n/\∃i σ' H',Inv X pins σ' H' s7/\tn i s7.heap/\(∀b∈fp,H' b=none)/\W i m σ' H':=fun {σ7 H7} I7 n7=>by
   obtain ⟨m',hm,w7⟩:=hN σ7 H7 n7;refine ⟨m',hm,i+1,σ7,H7,I7.unpinned,T.keep _ _ _ st5 fun b hb o e=>(I7.pin (b,o) (List.mem_append_right _ (List.mem_append_right _ (zdi hb e)))).1,fun b hb=>?_,w7⟩;obtain ⟨o,e,d⟩:=T.obj _ _ st5 b hb;exact (I7.pin (b,o) (List.mem_append_right _ (List.mem_append_right _ (zdi hb e)))).2.1
  cases f with
  | next=>obtain ⟨σ7,H7,I7,n7⟩:=q7;exact again I7 n7
  | cont=>obtain ⟨σ7,H7,I7,n7⟩:=q7;exact again I7 n7
  | brk=>obtain ⟨σ7,H7,I7,q7⟩:=q7;exact ⟨σ7,H7,I7.unpinned,q7⟩
  | ret v=>obtain ⟨x7,σ7,H7,I7,r7,q7⟩:=q7;exact ⟨x7,σ7,H7,I7.unpinned,r7,q7⟩
end
end L2
namespace L2
open PySem PySem.Spec PyProof.Rows
abbrev R2:=V->V->Hp->VK->Prop
def OpR(X:Cx)(f:Value->Value->Sem Value)(r:R2):Prop :=
 ∀(pins:Z3) (s:Shared) (σ:St) (H:Hp) (x y:V) (v u:Value) (Q:VK),Inv X pins σ H s->zbt x v->zbt y u->r x y H Q →
  wpAny (model X.prog X.w) X.A (f v u) (EP X pins σ Q) X.xe s
def UnR(X:Cx)(f:Value->Sem Value)(r:V->Hp->VK->Prop):Prop :=
 ∀(pins:Z3) (s:Shared) (σ:St) (H:Hp) (x:V) (v:Value) (Q:VK),Inv X pins σ H s->zbt x v->r x H Q →
  wpAny (model X.prog X.w) X.A (f v) (EP X pins σ Q) X.xe s
def zd1(X:Cx)(f:Value)(r:List V->Hp->VK->Prop):Prop :=
 ∀(pins:Z3) (s:Shared) (σ:St) (H:Hp) (xs:List V) (us:List Value) (Q:VK),Inv X pins σ H s->Vals xs us->r xs H Q →
  wpAny (model X.prog X.w) X.A (call f us) (EP X pins σ Q) X.xe s
def tOp(r:R2)(ta tb:TE):TE:=fun σ H Q=>ta σ H fun x H1=>tb σ H1 fun y H2=>r x y H2 Q
def tUn(r:V->Hp->VK->Prop)(ta:TE):TE:=fun σ H Q=>ta σ H fun x H1=>r x H1 Q
def rI(C:Int->Int->Prop)(g:Int->Int->V):R2:=fun x y H Q=>∃i j,x=.int i/\y=.int j/\C i j/\Q (g i j) H
def rI0(g:Int->Int->V):R2:=fun x y H Q=>∃i j,x=.int i/\y=.int j/\Q (g i j) H
def rU(g:Int->V):V->Hp->VK->Prop:=fun x H Q=>∃i,x=.int i/\Q (g i) H
section
variable{X:Cx}{a b c:Expr}{ta tb tc:TE}{pos:Pos}
theorem ztJ(ha:PE X a ta)(hb:PE X b tb){pins:Z3}{s:Shared}{σ:St}{H:Hp}{R:V->V->Hp->Prop}(I:Inv X pins σ H s)
  (h:ta σ H fun x H1=>tb σ H1 fun y H2=>R x y H2) {Q:Z5} {f:Value->Value->Sem Value}
  (hf:∀v u s2 x y H2,Inv X pins σ H2 s2->zbt x v->zbt y u->R x y H2->wpAny (model X.prog X.w) X.A (f v u) Q X.xe s2) :
  wpAny (model X.prog X.w) X.A (eval a X.env) (fun v s₁=>wpAny (model X.prog X.w) X.A (eval b X.env) (fun u s₂=>wpAny (model X.prog X.w) X.A (f v u) Q X.xe s₂) X.xe s₁) X.xe s:=by
 refine thn (ha pins s σ H _ I h) fun v s1 ⟨x,H1,I1,r1,q1⟩=>?_
 refine thn (hb pins s1 σ H1 _ I1 q1) fun u s2 ⟨y,H2,I2,r2,q2⟩=>?_
 exact hf v u s2 x y H2 I2 r1 r2 q2
theorem zqz{op:Operator}{r:R2}(ho:OpR X (binaryOp op) r)(ha:PE X a ta)(hb:PE X b tb):PE X (.BinOp a op b pos) (tOp r ta tb):=by
 intro pins s σ H Q I h;exact wpAny_BinOp (ztJ ha hb I h fun v u s2 x y H2 I2 rx ry q=>ho pins s2 σ H2 x y v u Q I2 rx ry q)
theorem zs1{op:UnaryOp}{r:V->Hp->VK->Prop}(ho:UnR X (unaryOp op) r)(ha:PE X a ta):PE X (.UnaryOp op a pos) (tUn r ta):=by
 intro pins s σ H Q I h;exact UnaryOp_ (thn (ha pins s σ H _ I h) fun v s1 ⟨x,H1,I1,r1,q1⟩=>ho pins s1 σ H1 x v Q I1 r1 q1)
theorem opI{f:Value->Value->Sem Value}{C:Int->Int->Prop}{g:Int->Int->Int}
  (rule:∀(i j:Int) (t u:Tok) (s:Shared) (Q:Z5) (E:Z5),C i j->Q (.int (g i j) s.toks) { s with toks:=s.toks+1 }->wpAny (model X.prog X.w) X.A (f (.int i t) (.int j u)) Q E s) :
  OpR X f (rI C fun i j=>.int (g i j)):=by
 intro pins s σ H x y v u Q I rx ry h;obtain ⟨i,j,rfl,rfl,hc,q⟩:=h;obtain ⟨t,rfl⟩:=rx;obtain ⟨t',rfl⟩:=ry;exact rule i j t t' s _ _ hc ⟨.int (g i j),H,I.tok _,⟨_,rfl⟩,q⟩
theorem zuS{f:Value->Value->Sem Value}{g:Int->Int->Int}
  (rule:∀(i j:Int) (t u:Tok) (s:Shared) (Q:Z5) (E:Z5),Q (.int (g i j) s.toks) { s with toks:=s.toks+1 }->wpAny (model X.prog X.w) X.A (f (.int i t) (.int j u)) Q E s) :
  OpR X f (rI0 fun i j=>.int (g i j)):=by
 intro pins s σ H x y v u Q I rx ry h;obtain ⟨i,j,rfl,rfl,q⟩:=h;obtain ⟨t,rfl⟩:=rx;obtain ⟨t',rfl⟩:=ry;exact rule i j t t' s _ _ ⟨.int (g i j),H,I.tok _,⟨_,rfl⟩,q⟩
theorem zr1{f:Value->Value->Sem Value}{g:Int->Int->Bool}
  (rule:∀(i j:Int) (t u:Tok) (s:Shared) (Q:Z5) (E:Z5),Q (.bool (g i j)) s->wpAny (model X.prog X.w) X.A (f (.int i t) (.int j u)) Q E s) :
  OpR X f (rI0 fun i j=>.bl (g i j)):=by
 intro pins s σ H x y v u Q I rx ry h;obtain ⟨i,j,rfl,rfl,q⟩:=h;obtain ⟨t,rfl⟩:=rx;obtain ⟨t',rfl⟩:=ry;exact rule i j t t' s _ _ ⟨.bl (g i j),H,I,rfl,q⟩
def zxC(i j:Int):Prop:=0<j/\j<1073741824
def ztW(i j:Int):Prop:=(-(2 ^ 64)<i/\i<2 ^ 64)\/(-(2 ^ 64)<j/\j<2 ^ 64)
theorem ztW.ok{i j:Int}(h:ztW i j):IntMulOk i j:=by
 rcases h with ⟨h1,h2⟩ | ⟨h1,h2⟩
 ·exact .of_left (intBits_le_64 h1 h2)
 ·exact .of_right (intBits_le_64 h1 h2)
theorem zqO:OpR X (binaryOp .Add) (rI0 fun i j=>.int (i+j)):=zuS fun _ _ _ _ _ _ _ q=>add_int q
theorem zqJ:OpR X (binaryOp .Sub) (rI0 fun i j=>.int (i-j)):=zuS fun _ _ _ _ _ _ _ q=>sub_int q
theorem zqK:OpR X (binaryOp .Mult) (rI ztW fun i j=>.int (i*j)):=opI fun _ _ _ _ _ _ _ hc q=>mul_int q hc.ok
theorem zoo:OpR X (binaryOp .FloorDiv) (rI zxC fun i j=>.int (i / j)):=opI fun i j _ _ _ _ _ hc q=>by
 have h1:(0:Int)<j:=hc.1;have h2:j<1073741824:=hc.2;exact floordiv_int (by omega) (by rw [Int.fdiv_eq_ediv_of_nonneg i (by omega)];exact q) (.inl (PyProof.noPylong_small (by omega)))
theorem zqL:OpR X (binaryOp .Mod) (rI (fun _ j=>0<j) fun i j=>.int (i % j)):=opI fun i j _ _ _ _ _ hc q=>by
 have h1:(0:Int)<j:=hc;exact mod_int' (by omega) (by rw [Int.fmod_eq_emod_of_nonneg i (by omega)];exact q)
theorem unI{f:Value->Sem Value}{g:Int->Int}
  (rule:∀(i:Int) (t:Tok) (s:Shared) (Q:Z5) (E:Z5),Q (.int (g i) s.toks) { s with toks:=s.toks+1 }->wpAny (model X.prog X.w) X.A (f (.int i t)) Q E s) :
  UnR X f (rU fun i=>.int (g i)):=by
 intro pins s σ H x v Q I rx h;obtain ⟨i,rfl,q⟩:=h;obtain ⟨t,rfl⟩:=rx;exact rule i t s _ _ ⟨.int (g i),H,I.tok _,⟨_,rfl⟩,q⟩
theorem zpu:UnR X (unaryOp .USub) (rU fun i=>.int (-i)):=unI fun _ _ _ _ _ q=>neg_int q
end
section
variable{X:Cx}{a b c:Expr}{ta tb tc:TE}{pos:Pos}
theorem znj{pins:Z3}{σ:St}{H:Hp}{s:Shared}{Q:VK}{k k':Bool}(I:Inv X pins σ H s)(q:Q (.bl k) H)(e:k=k'):EP X pins σ Q (.bool k') s:=by
 subst e;exact ⟨.bl k,H,I,rfl,q⟩
theorem zs5:OpR X (compareOp .Lt) (rI0 fun i j=>.bl (decide (i<j))):=zr1 fun _ _ _ _ _ _ _ q=>lt_int q
theorem zs6:OpR X (compareOp .LtE) (rI0 fun i j=>.bl (decide (i<=j))):=zr1 fun _ _ _ _ _ _ _ q=>le_int q
theorem zs7:OpR X (compareOp .Gt) (rI0 fun i j=>.bl (decide (j<i))):=zr1 fun _ _ _ _ _ _ _ q=>gt_int q
theorem zs8:OpR X (compareOp .GtE) (rI0 fun i j=>.bl (decide (j<=i))):=zr1 fun _ _ _ _ _ _ _ q=>ge_int q
theorem zqM:OpR X (compareOp .Is) (fun x y H Q=>y=.non/\Q (.bl (decide (x=.non))) H):=by
 intro pins s σ H x y v u Q I rx ry h;obtain ⟨rfl,q⟩:=h;cases ry;refine is_none_gen (znj I q ?_)
 cases x<;>first
  | (cases rx;rfl)
  | (obtain ⟨t,rfl⟩:=rx;rfl)
theorem zon:OpR X (compareOp .IsNot) (fun x y H Q=>y=.non/\Q (.bl (!decide (x=.non))) H):=by
 intro pins s σ H x y v u Q I rx ry h;obtain ⟨rfl,q⟩:=h;cases ry;refine isnot_none_gen (znj I q ?_)
 cases x<;>first
  | (cases rx;rfl)
  | (obtain ⟨t,rfl⟩:=rx;rfl)
theorem zkn{op:CmpOp}{r:R2}(ho:OpR X (compareOp op) r)(ha:PE X a ta)(hb:PE X b tb)(hm:behindInMarks op b=false):PE X (.Compare a [op] [b] pos) (tOp r ta tb):=by
 intro pins s σ H Q I h;exact wpAny_Compare1 (ztJ ha hb I h fun v u s2 x y H2 I2 rx ry q=>ho pins s2 σ H2 x y v u Q I2 rx ry q) hm
def znE(t:TE):TT:=fun σ H Q=>t σ H fun x H'=>∃k,x=.bl k/\Q k H'
theorem zkd{op:CmpOp}{r:R2}(ho:OpR X (compareOp op) r)(ha:PE X a ta)(hb:PE X b tb)(hm:behindInMarks op b=false):PT X (.Compare a [op] [b] pos) (znE (tOp r ta tb)):=by
 intro pins s σ H Q I h
 refine wpAny_isTrue_Compare1 (thn (ha pins s σ H _ I h) fun v s1 ⟨x,H1,I1,r1,q1⟩=>thn (hb pins s1 σ H1 _ I1 q1) fun u s2 ⟨y,H2,I2,r2,q2⟩ =>
  thn (ho pins s2 σ H2 x y v u _ I2 r1 r2 q2) fun c s3 ⟨z,H3,I3,r3,k,e,q3⟩=>?_) hm
 subst e;cases r3;exact wpAny_truthy_bool ⟨H3,I3,q3⟩
def zjW(r r':R2)(ta tb tc:TE):TE:=fun σ H Q=>ta σ H fun x H1=>tb σ H1 fun y H2=>r x y H2 fun z H3=>∃k,z=.bl k ∧
 (if k=true then tc σ H3 fun w' H4=>r' y w' H4 Q else Q (.bl false) H3)
theorem zl7{op op':CmpOp}{r r':R2}(ho:OpR X (compareOp op) r)(ho':OpR X (compareOp op') r')(ha:PE X a ta)(hb:PE X b tb)(hc:PE X c tc)
  (hm:lastMarks [op,op'] [b,c]=false:=by with_unfolding_all rfl):PE X (.Compare a [op,op'] [b,c] pos) (zjW r r' ta tb tc):=by
 intro pins s σ H Q I h
 refine Compare_chain (thn (ha pins s σ H _ I h) fun v s1 ⟨x,H1,I1,r1,q1⟩=>chain_link (thn (hb pins s1 σ H1 _ I1 q1) fun u s2 ⟨y,H2,I2,r2,q2⟩ =>
  thn (ho pins s2 σ H2 x y v u _ I2 r1 r2 q2) fun d s3 ⟨z,H3,I3,r3,k,e,q3⟩=>?_)) hm
 subst e;cases r3;refine wpAny_truthy_bool ?_
 cases k with
 | false=>exact ite_ff ⟨.bl false,H3,I3,rfl,q3⟩
 | true=>exact ite_tt (chain_last (thn (hc pins s3 σ H3 _ I3 q3) fun w' s4 ⟨z',H4,I4,r4,q4⟩=>ho' pins s4 σ H4 y z' u w' Q I4 r2 r4 q4))
theorem zlX{op op':CmpOp}{r r':R2}(ho:OpR X (compareOp op) r)(ho':OpR X (compareOp op') r')(ha:PE X a ta)(hb:PE X b tb)(hc:PE X c tc)
  (hm:lastMarks [op,op'] [b,c]=false:=by with_unfolding_all rfl):PT X (.Compare a [op,op'] [b,c] pos) (znE (zjW r r' ta tb tc)):=by
 intro pins s σ H Q I h
 refine isTrue_chain (thn (ha pins s σ H _ I h) fun v s1 ⟨x,H1,I1,r1,q1⟩=>test_link (thn (hb pins s1 σ H1 _ I1 q1) fun u s2 ⟨y,H2,I2,r2,q2⟩ =>
  thn (ho pins s2 σ H2 x y v u _ I2 r1 r2 q2) fun d s3 ⟨z,H3,I3,r3,k,e,q3⟩=>?_)) hm
 subst e;cases r3;refine wpAny_truthy_bool ?_
 cases k with
 | false =>
  obtain ⟨k',e',q'⟩:=q3;cases e';exact ite_ff ⟨H3,I3,q'⟩
 | true =>
  refine ite_tt (test_last (thn (hc pins s3 σ H3 _ I3 q3) fun w' s4 ⟨z',H4,I4,r4,q4⟩=>thn (ho' pins s4 σ H4 y z' u w' _ I4 r2 r4 q4) fun d' s5 ⟨z2,H5,I5,r5,k2,e2,q5⟩=>?_));subst e2;cases r5;exact wpAny_truthy_bool ⟨H5,I5,q5⟩
theorem zix:(sizeLine:Nat)<2 ^ 63:=by rw [sizeLine_eq];decide
theorem zjb:OpR X (binaryOp .Add) (fun x y H Q=>∃i j,x=.str i/\y=.str j/\i.length+j.length<=sizeLine/\Q (.str (i++j)) H):=by
 intro pins s σ H x y v u Q I rx ry h;obtain ⟨i,j,rfl,rfl,hz,q⟩:=h;obtain ⟨t,rfl⟩:=rx;obtain ⟨t',rfl⟩:=ry;exact add_str (fun t' tk=>⟨.str (i++j),H,I.tok _,⟨_,rfl⟩,q⟩) hz
theorem zgs{x:V}{us:List Value}(r:Vals [x] us):∃u,us=[u]/\zbt x u:=by
 cases r with
 | cons r1 r2=>cases r2;exact ⟨_,rfl,r1⟩
theorem zsj{x y:V}{us:List Value}(r:Vals [x,y] us):∃u w',us=[u,w']/\zbt x u/\zbt y w':=by
 cases r with
 | cons r1 r2 =>
  cases r2 with
  | cons r3 r4=>cases r4;exact ⟨_,_,rfl,r1,r3⟩
theorem zlk(hc:X.calm=true):zd1 X (.builtin "min") (fun xs H Q=>∃i j,xs=[.int i,.int j]/\Q (.int (if j<i then j else i)) H):=by
 intro pins s σ H xs us Q I r h;obtain ⟨i,j,rfl,q⟩:=h;obtain ⟨u,w',rfl,⟨t,rfl⟩,⟨t',rfl⟩⟩:=zsj r;refine min_two_ints (I.ok.hd hc) fun h' tk k=>⟨_,H,I.kept k,?_,q⟩
 by_cases hj:j<i
 ·rw [if_pos hj,if_pos hj];exact ⟨_,rfl⟩
 ·rw [if_neg hj,if_neg hj];exact ⟨_,rfl⟩
end
end L2
namespace L2
open PySem PySem.Spec PyProof.Rows
structure ObjM(h:Heap)(x dx C:Addr)(mA:Z6):Prop where
 obj:h.get? x=some (PySem.W.instObj C dx)
 ns:h.Ns1 dx mA
 ne:dx≠x
theorem zkH{h:Heap}{dx:Addr}{mA:Z6}(n:h.Ns1 dx mA):∃od,h.get? dx=some od/\∀name,PySem.W.lookIn name od=some (mA name):=by
 obtain ⟨o,es,ep,ho,hd,hk,_,hm⟩:=n;refine ⟨o,ho,fun name=>?_⟩;have e:=hm name;unfold nsFind findBy at e;rw [<-Array.find?_toList] at e;unfold PySem.W.lookIn;rw [hd];dsimp only;split
 ·rename_i y q;rw [q] at e;exact congrArg some e
 ·rename_i q;rw [q] at e
  have a:es.toList.any (·.refKey)=false:=by
   rw [List.any_eq_false];intro y hy;obtain ⟨z,t,hkey⟩:=hk y (Array.mem_toList_iff.mp hy);simp [DictEntry.refKey,hkey]
  have a':¬ es.toList.any (·.refKey)=true:=by rw [a];exact Bool.false_ne_true
  rw [if_neg a'];exact congrArg some e
theorem ObjM.look{h:Heap}{x dx C:Addr}{mA:Z6}(I:ObjM h x dx C mA):∃od,PySem.W.InstAt h x (PySem.W.instObj C dx) C (some od)/\∀name,PySem.W.lookIn name od=some (mA name) :=
 let ⟨od,ho,hl⟩:=zkH I.ns
 ⟨od,⟨I.obj,rfl,rfl,ho⟩,hl⟩
section
variable{prog:Program}{w:World}{A:Around}{E:Z5}{s:Shared}{K:PySem.W.Frag}{x dx C f:Addr}{mA:Z6}{name:Str}{v:Value}
theorem zoO{expr:Bool}{Q:Z5}(X:K.In s.heap)(I:ObjM s.heap x dx C mA)(hg:PySem.W.plainGet K C name=true)(hh:PySem.W.hasDictIn K C=true)
  (ha:PySem.W.findIn K (.ref C) name=some none) (hv:mA name=some v) (hv':PySem.W.handedIn v=true) (h:Q v { s with toks:=s.toks+1 }) :
  wpAny (model prog w) A (getAttr (.ref x) name expr) Q E s:=by
 obtain ⟨od,J,hl⟩:=I.look;exact PySem.W.get_value X J (PySem.W.plainGet_of hg).1 (PySem.W.findObj_own hh ha rfl (by rw [hl,hv])) hv' h
theorem zmw{pl:Sem Bool}{Q:Value×List Value->Shared->Prop}(X:K.In s.heap)(I:ObjM s.heap x dx C mA)(hg:PySem.W.plainGet K C name=true)
  (hf:PySem.W.findIn K (.ref C) name=some (some (.ref f))) (ht:PySem.W.isFn K (.ref f)=true) (hv:mA name=none) (h:Q (.ref f,[.ref x]) s) :
  wpAny (model prog w) A (getMethod (.ref x) name pl) Q E s:=by
 obtain ⟨od,J,hl⟩:=I.look;exact PySem.W.method_fn X J (PySem.W.plainGet_of hg).1 (PySem.W.plainGet_of hg).2 hf (beq_iff_eq.mp ht) (by show (PySem.W.lookIn name od).map (·.isSome)=some false;rw [hl,hv];rfl) h
theorem znW{ns:List Str}{Q:Unit->Shared->Prop}(X:K.In s.heap)(I:ObjM s.heap x dx C mA)
  (hs:PySem.W.findIn K (.ref C) "__setattr__" = some (some (.builtin "object.__setattr__"))) (hp:PySem.W.plainOver K C=true) (ht:PySem.W.takerIn K C name=some none) (hh:PySem.W.hasDictIn K C=true)
  (hw:PySem.Within mA ns) (hsz:ns.length<=sizeLine)
  (h:∀h',ObjM h' x dx C (fun y=>if y=name then some v else mA y)->Heap.SameBut dx s.heap h'->Q () { s with heap:=h',toks:=s.toks+2 }) :
  wpAny (model prog w) A (setAttr (.ref x) name v) Q E s:=by
 obtain ⟨od,J,hl⟩:=I.look;refine PySem.W.set_plain X J hs (PySem.W.osa_open (s:={ s with toks:=s.toks+1 }) (r:=none) X J hp ht fun b=>?_);obtain ⟨cd,hc,hd'⟩:=PySem.W.any_some hh;have hx:s.heap.get? x=some ⟨.ref C,some dx,.plain,#[]⟩:=I.obj;refine wpAny_bind (wpAny_pure (wpAny_bind (wpAny_bind (wpAny_loadPart hx (wpAny_bind (PySem.W.Looks.here (s:={ s with toks:=s.toks+1 }) (PySem.W.looks_clsIn X hc) ?_))))));rw [hd'];refine wpAny_pure (a:=some dx) (wpAny_bind (wpAny_pure (wpAny_bind ?_)));refine wpAny_nsSet1 (s:={ s with toks:=s.toks+1 }) I.ns fun h' hn2 hs2=>?_
 obtain ⟨oD,esD,epD,hoD,hdD,hcD⟩:=hn2.count (PySem.Within.cons name v hw);refine wpAny_bind (wpAny_lookBehind hoD (by rw [hdD];exact pastItsLine_dict (Nat.le_trans hcD (by rw [List.length_cons];omega))) ?_);exact wpAny_pure (h _ ⟨(hs2.2 _ (Ne.symm I.ne)).trans I.obj,hn2,I.ne⟩ hs2)
theorem zmk{R:Result->Shared->Prop}{vs:List Value}{kw:List (Str×Value)}(X:K.In s.heap)(hm:PySem.W.makesIn K C=true)
  (hi:PySem.W.findIn K (.ref C) "__init__" = some (some (.ref f))) (hf:PySem.W.typeIn K (.ref f)=some (.type "function"))
  (h:codeAny (model prog w) (A.under (.builtin "type.__call__" ⟨.ref C::vs,kw⟩)) (.call (.ref f) ⟨.ref (s.heap.objs.size+1)::vs,kw⟩) (PySem.W.InitBack (s.heap.objs.size+1) R)
   { s with heap:=(s.heap.push PySem.W.emptyDict).push (PySem.W.instObj C s.heap.objs.size) }) :
  codeAny (model prog w) A (.call (.ref C) ⟨vs,kw⟩) R s:=by
 obtain ⟨hh,g,d,t,os⟩:=s;exact PySem.W.make_core (PySem.W.makes_of X hm) (PySem.W.looks_findIn X hi) (fun self=>PySem.W.bind_fn X self hf) (.inl rfl) h
end
def zdy(f:Str)(v:V):List (Str×V)->List (Str×V)
 | []=>[(f,v)]
 | (g,x)::r=>if g=f then (g,v)::r else (g,x)::zdy f v r
theorem zeX(f g:Str)(v:V):∀fs:List (Str×V),(zdy f v fs).lookup g=if g=f then some v else fs.lookup g
 | []=>by
  show List.lookup g [(f,v)]=_
  by_cases h:g=f
  ·have hb:(g == f)=true:=beq_iff_eq.mpr h;simp only [List.lookup,hb,if_pos h]
  ·have hb:(g == f)=false:=beq_eq_false_iff_ne.mpr h;simp only [List.lookup,hb,if_neg h]
 | (k,x)::r=>by
  have ih:=zeX f g v r;rw [show zdy f v ((k,x)::r)=(if k=f then (k,v)::r else (k,x)::zdy f v r) from rfl]
  by_cases hk:k=f
  ·rw [if_pos hk]
   by_cases h:g=k
   ·have hb:(g == k)=true:=beq_iff_eq.mpr h;simp only [List.lookup,hb,if_pos (h.trans hk)]
   ·have hb:(g == k)=false:=beq_eq_false_iff_ne.mpr h;simp only [List.lookup,hb,if_neg (fun e:g=f=>h (e.trans hk.symm))]
  ·rw [if_neg hk]
   by_cases h:g=k
   ·have hb:(g == k)=true:=beq_iff_eq.mpr h;simp only [List.lookup,hb,if_neg (fun e:g=f=>hk (h.symm.trans e))]
   ·have hb:(g == k)=false:=beq_eq_false_iff_ne.mpr h;simp only [List.lookup,hb];exact ih
theorem ze1(f:Str)(v:V):∀fs:List (Str×V),f∈(zdy f v fs).map (·.1)/\∀g,g∈fs.map (·.1)->g∈(zdy f v fs).map (·.1)
 | []=>⟨by simp [zdy],fun g h=>by simp at h⟩
 | (k,x)::r=>by
  obtain ⟨i1,i2⟩:=ze1 f v r;rw [show zdy f v ((k,x)::r)=(if k=f then (k,v)::r else (k,x)::zdy f v r) from rfl]
  by_cases hk:k=f
  ·rw [if_pos hk];subst hk;exact ⟨by simp,fun g h=>by simpa using h⟩
  ·rw [if_neg hk];refine ⟨?_,fun g h=>?_⟩
   ·rw [List.map_cons];exact List.mem_cons_of_mem _ i1
   ·rw [List.map_cons] at h ⊢
    rcases List.mem_cons.mp h with e | e
    ·exact List.mem_cons.mpr (.inl e)
    ·exact List.mem_cons_of_mem _ (i2 g e)
theorem zeY(f:Str)(v:V):∀fs:List (Str×V),(zdy f v fs).length<=fs.length+1
 | []=>by simp [zdy]
 | (k,x)::r=>by
  have ih:=zeY f v r;rw [show zdy f v ((k,x)::r)=(if k=f then (k,v)::r else (k,x)::zdy f v r) from rfl]
  by_cases hk:k=f
  ·rw [if_pos hk,List.length_cons,List.length_cons];omega
  ·rw [if_neg hk,List.length_cons,List.length_cons];omega
theorem zlC.some_of{v:V}{o:Option Value}(r:zlC (some v) o):∃u,o=some u/\zbt v u:=by
 cases o with
 | none=>exact (show False from r).elim
 | some u=>exact ⟨u,rfl,r⟩
theorem zlC.none_of{o:Option Value}(r:zlC none o):o=none:=by
 cases o with
 | none=>rfl
 | some u=>exact (show False from r).elim
theorem zk2{v:V}{u:Value}(r:zbt v u):PySem.W.handedIn u=true:=by
 cases v with
 | non=>cases (show u=Value.none from r);rfl
 | bl b=>cases (show u=Value.bool b from r);rfl
 | int i=>obtain ⟨t,e⟩:=(show ∃t,u=Value.int i t from r);cases e;rfl
 | str x=>obtain ⟨t,e⟩:=(show ∃t,u=Value.str x t from r);cases e;rfl
 | byt b=>obtain ⟨t,e⟩:=(show ∃t,u=Value.bytes b t from r);cases e;rfl
 | flt b=>obtain ⟨t,e⟩:=(show ∃t,u=Value.float b t from r);cases e;rfl
 | ref a=>cases (show u=Value.ref a from r);rfl
 | ty n=>cases (show u=Value.type n from r);rfl
section
variable{P:Program}{w:World}{H H':Hp}{h h':Heap}{a C dx:Addr}{fs fs':List (Str×V)}
theorem zgb(hok:HOk P w H h)(e:H a=some (.ins C dx fs)):∃mA,ObjM h a dx C mA/\(∀f,zlC (fs.lookup f) (mA f))/\PySem.Within mA (fs.map (·.1))/\fs.length<=1000/\H dx=some (.own a):=by
 obtain ⟨d,z,ne,ob,mA,n,r,q⟩:=(show zb5 P w H h a (.ins C dx fs) from hok a _ e);exact ⟨mA,⟨ob,n,ne⟩,r,q,z,d⟩
end
structure Cls(K:PySem.W.Frag)(C:Addr):Prop where
 pg:PySem.W.plainGet K C Str.empty=true
 hd:PySem.W.hasDictIn K C=true
 po:PySem.W.plainOver K C=true
 sa:PySem.W.findIn K (.ref C) "__setattr__" = some (some (.builtin "object.__setattr__"))
theorem Cls.get{K:PySem.W.Frag}{C:Addr}(c:Cls K C)(f:Str):PySem.W.plainGet K C f=true:=c.pg
def zdv(K:PySem.W.Frag)(C:Addr)(f:Str):Prop:=PySem.W.findIn K (.ref C) f=some none
theorem zdv.taker{K:PySem.W.Frag}{C:Addr}{f:Str}(n:zdv K C f):PySem.W.takerIn K C f=some none:=by
 unfold PySem.W.takerIn;rw [show PySem.W.findIn K (.ref C) f=some none from n];rfl
structure Meth(K:PySem.W.Frag)(C:Addr)(m:Str)(f:Addr):Prop where
 at_:PySem.W.findIn K (.ref C) m=some (some (.ref f))
 fn:PySem.W.isFn K (.ref f)=true
 kp:PySem.W.keepIn K (.ref f)=true
section
variable{X:Cx}{pins:Z3}{σ:St}{H:Hp}{s:Shared}{a C dx:Addr}{fs:List (Str×V)}{f:Str}{v:V}{A:Around}{E:Z5}
theorem zjm{b:Bool}{Q:Z5}(I:Inv X pins σ H s)(e:H a=some (.ins C dx fs))(c:Cls X.K C)(n:zdv X.K C f)(l:fs.lookup f=some v)
  (h:∀u s',Inv X pins σ H s'->zbt v u->Q u s'):wpAny (model X.prog X.w) A (getAttr (.ref a) f b) Q E s:=by
 obtain ⟨mA,O,r,_,_,_⟩:=zgb I.hok e;obtain ⟨u,hu,ru⟩:=zlC.some_of (v:=v) (o:=mA f) (by rw [<-l];exact r f);exact zoO I.kIn O (c.get f) c.hd n hu (zk2 ru) (h u _ (I.tok _) ru)
theorem zfE{m:Str}{g:Addr}{pl:Sem Bool}{Q:Value×List Value->Shared->Prop}(I:Inv X pins σ H s)(e:H a=some (.ins C dx fs))(c:Cls X.K C)(k:Meth X.K C m g)(l:fs.lookup m=none)
  (h:Q (.ref g,[.ref a]) s):wpAny (model X.prog X.w) A (getMethod (.ref a) m pl) Q E s:=by
 obtain ⟨mA,O,r,_,_,_⟩:=zgb I.hok e;have hn:mA m=none:=zlC.none_of (by rw [<-l];exact r m);exact zmw I.kIn O (c.get m) k.at_ k.fn hn h
theorem zi6{y:V}{u:Value}{Q:Unit->Shared->Prop}(I:Inv X pins σ H s)(e:H a=some (.ins C dx fs))(c:Cls X.K C)(n:zdv X.K C f)(hl:fs.length<1000)(ry:zbt y u)
  (h:∀s',Inv X pins σ (upd H a (.ins C dx (zdy f y fs))) s'->Q () s'):wpAny (model X.prog X.w) A (setAttr (.ref a) f u) Q E s:=by
 obtain ⟨mA,O,r,wi,_,ho⟩:=zgb I.hok e
 have hz:(fs.map (·.1)).length<=sizeLine:=by rw [List.length_map,sizeLine_eq];omega
 refine znW I.kIn O c.sa c.po n.taker c.hd wi hz fun h' O' sb=>h _ ?_
 have hd:∃o,h'.get? dx=some o:=let ⟨o,_,_,e',_⟩:=O'.ns;⟨o,e'⟩
 refine I.write (x:=a) (e:=dx) (by rw [e];exact True.intro) (.inr ho) (fun b q hb z=>(sb.2 b hb).trans z) hd ?_;refine ⟨by rw [zau O.ne];exact ho,?_,O.ne,O'.obj,_,O'.ns,fun g=>?_,fun g hg=>?_⟩
 ·have:=zeY f y fs;omega
 ·show zlC ((zdy f y fs).lookup g) (if g=f then some u else mA g);rw [zeX]
  by_cases q:g=f
  ·rw [if_pos q,if_pos q];exact ry
  ·rw [if_neg q,if_neg q];exact r g
 ·by_cases q:g=f
  ·rw [q];exact (ze1 f y fs).1
  ·refine (ze1 f y fs).2 g (wi g fun z=>hg ?_);show (if g=f then some u else mA g)=none;rw [if_neg q];exact z
theorem Inv.made(I:Inv X pins σ H s):Inv X pins σ (upd (upd H s.heap.objs.size (.own (s.heap.objs.size+1))) (s.heap.objs.size+1) (.ins C s.heap.objs.size []))
  { s with heap:=(s.heap.push PySem.W.emptyDict).push (PySem.W.instObj C s.heap.objs.size) }:=by
 have e1:(s.heap.push PySem.W.emptyDict).get? s.heap.objs.size=some PySem.W.emptyDict:=Heap.get?_push_size s.heap rfl
 have e2:((s.heap.push PySem.W.emptyDict).push (PySem.W.instObj C s.heap.objs.size)).get? (s.heap.objs.size+1)=some (PySem.W.instObj C s.heap.objs.size):=by
  have:=Heap.get?_push_size (s.heap.push PySem.W.emptyDict) (o:=PySem.W.instObj C s.heap.objs.size) rfl
  rwa [Heap.size_push] at this
 have e3:(s.heap.push PySem.W.emptyDict).Ns s.heap.objs.size (fun _=>none):=⟨PySem.W.emptyDict,#[],_,e1,rfl,(fun e he=>absurd he (by simp)),fun _=>rfl⟩;have I1:=I.laid (a:=s.heap.objs.size) (o:=.own (s.heap.objs.size+1)) (h':=s.heap.push PySem.W.emptyDict) (t':=s.toks) (fun b u q=>Heap.get?_push_of_some _ q) (Nat.le_refl _) ⟨_,e1⟩;refine I1.laid (a:=s.heap.objs.size+1) (o:=.ins C s.heap.objs.size []) (t':=s.toks) (fun b u q=>Heap.get?_push_of_some _ q) (Nat.le_of_eq (Heap.size_push _ _)) ?_;have ne:s.heap.objs.size≠s.heap.objs.size+1:=Nat.ne_of_lt (Nat.lt_succ_self _);refine ⟨by rw [zau ne,zaQ],Nat.zero_le _,ne,e2,fun _=>none,(Heap.Ns1.of_empty e3).at fun o q=>Heap.get?_push_of_some _ q,fun _=>True.intro,fun y hy=>absurd rfl hy⟩
theorem zpc{prog:Program}{w:World}{env:Env}{e:Expr}{f:Str}{pos:Pos}{s:Shared}{Q:Z5}(hb:attributeBase e f env (eval e env)=eval e env)
  (h:wpAny (model prog w) A (eval e env) (fun o s₁=>wpAny (model prog w) A (getAttr o f true) Q E s₁) E s):wpAny (model prog w) A (eval (.Attribute e f pos) env) Q E s :=
 Attribute_any_ h (by rw [arm_eval_Attribute,hb])
end
def zuL(K:PySem.W.Frag)(ta:TE)(f:Str):TE:=fun σ H Q=>ta σ H fun x H1=>∃a C dx fs v,x=.ref a/\H1 a=some (.ins C dx fs)/\Cls K C/\zdv K C f/\fs.lookup f=some v/\Q v H1
def zwJ(K:PySem.W.Frag)(ta tv:TE)(f:Str):TS:=fun D σ H=>tv σ H fun y H1=>ta σ H1 fun x H2=>∃a C dx fs,x=.ref a/\H2 a=some (.ins C dx fs)/\Cls K C/\zdv K C f/\fs.length<1000 ∧
 D.nx σ (upd H2 a (.ins C dx (zdy f y fs)))
def zvZ(X:Cx)(op:Operator)(rd:V->V->Hp->VK->Prop):Prop :=
 ∀(pins:Z3) (s:Shared) (σ:St) (H:Hp) (x y:V) (u v:Value) (Q:VK),Inv X pins σ H s->zbt x u->zbt y v->rd x y H Q->wpAny (model X.prog X.w) X.A (inplaceOp op u v) (EP X pins σ Q) X.xe s
section
variable{X:Cx}{o e value:Expr}{f:Str}{pos pos' tpos:Pos}{ta tv:TE}
theorem zgR(he:PE X e ta)(hb:attributeBase e f X.env (eval e X.env)=eval e X.env):PE X (.Attribute e f pos) (zuL X.K ta f):=by
 intro pins s σ H Q I h;refine zpc hb (thn (he pins s σ H _ I h) fun u s1 ⟨x,H1,I1,rx,a,C,dx,fs,v,ex,ea,c,n,l,q⟩=>?_);subst ex;obtain rfl:u=Value.ref a:=rx;exact zjm I1 ea c n l fun u' s2 I2 ru=>⟨v,H1,I2,ru,q⟩
theorem zm2(ha:PE X o ta)(hv:PE X value tv)(hs:swapsWith value (some (.Attribute o f pos')) pos.line X.env=pure false):PS X (.Assign [.Attribute o f pos'] value pos) (zwJ X.K ta tv f):=by
 intro pins s σ H D I h;refine plainObj_wpAny_Assign_Attribute (thn (hv pins s σ H _ I h) fun u s1 ⟨y,H1,I1,ry,q⟩=>thn (ha pins s1 σ H1 _ I1 q) fun ov s2 ⟨x,H2,I2,rx,a,C,dx,fs,ex,ea,c,n,l,q2⟩=>?_) hs;subst ex;obtain rfl:ov=Value.ref a:=rx;exact zi6 I2 ea c n l ry fun s3 I3=>⟨σ,_,I3,q2⟩
def zuR:V->V->Hp->VK->Prop:=fun x y H Q=>∃i j,x=.int i/\y=.int j/\Q (.int (i+j)) H
def zuQ:V->V->Hp->VK->Prop:=fun x y H Q=>∃i j,x=.int i/\y=.int j/\Q (.int (i-j)) H
theorem zrp:zvZ X .Add zuR:=by
 rintro pins s σ H x y u v Q I rx ry ⟨i,j,rfl,rfl,q⟩;obtain ⟨t,rfl⟩:=(show ∃t,u=Value.int i t from rx);obtain ⟨t',rfl⟩:=(show ∃t',v=Value.int j t' from ry);exact PyProof.Rows.iadd_int ⟨.int (i+j),H,I.tok _,⟨_,rfl⟩,q⟩
theorem zro:zvZ X .Sub zuQ:=by
 rintro pins s σ H x y u v Q I rx ry ⟨i,j,rfl,rfl,q⟩;obtain ⟨t,rfl⟩:=(show ∃t,u=Value.int i t from rx);obtain ⟨t',rfl⟩:=(show ∃t',v=Value.int j t' from ry);exact PyProof.Rows.isub_int ⟨.int (i-j),H,I.tok _,⟨_,rfl⟩,q⟩
end
section
variable{X:Cx}{pins:Z3}{σ:St}{H:Hp}{s:Shared}{A:Around}{E:Z5}{Q:Z5}{c:Value}{b:Bool}
inductive TyOf(K:PySem.W.Frag)(H:Hp):V->Value->Prop where
 | non:TyOf K H .non (.type "NoneType")
 | bl (x:Bool):TyOf K H (.bl x) (.type "bool")
 | int (i:Int):TyOf K H (.int i) (.type "int")
 | str (x:Str):TyOf K H (.str x) (.type "str")
 | flt (x:UInt64):TyOf K H (.flt x) (.type "float")
 | lst {a:Addr} {xs:List V} (e:H a=some (.lst xs)):TyOf K H (.ref a) (.type "list")
 | frz {a:Addr} {o:Obj} {xs:List V} (e:H a=some (.frz o (.lst xs))):TyOf K H (.ref a) (.type "list")
 | tup {a:Addr} {xs:List V} (e:H a=some (.tup xs)):TyOf K H (.ref a) (.type "tuple")
 | dK {a:Addr} {kvs:List (Key×V)} (e:H a=some (.dK kvs)):TyOf K H (.ref a) (.type "dict")
 | dT {a:Addr} {kvs:List (List Key×V)} (e:H a=some (.dT kvs)):TyOf K H (.ref a) (.type "dict")
 | ins {a C dx:Addr} {fs:List (Str×V)} (e:H a=some (.ins C dx fs)) (cl:Cls K C) (ha:PySem.W.findIn K (.ref C) "__class__" = some (some (.builtin "object.__class__")))
   (hn:PySem.W.specialIn K (.builtin "object.__class__") "__get__" = some (some (.builtin "getset_descriptor.__get__"))) (htk:PySem.W.takesIn K (.builtin "object.__class__")=some true)
   (hm:PySem.W.mroIn K C (.type "object")=some true):TyOf K H (.ref a) (.ref C)
theorem zkU{x:V}{u t:Value}(I:Inv X pins σ H s)(rx:zbt x u)(ty:TyOf X.K H x t)(e:PySem.W.kitOne X.K t c=some b)(h:∀tk,Q (.bool b) { s with toks:=tk }) :
  wpAny (model X.prog X.w) A (call (.builtin "isinstance") [u,c]) Q E s:=by
 cases ty with
 | non=>cases (show u=Value.none from rx);exact PySem.W.kia_one PySem.W.kitx_none I.kIn True.intro e (fun z=>nomatch z) h
 | bl y=>cases (show u=Value.bool y from rx);exact PySem.W.kia_one PySem.W.kitx_bool I.kIn True.intro e (fun z=>nomatch z) h
 | int i=>obtain ⟨t,q⟩:=(show ∃t,u=Value.int i t from rx);cases q;exact PySem.W.kia_one PySem.W.kitx_int I.kIn True.intro e (fun z=>nomatch z) h
 | str y=>obtain ⟨t,q⟩:=(show ∃t,u=Value.str y t from rx);cases q;exact PySem.W.kia_one PySem.W.kitx_str I.kIn True.intro e (fun z=>nomatch z) h
 | flt y=>obtain ⟨t,q⟩:=(show ∃t,u=Value.float y t from rx);cases q;exact PySem.W.kia_one PySem.W.kitx_float I.kIn True.intro e (fun z=>nomatch z) h
 | @lst a xs ea =>
  cases (show u=Value.ref a from rx);obtain ⟨_,_,n,_,h1⟩:=(show zb5 X.prog X.w H s.heap a (.lst xs) from I.hok a _ ea);exact PySem.W.kia_one PySem.W.kitx_list I.kIn ⟨_,h1,rfl⟩ e (fun z=>nomatch z) h
 | @frz a ob xs ea =>
  cases (show u=Value.ref a from rx);obtain ⟨_,_,_,n,_,h1⟩:=(show zb5 X.prog X.w H s.heap a (.frz ob (.lst xs)) from I.hok a _ ea);exact PySem.W.kia_one PySem.W.kitx_list I.kIn ⟨_,h1,rfl⟩ e (fun z=>nomatch z) h
 | @tup a xs ea =>
  cases (show u=Value.ref a from rx);obtain ⟨_,_,_,p⟩:=(show zb5 X.prog X.w H s.heap a (.tup xs) from I.hok a _ ea);obtain ⟨o,h1,h2,_⟩:=p;exact PySem.W.kia_one PySem.W.kitx_tuple I.kIn ⟨o,h1,h2⟩ e (fun z=>nomatch z) h
 | @dK a kvs ea =>
  cases (show u=Value.ref a from rx);obtain ⟨_,_,vs,_,p⟩:=(show zb5 X.prog X.w H s.heap a (.dK kvs) from I.hok a _ ea);obtain ⟨o,es,ep,h1,h2,_⟩:=p;exact PySem.W.kia_one PySem.W.kitx_dict I.kIn ⟨o,h1,h2.1⟩ e (fun z=>nomatch z) h
 | @dT a kvs ea =>
  cases (show u=Value.ref a from rx);obtain ⟨_,_,xs,_,o,es,ep,h1,h2,_⟩:=(show zb5 X.prog X.w H s.heap a (.dT kvs) from I.hok a _ ea);exact PySem.W.kia_one PySem.W.kitx_dict I.kIn ⟨o,h1,h2.1⟩ e (fun z=>nomatch z) h
 | @ins a C dx fs ea cl ha hn htk hm =>
  cases (show u=Value.ref a from rx);obtain ⟨mA,O,_⟩:=zgb I.hok ea;obtain ⟨od,J,_⟩:=O.look;exact PySem.W.kia_one (PySem.W.kitx_own (cl.get _) cl.hd ha hn htk hm) I.kIn J e (fun z=>nomatch z) h
end
end L2
namespace L2
open PySem PySem.Spec PyProof.Rows
structure Room(k:Nat)(A:Around):Prop where
 hd:A.handled=none
 dp:A.depth+3*k+5<recursionLimit
 un:A.units+16*k+200<cLine
theorem Room.mono{j k:Nat}{A:Around}(r:Room k A)(h:j<=k):Room j A:=⟨r.hd,by have:=r.dp;omega,by have:=r.un;omega⟩
theorem Room.deeper{k:Nat}{A:Around}(r:Room (k+1) A)(env:Env):Room k (A.deeper env) :=
 ⟨r.hd,by have:=r.dp;show A.depth+1+3*k+5<_;omega,by have:=r.un;show A.units+3+16*k+200<_;omega⟩
theorem zjh{A:Around}{C:Addr}{us:List Value}{kw:List (Str×Value)}:(A.under (.builtin "type.__call__" ⟨.ref C::us,kw⟩)).depth=A.depth+1:=by
 first | rfl | simp [Around.under,Code.weight,Code.isCreation,Code.isGuard,Code.isCaller,Code.frames,Code.isFrame,guardIds]
theorem zjg{A:Around}{C:Addr}{us:List Value}{kw:List (Str×Value)}:(A.under (.builtin "type.__call__" ⟨.ref C::us,kw⟩)).units=A.units+1:=by
 first | rfl | simp [Around.under,Code.cUnits,Code.frames,Code.isFrame]
theorem Room.make{k:Nat}{A:Around}(r:Room (k+1) A)(C:Addr)(us:List Value)(kw:List (Str×Value)):Room k (A.under (.builtin "type.__call__" ⟨.ref C::us,kw⟩)) :=
 ⟨r.hd,by have:=r.dp;rw [zjh];omega,by have:=r.un;rw [zjg];omega⟩
theorem Room.depth{k:Nat}{A:Around}(r:Room k A):A.depth<recursionLimit:=by have:=r.dp;omega
theorem Room.units{k:Nat}{A:Around}(r:Room k A):A.units+64<cLine:=by have:=r.un;omega
def zrX:TA:=fun _ H Q=>Q [] H
def znG(ta:TE)(tr:TA):TA:=fun σ H Q=>ta σ H fun x H1=>tr σ H1 fun xs H2=>Q (x::xs) H2
section
variable{X:Cx}{e:Expr}{es:List Expr}{te:TE}{t:TA}{pos:Pos}
theorem zfv:PA X [] zrX:=fun _ _ _ _ H Q I h=>Calls.spliced_nil ⟨[],H,I,.nil,h⟩
theorem zc6(ha:PE X e te)(hr:PA X es t)(hs:starEach (e::es) X.env=(false,eval e X.env)::starEach es X.env:=by rfl):PA X (e::es) (znG te t):=by
 intro pos pins s σ H Q I h;rw [hs];show wpAny _ _ (spliced ((false,eval e X.env)::backTo pos (starEach es X.env))) _ _ s;refine Calls.spliced_cons (thn (ha pins s σ H _ I h) fun u s1 ⟨x,H1,I1,r1,q1⟩=>?_);exact thn (hr pos pins s1 σ H1 _ I1 q1) fun us s2 ⟨xs,H2,I2,r2,q2⟩=>⟨x::xs,H2,I2,.cons r1 r2,q2⟩
def zwA(t:TA):TE:=fun σ H Q=>t σ H fun xs H1=>xs.length<=sizeLine/\∀p,H1 p=none->Q (.ref p) (upd H1 p (.tup xs))
def zwF(t:TA):TE:=fun σ H Q=>t σ H fun xs H1=>xs.length<=sizeLine/\∀p,H1 p=none->Q (.ref p) (upd H1 p (.lst xs))
theorem zqw{x1}(h:PA X es t):PE X (.Tuple es x1 pos) (zwA t):=by
 intro pins s σ H Q I hq;refine wpAny_Tuple_spliced (thn (h pos pins s σ H _ I hq) fun us s1 ⟨xs,H1,I1,r,z,q⟩=>⟨by rw [<-r.length];exact z,?_⟩);have hf:H1 s1.heap.objs.size=none:=I1.hok.fresh (Nat.le_refl _);refine ⟨.ref s1.heap.objs.size,upd H1 s1.heap.objs.size (.tup xs),I1.laid (t':=s1.toks) (fun b u e=>Heap.get?_push_of_some _ e) (Nat.le_refl _) ?_,rfl,q _ hf⟩;exact ⟨z,us,r,⟨_,Heap.get?_push_size _ rfl,rfl,_,rfl⟩⟩
theorem zqD(h:PA X es t):PE X (.List es pos) (zwF t):=by
 intro pins s σ H Q I hq;refine wpAny_List_spliced (thn (h pos pins s σ H _ I hq) fun us s1 ⟨xs,H1,I1,r,z,q⟩=>⟨by rw [<-r.length];exact z,?_⟩);have hf:H1 s1.heap.objs.size=none:=I1.hok.fresh (Nat.le_refl _);refine ⟨.ref s1.heap.objs.size,upd H1 s1.heap.objs.size (.lst xs),I1.laid (t':=s1.toks) (fun b u e=>Heap.get?_push_of_some _ e) (Nat.le_refl _) ?_,rfl,q _ hf⟩;exact ⟨z,us,0,r,Heap.get?_push_size _ rfl⟩
end
abbrev Sp:=List V->Hp->VK->XK->Prop
abbrev CXT:=List Env->Hp->Shared->XK->Value->Shared->Prop
structure Env0(P:Program)(w:World)(K:PySem.W.Frag)(mg:Z6)(base:Heap)(A:Around)(outer:List Env)(s:Shared)(H:Hp):Prop where
 frames:A.frames=some outer
 mod:Mod K mg base
 bs:∀b o,base.get? b=some o->s.heap.get? b=some o/\H b=none
 bsz:base.objs.size<=s.heap.objs.size
 funs:s.heap.FunFrames base outer
 frf:∀b∈frs outer,H b=none
 hok:HOk P w H s.heap
 bare:AllBare s.gens
def CE(outer:List Env)(P:Program)(w:World)(H:Hp)(s:Shared)(Q:VK)(u:Value)(s':Shared):Prop :=
 ∃v H',s'.os=s.os/\AllBare s'.gens/\Un (frs outer) [] H H' s.heap s'.heap/\HOk P w H' s'.heap/\zbt v u/\Q v H'
def CR(CX:CXT)(outer:List Env)(P:Program)(w:World)(H:Hp)(s:Shared)(Q:VK)(E:XK)(r:Result)(s':Shared):Prop :=
 match r with
 | .ok (.ret u)=>CE outer P w H s Q u s'
 | .ok _=>False
 | .error e=>CX outer H s E e s'
structure FnOk(P:Program)(w:World)(K:PySem.W.Frag)(mg:Z6)(base:Heap)(CX:CXT)(k:Nat)(f:Addr)(fd:FuncData)(ps:List Str)(sp:Sp):Prop where
 len:∀vs H Q E,sp vs H Q E->vs.length=ps.length
 run:∀(A:Around) (outer:List Env) (s:Shared) (H:Hp) (args:Args) (us:List Value) (vs:List V) (Q:VK) (E:XK),Room k A->Env0 P w K mg base A outer s H->BindsTo s fd args (ps.zip us)->Vals vs us->sp vs H Q E →
  codeAny (model P w) A (.call (.ref f) args) (CR CX outer P w H s Q E) s
theorem FnOk.mono{P:Program}{w:World}{K:PySem.W.Frag}{mg:Z6}{base:Heap}{CX:CXT}{j k:Nat}{f:Addr}{fd:FuncData}{ps:List Str}{sp:Sp}(F:FnOk P w K mg base CX j f fd ps sp)(h:j<=k) :
  FnOk P w K mg base CX k f fd ps sp:=⟨F.len,fun A outer s H args us vs Q E hr=>F.run A outer s H args us vs Q E (hr.mono h)⟩
theorem FnOk.imp{P:Program}{w:World}{K:PySem.W.Frag}{mg:Z6}{base:Heap}{CX:CXT}{k:Nat}{f:Addr}{fd:FuncData}{ps:List Str}{sp sp':Sp}(F:FnOk P w K mg base CX k f fd ps sp)
  (h:∀vs H Q E,sp' vs H Q E->sp vs H Q E):FnOk P w K mg base CX k f fd ps sp' :=
 ⟨fun vs H Q E q=>F.len vs H Q E (h _ _ _ _ q),fun A outer s H args us vs Q E hr he hb hv hs=>F.run A outer s H args us vs Q E hr he hb hv (h _ _ _ _ hs)⟩
theorem Env0.make{P:Program}{w:World}{K:PySem.W.Frag}{mg:Z6}{base:Heap}{A:Around}{outer:List Env}{s:Shared}{H:Hp}(e:Env0 P w K mg base A outer s H)(C:Addr)(us:List Value)(kw:List (Str×Value)) :
  Env0 P w K mg base (A.under (.builtin "type.__call__" ⟨.ref C::us,kw⟩)) outer s H:=⟨by first | exact e.frames | (simpa [Around.under,Code.envs,Code.isFrame,pushEnvs] using e.frames),e.mod,e.bs,e.bsz,e.funs,e.frf,e.hok,e.bare⟩
section
variable{X:Cx}{pins:Z3}{σ:St}{H:Hp}{s s':Shared}
theorem Inv.env0(I:Inv X pins σ H s):Env0 X.prog X.w X.K X.mg X.base X.A X.stack s H :=
 ⟨I.ok.frames,I.ok.mod,I.bs,Nat.le_trans I.ok.bsz I.sz,I.stack,I.stkFree,I.hok,I.bare⟩
theorem Inv.after{Q:VK}{u:Value}(I:Inv X pins σ H s)(h:CE X.stack X.prog X.w H s Q u s'):EP X pins σ Q u s':=by
 obtain ⟨v,H',os,bare,un,hok,r,q⟩:=h;obtain ⟨hh,g,d,t,os'⟩:=s';obtain rfl:os'=s.os:=os;exact ⟨v,H',I.call (h':=hh) (g':=g) (d':=d) (t':=t) (ch:=[]) un hok bare (fun b z=>absurd z (by simp)),r,q⟩
end
def zbJ(K:PySem.W.Frag)(fd:FuncData)(ps:List Str)(ds:List Value):Prop :=
 ∀(s:Shared) (us:List Value),K.In s.heap->(us++ds).length=ps.length->BindsTo s fd ⟨us,[]⟩ (ps.zip (us++ds))
theorem zbJ.all{K:PySem.W.Frag}{fd:FuncData}{ps:List Str}(h:∀us:List Value,us.length=ps.length->bindArgs fd ⟨us,[]⟩=pure (ps.zip us)):zbJ K fd ps []:=fun s us _ hl=>by
 rw [List.append_nil] at hl ⊢;exact .of_eq (h us hl)
def zrQ(CX:CXT)(X:Cx)(E:XK):Prop:=∀(pins:Z3) (σ:St) (H:Hp) (s:Shared) (e:Value) (s':Shared),Inv X pins σ H s->CX X.stack H s E e s'->X.xe e s'
section
variable{X:Cx}{CX:CXT}{k:Nat}{f C:Addr}{fd:FuncData}{ps:List Str}{sp:Sp}{dvs:List V}{ds:List Value}{E:XK}{x m:Str}{p pos apos:Pos}{e o:Expr}{es:List Expr}{ta:TE}{t:TA}
structure Mk(K:PySem.W.Frag)(C f:Addr):Prop where
 makes:PySem.W.makesIn K C=true
 init:PySem.W.findIn K (.ref C) "__init__" = some (some (.ref f))
 fn:PySem.W.isFn K (.ref f)=true
 kp:PySem.W.keepIn K (.ref C)=true
end
section
variable{X:Cx}{CX:CXT}{k:Nat}{f C:Addr}{fd:FuncData}{ps ks:List Str}{sp:Sp}{E:XK}{x m:Str}{p pos apos kpos:Pos}{e o:Expr}{es:List Expr}{kws:List Keyword}{te ta:TE}{t tk:TA}{nm:Option Str}
variable{g:List Value->List Value->List Value}{gV:List V->List V->List V}
end
structure FnScope(N P:List Str)(sc:Scope):Prop where
 kind:sc.kind=.function
 co:sc.isCoroutine=false
 gen:sc.isGenerator=false
 nd:N.Nodup
 pre:N.take P.length=P
 par:∀x∈P,sc.names.lookup x=some .local\/sc.names.lookup x=some .cell
 nofree:∀y∈sc.names,y.2≠.free
theorem zhg{kindOf:Str->Option NameKind}{x:Str}:∀{binds:List (Str×Value)} {m:Z6},(∀v,(x,v) ∉ binds)->bindL kindOf binds m x=m x
 | [],_,_=>rfl
 | (n,v)::r,m,h=>by
  unfold bindL;rw [zhg fun w hw=>h w (List.mem_cons_of_mem _ hw)];split
  ·have:x≠n:=by rintro rfl;exact h v List.mem_cons_self
   simp [this]
  ·rfl
theorem zhi{kindOf:Str->Option NameKind}{x:Str}:∀{binds:List (Str×Value)} {m:Z6},(∀v,(x,v) ∉ binds)->bindC kindOf binds m x=m x
 | [],_,_=>rfl
 | (n,v)::r,m,h=>by
  unfold bindC;rw [zhi fun w hw=>h w (List.mem_cons_of_mem _ hw)];split
  ·rfl
  ·have:x≠n:=by rintro rfl;exact h v List.mem_cons_self
   simp [this]
theorem zhh{kindOf:Str->Option NameKind}{x:Str}{v:Value}:∀{P:List Str} {vs:List Value} {i:Nat} {m:Z6},P.Nodup->P[i]?=some x->vs[i]?=some v->kindOf x=some .local →
  bindL kindOf (P.zip vs) m x=some v
 | [],_,_,_,_,h,_,_=>by simp at h
 | _::_,[],_,_,_,_,h,_=>by simp at h
 | p::P,w::vs,0,m,nd,h1,h2,hk=>by
  simp at h1 h2;subst h1;subst h2;show bindL kindOf ((p,w)::P.zip vs) m p=_;unfold bindL;rw [zhg fun v hv=>(List.nodup_cons.mp nd).1 (List.of_mem_zip hv).1,if_pos hk];simp
 | p::P,w::vs,i+1,m,nd,h1,h2,hk=>by
  show bindL kindOf ((p,w)::P.zip vs) m x=_;unfold bindL;exact zhh (i:=i) (List.nodup_cons.mp nd).2 (by simpa using h1) (by simpa using h2) hk
theorem zhj{kindOf:Str->Option NameKind}{x:Str}{v:Value}:∀{P:List Str} {vs:List Value} {i:Nat} {m:Z6},P.Nodup->P[i]?=some x->vs[i]?=some v->kindOf x≠some .local →
  bindC kindOf (P.zip vs) m x=some v
 | [],_,_,_,_,h,_,_=>by simp at h
 | _::_,[],_,_,_,_,h,_=>by simp at h
 | p::P,w::vs,0,m,nd,h1,h2,hk=>by
  simp at h1 h2;subst h1;subst h2;show bindC kindOf ((p,w)::P.zip vs) m p=_;unfold bindC;rw [zhi fun v hv=>(List.nodup_cons.mp nd).1 (List.of_mem_zip hv).1,if_neg hk];simp
 | p::P,w::vs,i+1,m,nd,h1,h2,hk=>by
  show bindC kindOf ((p,w)::P.zip vs) m x=_;unfold bindC;exact zhj (i:=i) (List.nodup_cons.mp nd).2 (by simpa using h1) (by simpa using h2) hk
def zeF(N:List Str)(vs:List V):St:=vs.map some++List.replicate (N.length-vs.length) none
def zla(CX:CXT)(P:Program)(w:World)(K:PySem.W.Frag)(mg:Z6)(base:Heap)(N:List Str)(qual:Str)(scope:Scope)(f:Addr)(cd:Value)(A:Around)(outer:List Env)(s:Shared)(H:Hp)(E:XK):Cx where
 prog:=P
 w:=w
 K:=K
 mg:=mg
 base:=base
 A:=A.deeper (envOfC qual scope s.heap.objs.size f cd)
 N:=N
 s₀:=s
 H₀:=H
 env:=envOfC qual scope s.heap.objs.size f cd
 outer:=outer
 stack:=envOfC qual scope s.heap.objs.size f cd::outer
 ex:=[]
 calm:=true
 fn:=fun _=>true
 pn:=[]
 xe:=fun e s'=>wpAny (model P w) (A.deeper (envOfC qual scope s.heap.objs.size f cd)) (leaving (envOfC qual scope s.heap.objs.size f cd) e) (fun _ s''=>CX outer H s E e s'') (fun e' s''=>CX outer H s E e' s'') s'
theorem ziS{sc:Scope}{n:Nat}{x:Str}(h:sc.names.lookup x=some .cell):∃c,(cellsFrom n sc.names []).lookup x=some c:=by
 have q:=PySem.W.cellsFrom_some sc.names n [] (.inl h);exact Option.isSome_iff_exists.mp q
theorem zkX{CX:CXT}{P:Program}{w:World}{K:PySem.W.Frag}{mg:Z6}{base:Heap}{N ps:List Str}{qual:Str}{scope:Scope}{f:Addr}{cd:Value}{A:Around}{outer:List Env}{s s1:Shared}{H:Hp}{E:XK}{us:List Value}{vs:List V}
  (S:FnScope N ps scope) (hd:A.handled=none) (e0:Env0 P w K mg base A outer s H) (hl:vs.length=ps.length) (r:Vals vs us)
  (x:InCallC s s.heap.objs.size (bindL (envOfC qual scope s.heap.objs.size f cd).kindOf (ps.zip us) fun _=>none) (cellsFrom (s.heap.objs.size+1) scope.names []) (bindC (envOfC qual scope s.heap.objs.size f cd).kindOf (ps.zip us) fun _=>none) s1) :
  Inv (zla CX P w K mg base N qual scope f cd A outer s H E) [] (zeF N vs) H s1:=by
 have hpl:ps.length<=N.length:=by have:=congrArg List.length S.pre;rw [List.length_take] at this;omega
 obtain ⟨h1,tk,rfl,hk⟩:=x.done;have noA:∀b:Addr,b ∉ (zla CX P w K mg base N qual scope f cd A outer s H E).ex:=fun b z=>absurd (show b∈([]:List Addr) from z) (by simp)
 refine ⟨⟨e0.mod,S.kind,rfl,rfl,Nat.le_refl _,fun y z c h1 h2=>?_,fun y hy=>?_,fun y c _ h=>?_,fun _=>hd,Around.frames_deeper e0.frames,.inr ⟨rfl,rfl⟩,fun b z=>absurd z (noA b),e0.bs,e0.bsz,fun b _ _=>noA b,fun b z=>absurd z (noA b),e0.funs,e0.frf⟩,
  rfl,e0.bare,Un.kept hk,⟨_,x.toInCall.ns,fun i y v h1 h2 h3=>?_⟩,fun y c h=>⟨_,x.cell y c h⟩,e0.hok.fresh (Nat.le_refl _),fun y c h=>?_,fun p hp=>absurd (show p∈([]:Z3) from hp) (by simp),e0.hok.kept hk,?_⟩
 ·exact name_of_addr x.apart (PySem.mem_of_lookup h1) (PySem.mem_of_lookup h2)
 ·have hy:scope.names.lookup y=some .cell\/scope.names.lookup y=some .free:=hy
  rcases hy with hy | hy
  ·exact ziS hy
  ·exact absurd rfl (S.nofree _ (PySem.mem_of_lookup hy))
 ·exact Nat.le_of_lt (x.above y c (PySem.mem_of_lookup h))
 ·have hi:i<vs.length:=by
   unfold zeF at h2
   by_cases hi:i<vs.length
   ·exact hi
   ·rw [List.getElem?_append_right (by simpa using hi)] at h2;rw [List.getElem?_replicate] at h2
    split at h2<;>cases h2
  have ha:vs[i]?=some v:=by
   unfold zeF at h2;rw [List.getElem?_append_left (by simpa using hi),List.getElem?_map] at h2
   cases e:vs[i]? with
   | none=>rw [e] at h2;cases h2
   | some a=>rw [e] at h2;cases h2;rfl
  obtain ⟨u,hu,rv⟩:=r.get ha
  have hp:ps[i]?=some y:=by
   rw [<-S.pre,List.getElem?_take_of_lt (by omega)];exact h1
  have ndP:ps.Nodup:=by rw [<-S.pre];exact S.nd.sublist (List.take_sublist _ _)
  refine ⟨u,rv,?_⟩
  rcases S.par y (List.mem_of_getElem? hp) with k | k
  ·exact .inl ⟨k,zhh ndP hp hu k⟩
  ·obtain ⟨c,e⟩:=ziS (n:=s.heap.objs.size+1) k;refine .inr ⟨.inl k,c,e,?_⟩;have q:=x.cell y c e;rw [zhj ndP hp hu (by show scope.names.lookup y≠_;rw [k];decide)] at q;exact q
 ·exact e0.hok.fresh (Nat.le_of_lt (x.above y c (PySem.mem_of_lookup h)))
 ·unfold zeF;show _=N.length;rw [List.length_append,List.length_map,List.length_replicate];omega
theorem zrs{CX:CXT}{P:Program}{w:World}{K:PySem.W.Frag}{mg:Z6}{base:Heap}{k:Nat}{f:Addr}{name qual:Str}{params:Arguments}{body:List Stmt}{scope:Scope}{dV kV doc pm cdv ct oc:Value}{an od:Option Addr}
  {osl:Array (Option Value)} {N ps:List Str} {sp:Sp} (lk:K.lookup f=some ⟨oc,od,.func (PySem.W.fnOf name qual params body scope dV kV doc pm an cdv ct),osl⟩) (hcd:PySem.W.codeIn K cdv qual=true) (S:FnScope N ps scope)
  (len:∀vs H Q E,sp vs H Q E->vs.length=ps.length)
  (hbody:∀(A:Around) (outer:List Env) (s:Shared) (H:Hp) (vs:List V) (Q:VK) (E:XK),Room k (A.deeper (envOfC qual scope s.heap.objs.size f cdv))->sp vs H Q E →
   ∃t,PSs (zla CX P w K mg base N qual scope f cdv A outer s H E) body t/\t { nx:=fun _ H'=>Q .non H',rt:=Q } (zeF N vs) H) :
  FnOk P w K mg base CX (k+1) f (PySem.W.fnOf name qual params body scope dV kV doc pm an cdv ct) ps sp:=by
 refine ⟨len,fun A outer s H args us vs Q E hr e0 hb r hsp=>?_⟩;have hl:=len _ _ _ _ hsp;have KX:K.In s.heap:=e0.mod.kin.keeps fun b o e=>(e0.bs b o e).1
 have lim:s.heap.NoLimit:=e0.mod.nolimit.keeps fun b o e=>(e0.bs b o e).1
 have hkind:∀y∈ps.zip us,scope.names.lookup y.1=some .local\/(scope.names.lookup y.1=some .cell/\((cellsFrom (s.heap.objs.size+1) scope.names []).lookup y.1).isSome=true):=fun ⟨n,v⟩ hy=>by
  rcases S.par n (List.of_mem_zip hy).1 with q | q
  ·exact .inl q
  ·exact .inr ⟨q,PySem.W.cellsFrom_some _ _ _ (.inl q)⟩
 refine codeAny_call_function hr.depth (KX _ _ lk) rfl S.co S.gen rfl (PySem.W.codeRec_of KX hcd) (hb _ _ _ _ ?_);refine wpAny_newFunctionEnv_cells S.kind hkind fun env he s1 x=>?_
 subst he;refine ⟨lim.keeps x.toInCall.keep,codeAny_func ?_⟩;obtain ⟨t,ht,hq⟩:=hbody A outer s H vs Q E (hr.deeper _) hsp;have I:Inv (zla CX P w K mg base N qual scope f cdv A outer s H E) [] (zeF N vs) H s1:=zkX S hr.hd e0 hl r x;refine wpAny_mono (ht [] s1 (zeF N vs) H _ I hq) (fun fl s' hs=>?_) fun e s' hs=>hs
 have fin:∀{σ':St} {H':Hp} {v:V} {u:Value},Inv (zla CX P w K mg base N qual scope f cdv A outer s H E) [] σ' H' s'->zbt v u->Q v H'->CE outer P w H s Q u s' :=
  fun {σ' H' v u} J rv q=>⟨v,H',J.os,J.bare,J.base,J.hok,rv,q⟩
 cases fl with
 | ret u =>
  obtain ⟨v,σ',H',J,rv,q⟩:=hs;exact fin J rv q
 | next =>
  obtain ⟨σ',H',J,q⟩:=hs;exact fin (v:=V.non) (u:=Value.none) J rfl q
 | brk =>
  obtain ⟨_,_,_,q⟩:=hs;exact False.elim q
 | cont =>
  obtain ⟨_,_,_,q⟩:=hs;exact False.elim q
end L2
namespace L2
open PySem PySem.Spec PyProof.Rows
section
variable{X:Cx}{x:Str}{p pos:Pos}{e:Expr}{es:List Expr}{t:TA}{id T:String}{r:List V->Hp->VK->Prop}
def tCB(r:List V->Hp->VK->Prop)(t:TA):TE:=fun σ H Q=>t σ H fun vs H1=>r vs H1 Q
theorem zio(hc:zd1 X (.builtin id) r)(hg:Gl X x)(hm:X.mg x=none)(hv:bootBuiltins x=some (.builtin id))(ha:PA X (e::es) t)(hn:x ≠ "__name__":=by decide)(hdb:(x == ("__debug__":Str))=false:=by decide)
  (he:starEach (e::es) X.env=(false,eval e X.env)::starEach es X.env:=by rfl) (hpl:(backTo pos (starEach es X.env)).any (·.1)=false:=by rfl):PE X (.Call (.Name x p) (e::es) [] pos) (tCB r t):=by
 intro pins s σ H Q I h;refine wpAny_Call_Name_kw (ze0 I hg hm hv ?_ hn hdb);exact PyProof.Rows.callWith_builtin1 (thn (ha pos pins s σ H _ I h) fun us s1 ⟨vs,H1,I1,r1,q1⟩=>hc pins s1 σ H1 vs us Q I1 r1 q1) he hpl
theorem zeR(hc:zd1 X (.type T) r)(hg:Gl X x)(hm:X.mg x=none)(hv:bootBuiltins x=some (.type T))(ha:PA X (e::es) t)(hn:x ≠ "__name__":=by decide)(hdb:(x == ("__debug__":Str))=false:=by decide)
  (he:starEach (e::es) X.env=(false,eval e X.env)::starEach es X.env:=by rfl) (hpl:(backTo pos (starEach es X.env)).any (·.1)=false:=by rfl):PE X (.Call (.Name x p) (e::es) [] pos) (tCB r t):=by
 intro pins s σ H Q I h;refine wpAny_Call_Name_kw (ze0 I hg hm hv ?_ hn hdb);exact PyProof.Rows.callWith_type1 (thn (ha pos pins s σ H _ I h) fun us s1 ⟨vs,H1,I1,r1,q1⟩=>hc pins s1 σ H1 vs us Q I1 r1 q1) he hpl
end
end L2
namespace HT
open PySem PyProof.Rows
section
open PySem.SeqAt
open PySem.AutoSeq1 (wpAny_loadPart')
open PySem.MeetsSeq PySem.MeetsSeq2 PySem.MeetsSeq3
end
section
variable{prog:Program}{w:World}{A:Around}{E:Z5}{s:Shared}
theorem zo7{t b:Addr}{vs ws:List Value}{Q:Z5}(ht:IsTup s.heap t vs.toArray)(hb:IsTup s.heap b ws.toArray)(hv:vs≠[])
  (h1:ws=[]->Q (.ref t) s) (h2:ws≠[]->Q (.ref s.heap.objs.size) { s with heap:=s.heap.push { cls:=.type "tuple",data:=.seq (vs++ws).toArray } })
  (hsz:vs.length+ws.length<=sizeLine):wpAny (model prog w) A (binaryOp .Add (.ref t) (.ref b)) Q E s:=by
 obtain ⟨⟨cls,dd,data,sl⟩,ho,hc,n,hd⟩:=id ht;obtain ⟨⟨cls2,dd2,data2,sl2⟩,ho2,hc2,n2,hd2⟩:=id hb;simp only at hc hd hc2 hd2;subst hc hd hc2 hd2
 have e:vs.toArray++ws.toArray=(vs++ws).toArray:=by simp
 by_cases hw:ws=[]
 ·exact concat_meets ⟨_,ho,rfl⟩ ⟨_,ho2,rfl⟩ noFill_tuple_add seq_tuple_add PySem.F.slot_tuple_add PySem.F.entry_tuple_add (PySem.F.args_tuple_add_2 _ _)
   (tuple_addW1 t b vs.toArray ws.toArray n n2 dd dd2 sl sl2 (by simpa using hv) (by simp [hw])) ⟨ho,ho2,h1 hw⟩
 ·refine concat_meets ⟨_,ho,rfl⟩ ⟨_,ho2,rfl⟩ noFill_tuple_add seq_tuple_add PySem.F.slot_tuple_add PySem.F.entry_tuple_add (PySem.F.args_tuple_add_2 _ _)
   (tuple_addW2 t b vs.toArray ws.toArray n n2 dd dd2 sl sl2 (by simpa using hv) (by simpa using hw) (by rw [List.size_toArray,List.size_toArray];exact hsz)) ⟨ho,ho2,?_⟩
  rw [e];exact h2 hw
def sIx(n d:Nat):Option Int->Nat
 | none=>d
 | some v=>if v<0 then (v+(n:Int)).toNat else min v.toNat n
theorem zj5(n d k:Nat):sIx n d (some (k:Int))=min k n:=by
 show (if (k:Int)<0 then ((k:Int)+(n:Int)).toNat else min (k:Int).toNat n)=min k n;rw [if_neg (by omega),Int.toNat_natCast]
theorem zqe(n d:Nat)(hd:d<=n)(o:Option Int):sIx n d o<=n:=by
 cases o with
 | none=>exact hd
 | some v =>
  show (if v<0 then (v+(n:Int)).toNat else min v.toNat n)<=n
  by_cases hv:v<0
  ·rw [if_pos hv];omega
  ·rw [if_neg hv];exact Nat.min_le_right _ _
theorem zlg(v:Int)(n d:Nat):(if v<0 then max (v+(n:Int)) 0 else min v (n:Int))=((sIx n d (some v):Nat):Int):=by
 show (if v<0 then max (v+(n:Int)) 0 else min v (n:Int))=(((if v<0 then (v+(n:Int)).toNat else min v.toNat n):Nat):Int)
 by_cases hv:v<0
 ·simp only [if_pos hv];omega
 ·simp only [if_neg hv];omega
theorem zjy(lo hi:Option Int)(n:Nat):Builtin.Slice.sliceAdjust lo hi 1 (n:Int)=(((sIx n 0 lo:Nat):Int),((sIx n n hi:Nat):Int)):=by
 have h1:¬ ((1:Int)<0):=by omega
 unfold Builtin.Slice.sliceAdjust;simp only [h1,if_false];refine Prod.ext ?_ ?_
 ·cases lo with
  | none=>rfl
  | some v=>exact zlg v n 0
 ·cases hi with
  | none=>rfl
  | some v=>exact zlg v n n
theorem zi9(i j:Nat):Builtin.Slice.slicePlaces (i:Int) (j:Int) 1=j-i:=by
 unfold Builtin.Slice.slicePlaces
 have h1:(1:Int) > 0:=by omega
 simp only [h1,if_true,Int.ediv_one]
 split<;>omega
theorem zfp{v:Value}{o:Option Int}{Q:Option Int->Shared->Prop}(p:IsPart v o)(h:Q o s):wpAny (model prog w) A (Builtin.Slice.slicePartIndex v) Q E s:=by
 cases p with
 | none=>exact slicePart_none h
 | int i t=>exact slicePart_int h
theorem zc0{sl:Addr}{vl vu:Value}{lo hi:Option Int}{n:Nat}{Q:Int×Int×Nat->Shared->Prop}(hs:s.heap.IsSliceOf sl vl vu .none)(pl:IsPart vl lo)(pu:IsPart vu hi)
  (h:Q (((sIx n 0 lo:Nat):Int),1,sIx n n hi-sIx n 0 lo) s):wpAny (model prog w) A (Builtin.Slice.sliceApplied (.ref sl) (pure (n:Int))) Q E s:=by
 obtain ⟨os,hos,hcs,hds⟩:=id hs;unfold Builtin.Slice.sliceApplied Builtin.Slice.sliceFields;refine wpAny_bind (wpAny_bind (wpAny_field hos hds (x:=vl) rfl (wpAny_bind (wpAny_field hos hds (x:=vu) rfl (wpAny_bind (wpAny_field hos hds (x:=.none) rfl (wpAny_pure ?_)))))));refine wpAny_bind (slicePart_none ?_);show wpAny _ _ (if ((1:Int) == 0)=true then _ else _) _ _ s;rw [if_neg (by decide)];refine wpAny_bind (zfp pl (wpAny_bind (zfp pu (wpAny_bind (wpAny_pure ?_)))));show wpAny _ _ (match Builtin.Slice.sliceAdjust lo hi 1 (n:Int) with | (lo,hi)=>pure (lo,(1:Int),Builtin.Slice.slicePlaces lo hi 1)) _ _ s;rw [zjy lo hi n];show wpAny _ _ (pure (((sIx n 0 lo:Nat):Int),(1:Int),Builtin.Slice.slicePlaces ((sIx n 0 lo:Nat):Int) ((sIx n n hi:Nat):Int) 1)) _ _ s;rw [zi9];exact wpAny_pure h
theorem zl1(xs:Array Value)(i k:Nat):((List.range k).filterMap fun (m:Nat)=>xs[((i:Int)+(m:Int)*1).toNat]?).toArray=((xs.toList.drop i).take k).toArray:=by
 have e:(fun (m:Nat)=>xs[((i:Int)+(m:Int)*1).toNat]?)=fun m=>xs[i+m]?:=by
  funext m
  have:((i:Int)+(m:Int)*1).toNat=i+m:=by omega
  rw [this]
 rw [e];have:=pick_run xs i k;rw [List.filterMap_map] at this;have e2:((fun x=>xs[x]?)∘fun x=>i+x)=fun m=>xs[i+m]?:=rfl
 rw [e2] at this;rw [this]
theorem zd8{t sl:Addr}{items:Array Value}{vl vu:Value}{lo hi:Option Int}{Q:Z5}(ht:IsTup s.heap t items)(hs:s.heap.IsSliceOf sl vl vu .none)(pl:IsPart vl lo)(pu:IsPart vu hi)
  (hw:¬ (sIx items.size 0 lo=0/\sIx items.size items.size hi=items.size))
  (h:Q (.ref s.heap.objs.size) { s with heap:=s.heap.push { cls:=.type "tuple",data:=.seq ((items.toList.drop (sIx items.size 0 lo)).take (sIx items.size items.size hi-sIx items.size 0 lo)).toArray } })
  (hsz:items.size<=sizeLine):wpAny (model prog w) A (getItem (.ref t) (.ref sl)) Q E s:=by
 have htake:sizeOk (.seq ((items.toList.drop (sIx items.size 0 lo)).take (sIx items.size items.size hi-sIx items.size 0 lo)).toArray):=by
  show ((items.toList.drop (sIx items.size 0 lo)).take (sIx items.size items.size hi-sIx items.size 0 lo)).toArray.size<=sizeLine;rw [List.size_toArray,List.length_take,List.length_drop,Array.length_toList];omega
 have hj:sIx items.size items.size hi<=items.size:=zqe _ _ (Nat.le_refl _) hi;obtain ⟨os,hos,hcs,hds⟩:=id hs;have hTs:s.TypeIs (.ref sl) "slice":=⟨os,hos,hcs⟩;unfold getItem
 try with_reducible refine wpAny_holding ?_
 first | refine wpAny_bind (wpAny_pure ?_) | skip
 refine wpAny_bind (wpAny_sequenceKey ht.typeIs (by decide) ?_)
 refine wpAny_bind (wpAny_callSpecial?_slot (name:=Str.ofString "__getitem__") ht.typeIs PyProof.Rows.slot_tuple_getitem
  (wpAny_call_entry PyProof.Rows.slot_tuple_getitem ht.typeIs entry_tuple_getitem ?_ (args_tuple_getitem _ _)))
 show wpAny _ _ (Builtin.Tuple.tupleItemsOf (.ref t) >>= _) _ _ s;refine wpAny_bind (tupleItemsOf_ ht ?_);refine wpAny_bind (wpAny_typeOf hTs ?_);rw [if_pos (by decide)];refine wpAny_bind (zc0 hs pl pu ?_)
 have hno:¬ ((((sIx items.size 0 lo:Nat):Int) == 0&&(1:Int) == 1&&(sIx items.size items.size hi-sIx items.size 0 lo) == items.size)=true):=by
  intro q;rw [Bool.and_eq_true,Bool.and_eq_true] at q;have q1:((sIx items.size 0 lo:Nat):Int)=0:=eq_of_beq q.1.1;have q2:sIx items.size items.size hi-sIx items.size 0 lo=items.size:=eq_of_beq q.2;exact hw ⟨by omega,by omega⟩
 show wpAny _ _ (if (((sIx items.size 0 lo:Nat):Int) == 0&&(1:Int) == 1&&(sIx items.size items.size hi-sIx items.size 0 lo) == items.size)=true then _ else _) _ _ s;rw [if_neg hno,zl1]
 first
  | exact wpAny_bind (m:=Builtin.Tuple.tupleExact _) (wpAny_newObj_type (wpAny_pure ⟨_,rfl,wpAny_pure h⟩) htake)
  | exact wpAny_bind (m:=Builtin.Tuple.tupleExact _) (wpAny_newObj_type (wpAny_bind (wpAny_pure (wpAny_pure ⟨_,rfl,wpAny_pure h⟩))) htake)
  | exact wpAny_bind (wpAny_bind (m:=Builtin.Tuple.tupleExact _) (wpAny_newObj_type (wpAny_pure (wpAny_pure ⟨_,rfl,wpAny_pure h⟩)) htake))
  | exact wpAny_bind (wpAny_bind (m:=Builtin.Tuple.tupleExact _) (wpAny_newObj_type (wpAny_pure ⟨_,rfl,wpAny_pure h⟩) htake))
end
end HT
namespace L2
open PySem PySem.Spec PyProof.Rows
abbrev TO:=St->Hp->(Option Int->Hp->Prop)->Prop
def PO(X:Cx)(e:Option Expr)(t:TO):Prop :=
 ∀(pins:Z3) (s:Shared) (σ:St) (H:Hp) (Q:Option Int->Hp->Prop),Inv X pins σ H s->t σ H Q →
  wpAny (model X.prog X.w) X.A (evalPart e X.env) (fun u s'=>∃o H',Inv X pins σ H' s'/\IsPart u o/\Q o H') X.xe s
def zjV:TO:=fun _ H Q=>Q none H
def zpC(t:TE):TO:=fun σ H Q=>t σ H fun x H1=>∃i,x=.int i/\Q (some i) H1
section
variable{X:Cx}{e:Expr}{te:TE}{lo hi:Option Expr}{tl th:TO}{pos p2:Pos}
theorem zod:PO X none zjV:=by
 intro pins s σ H Q I h;rw [evalPart_none];exact wpAny_pure ⟨none,H,I,.none,h⟩
theorem zoc(h:PE X e te):PO X (some e) (zpC te):=by
 intro pins s σ H Q I hw;rw [evalPart_some];refine thn (h pins s σ H _ I hw) fun u s1 ⟨x,H1,I1,r1,q1⟩=>?_
 obtain ⟨i,rfl,q⟩:=q1;obtain ⟨t,rfl⟩:=r1;exact ⟨some i,H1,I1,.int i t,q⟩
def SlR(X:Cx)(r:V->Option Int->Option Int->Hp->VK->Prop):Prop :=
 ∀(pins:Z3) (s:Shared) (σ:St) (H:Hp) (x:V) (v vl vu:Value) (lo hi:Option Int) (sl:Addr) (Q:VK),Inv X pins σ H s->zbt x v->s.heap.IsSliceOf sl vl vu .none->IsPart vl lo->IsPart vu hi->r x lo hi H Q →
  ∃T id,typeLookup (.type T) "__getitem__" = pure (some (.builtin id))/\s.TypeIs v T/\wpAny (model X.prog X.w) X.A (getItem v (.ref sl)) (EP X pins σ Q) X.xe s
def tSl(r:V->Option Int->Option Int->Hp->VK->Prop)(te:TE)(tl th:TO):TE:=fun σ H Q=>te σ H fun x H1=>tl σ H1 fun l H2=>th σ H2 fun u H3=>r x l u H3 Q
theorem zl3{r:V->Option Int->Option Int->Hp->VK->Prop}(hr:SlR X r)(he:PE X e te)(hl:PO X lo tl)(hu:PO X hi th):PE X (.Subscript e (.Slice lo hi none p2) pos) (tSl r te tl th):=by
 intro pins s σ H Q I h;refine Subscript_ (thn (he pins s σ H _ I h) fun v s1 ⟨x,H1,I1,r1,q1⟩=>?_);refine wpAny_Slice (thn (hl pins s1 σ H1 _ I1 q1) fun vl s2 ⟨l,H2,I2,pl,q2⟩=>thn (hu pins s2 σ H2 _ I2 q2) fun vu s3 ⟨u,H3,I3,pu,q3⟩=>?_);rw [evalPart_none];refine wpAny_pure ?_;have I4:Inv X pins σ H3 { s3 with heap:=s3.heap.push { cls:=.type "slice",data:=.fields #[vl,vu,.none] } }:=I3.kept (t':=s3.toks) fun b ob q=>Heap.get?_push_of_some _ q
 obtain ⟨T,id,hT,ht,hg⟩:=hr pins { s3 with heap:=s3.heap.push { cls:=.type "slice",data:=.fields #[vl,vu,.none] } } σ H3 x v vl vu l u s3.heap.objs.size Q I4 r1 (Heap.IsSliceOf.new ..) pl pu q3;show wpAny (model X.prog X.w) X.A (subscriptTail e (.Slice lo hi none p2) v (.ref s3.heap.objs.size)) (EP X pins σ Q) X.xe { s3 with heap:=s3.heap.push { cls:=.type "slice",data:=.fields #[vl,vu,.none] } };exact tail_any (ops:=[.ref s3.heap.objs.size,v]) ht hT hg (by with_unfolding_all rfl)
def zno(xs:List V)(lo hi:Option Int):List V:=(xs.drop (HT.sIx xs.length 0 lo)).take (HT.sIx xs.length xs.length hi-HT.sIx xs.length 0 lo)
theorem zfc(xs:List V)(lo hi:Option Int):(zno xs lo hi).length<=xs.length:=by
 unfold zno;rw [List.length_take,List.length_drop];omega
def zwK(K:PySem.W.Frag):V->Option Int->Option Int->Hp->VK->Prop:=fun x lo hi H Q=>∃a xs,x=.ref a/\SqT K H a xs ∧
 ¬ (HT.sIx xs.length 0 lo=0/\HT.sIx xs.length xs.length hi=xs.length)/\∀p,H p=none->Q (.ref p) (upd H p (.tup (zno xs lo hi)))
theorem zpW:SlR X (zwK X.K):=by
 intro pins s σ H x v vl vu lo hi sl Q I rx hs pl pu h;obtain ⟨a,xs,rfl,hx,hw,q⟩:=h;cases rx;obtain ⟨its,r,ht,hz⟩:=I.tuple hx
 have hlen:its.toArray.size=xs.length:=by rw [List.size_toArray];exact r.length.symm
 refine ⟨"tuple",_,PyProof.Rows.slot_tuple_getitem.lookup,ht.typeIs,?_⟩;refine HT.zd8 ht hs pl pu (by rw [hlen];exact hw) ?_ (by rw [hlen];exact hz);rw [hlen];refine ⟨.ref s.heap.objs.size,_,I.laid (t':=s.toks) (o:=.tup (zno xs lo hi)) (fun b ob q=>Heap.get?_push_of_some _ q) (Nat.le_refl _) ?_,rfl,q _ (I.hok.fresh (Nat.le_refl _))⟩;exact ⟨Nat.le_trans (zfc xs lo hi) hz,_,(r.drop (HT.sIx xs.length 0 lo)).take (HT.sIx xs.length xs.length hi-HT.sIx xs.length 0 lo),IsTup.new _ _⟩
def zsW(K:PySem.W.Frag):R2:=fun x y H Q=>∃a b xs ys,x=.ref a/\y=.ref b/\SqT K H a xs/\SqT K H b ys/\xs≠[]/\xs.length+ys.length<=sizeLine ∧
 (ys=[]->Q (.ref a) H)/\(ys≠[]->∀p,H p=none->Q (.ref p) (upd H p (.tup (xs++ys))))
theorem Vals.nil_iff{xs:List V}{us:List Value}(r:Vals xs us):us=[]↔xs=[]:=by
 cases r with
 | nil=>simp
 | cons _ _=>simp
theorem zop:OpR X (binaryOp .Add) (zsW X.K):=by
 intro pins s σ H x y v u Q I rx ry h;obtain ⟨a,b,xs,ys,rfl,rfl,ha,hb,hx,hz,q1,q2⟩:=h;cases rx;cases ry;obtain ⟨its,r1,p1,_⟩:=I.tuple ha;obtain ⟨its2,r2,p2,_⟩:=I.tuple hb;refine HT.zo7 p1 p2 (fun z=>hx (r1.nil_iff.mp z)) (fun z=>⟨.ref a,H,I,rfl,q1 (r2.nil_iff.mp z)⟩) (fun z=>?_) (by rw [<-r1.length,<-r2.length];exact hz);refine ⟨.ref s.heap.objs.size,_,I.laid (t':=s.toks) (o:=.tup (xs++ys)) (fun b ob q=>Heap.get?_push_of_some _ q) (Nat.le_refl _) ?_,rfl,q2 (fun w=>z (r2.nil_iff.mpr w)) _ (I.hok.fresh (Nat.le_refl _))⟩;exact ⟨by rw [List.length_append];exact hz,_,r1.append r2,IsTup.new _ _⟩
end
end L2
namespace L2
open PySem PySem.Spec PyProof.Rows
def ixN(n:Nat)(i:Int):Option Nat:=if 0<=i then (if i<n then some i.toNat else none) else if -(n:Int)<=i then some (i+n).toNat else none
def atI{α:Type}(xs:List α)(i:Int):Option α:=(ixN xs.length i).bind fun j=>xs[j]?
theorem zoK{n:Nat}{i:Int}{j:Nat}(h:ixN n i=some j):seqIndex? i n=some j/\j<n/\-(n:Int)<=i/\i<n:=by
 unfold ixN at h
 by_cases h0:0<=i
 ·rw [if_pos h0] at h
  by_cases h1:i<n
  ·rw [if_pos h1] at h;have e:i.toNat=j:=Option.some.inj h;exact ⟨by rw [seqIndex_of h0 h1,e],by omega,by omega,h1⟩
  ·rw [if_neg h1] at h;cases h
 ·rw [if_neg h0] at h
  by_cases h1:-(n:Int)<=i
  ·rw [if_pos h1] at h;have e:(i+n).toNat=j:=Option.some.inj h;exact ⟨by rw [seqIndex_neg (by omega) h1,e],by omega,h1,by omega⟩
  ·rw [if_neg h1] at h;cases h
theorem zlu{α:Type}{xs:List α}{i:Int}{v:α}(h:atI xs i=some v):∃j,seqIndex? i xs.length=some j/\xs[j]?=some v/\j<xs.length/\-(xs.length:Int)<=i/\i<xs.length:=by
 unfold atI at h
 cases e:ixN xs.length i with
 | none=>rw [e] at h;cases h
 | some j =>
  rw [e] at h;obtain ⟨h1,h2,h3,h4⟩:=zoK e;exact ⟨j,h1,h,h2,h3,h4⟩
def zgo(b:Expr):Prop:=∀o i,subscripted b false o i=operate [o,i] (getItem o i)
def IxR(X:Cx)(r:R2):Prop :=
 ∀(value slice:Expr) (pins:Z3) (s:Shared) (σ:St) (H:Hp) (x y:V) (v u:Value) (Q:VK),Inv X pins σ H s->zbt x v->zbt y u->r x y H Q →
  subscripted slice false v u=operate [v,u] (getItem v u)->wpAny (model X.prog X.w) X.A (subscriptTail value slice v u) (EP X pins σ Q) X.xe s
def MtR(X:Cx)(id:String)(r:V->List V->Hp->VK->Prop):Prop :=
 ∀(pins:Z3) (s:Shared) (σ:St) (H:Hp) (x:V) (xs:List V) (v:Value) (us:List Value) (Q:VK),Inv X pins σ H s->zbt x v->Vals xs us->r x xs H Q →
  wpAny (model X.prog X.w) X.A (call (.builtin id) (v::us)) (EP X pins σ Q) X.xe s
section
variable{X:Cx}{a b:Expr}{ta tb:TE}{pos:Pos}
theorem zqE{r:R2}(hr:IxR X r)(ha:PE X a ta)(hb:PE X b tb)(hs:zgo b):PE X (.Subscript a b pos) (tOp r ta tb):=by
 intro pins s σ H Q I h;exact Subscript_ (ztJ ha hb I h fun v u s2 x y H2 I2 rx ry q=>hr a b pins s2 σ H2 x y v u Q I2 rx ry q (hs _ _))
def zwO(K:PySem.W.Frag):R2:=fun x y H Q=>∃p xs i v,x=.ref p/\y=.int i/\SqL K H p xs/\atI xs i=some v/\Q v H
def zwN(K:PySem.W.Frag):R2:=fun x y H Q=>∃p xs i v,x=.ref p/\y=.int i/\SqT K H p xs/\atI xs i=some v/\Q v H
theorem zkS:IxR X (zwO X.K):=by
 intro value slice pins s σ H x y v u Q I rx ry h hs;obtain ⟨p,xs,i,z,rfl,rfl,hq,he,q⟩:=h;cases rx;obtain ⟨t,rfl⟩:=ry;obtain ⟨its,r,pl,hz⟩:=I.list hq;obtain ⟨j,h1,h2,h3,h4,h5⟩:=zlu he;obtain ⟨w,ew,rw'⟩:=r.get h2;have hl:=r.length;have hn:=zix;have fin:EP X pins σ Q w s:=⟨z,H,I,rw',q⟩
 by_cases h0:0<=i
 ·have hj:i.toNat=j:=by
   rw [seqIndex_of h0 h5] at h1;exact Option.some.inj h1
  exact item_listR pl.isList h0 (by omega) (by rw [hj];simpa using ew) fin hs
 ·have hj:(i+(its.toArray.size:Int)).toNat=j:=by
   rw [seqIndex_neg (by omega) h4] at h1;rw [List.size_toArray,<-hl];exact Option.some.inj h1
  exact subscriptTail_builtinR (x:=w) pl.isList.typeIs slot_list_getitem.lookup
   (wpAny_getItem_list_neg (Q:=fun r s'=>r=w/\EP X pins σ Q r s') pl.isList (by omega) (by rw [List.size_toArray]<;>omega) (by omega) (by rw [hj];simpa using ew) ⟨rfl,fin⟩) hs
theorem zri:IxR X (zwN X.K):=by
 intro value slice pins s σ H x y v u Q I rx ry h hs;obtain ⟨p,xs,i,z,rfl,rfl,hq,he,q⟩:=h;cases rx;obtain ⟨t,rfl⟩:=ry;obtain ⟨its,r,pl,hz⟩:=I.tuple hq;obtain ⟨j,h1,h2,h3,h4,h5⟩:=zlu he;obtain ⟨w,ew,rw'⟩:=r.get h2;have hl:=r.length;have hn:=zix;have fin:EP X pins σ Q w s:=⟨z,H,I,rw',q⟩
 exact subscriptTail_builtinR (x:=w) pl.typeIs slot_tuple_getitem.lookup
  (getItem_tuple (j:=j) (Q:=fun r s'=>r=w/\EP X pins σ Q r s') pl (by omega) (by omega) (by rw [List.size_toArray,<-hl];exact h1) (by simpa using ew) ⟨rfl,fin⟩) hs
theorem zgA(lo hi:Option Int)(n:Nat):(sliceBounds lo hi none n).1=((HT.sIx n 0 lo:Nat):Int)/\(sliceBounds lo hi none n).2.1=((HT.sIx n n hi:Nat):Int)/\(sliceBounds lo hi none n).2.2=1:=by
 refine ⟨?_,?_,rfl⟩
 ·cases lo with
  | none=>simp [sliceBounds,HT.sIx]
  | some i =>
   simp only [sliceBounds,HT.sIx,Option.getD_none,show (1:Int) > 0 by decide,if_true]
   by_cases h:i<0
   ·simp only [h,if_true]<;>omega
   ·simp only [h,if_false]<;>omega
 ·cases hi with
  | none=>simp [sliceBounds,HT.sIx]
  | some i =>
   simp only [sliceBounds,HT.sIx,Option.getD_none,show (1:Int) > 0 by decide,if_true]
   by_cases h:i<0
   ·simp only [h,if_true]<;>omega
   ·simp only [h,if_false]<;>omega
theorem zfV(its:List Value)(lo hi:Option Int):slicePick its.toArray lo hi none=((its.drop (HT.sIx its.length 0 lo)).take (HT.sIx its.length its.length hi-HT.sIx its.length 0 lo)).toArray:=by
 obtain ⟨h1,h2,h3⟩:=zgA lo hi its.toArray.size;unfold slicePick;rw [h1,h2,h3]
 simp only [sliceRange_one,pick_run,List.size_toArray]<;>rfl
def zwL(K:PySem.W.Frag):V->Option Int->Option Int->Hp->VK->Prop:=fun x lo hi H Q=>∃a xs,x=.ref a/\SqL K H a xs/\∀p,H p=none->Q (.ref p) (upd H p (.lst (zno xs lo hi)))
theorem znQ:SlR X (zwL X.K):=by
 intro pins s σ H x v vl vu lo hi sl Q I rx hs pl pu h;obtain ⟨a,xs,rfl,hx,q⟩:=h;cases rx;obtain ⟨its,r,ht,hz⟩:=I.list hx;have hlen:=r.length;refine ⟨"list",_,slot_list_getitem.lookup,ht.isList.typeIs,?_⟩;refine wpAny_getItem_list_slice ht.isList hs pl pu .none (by simp) ?_ (by rw [List.size_toArray]<;>omega);rw [zfV,<-hlen];refine ⟨.ref s.heap.objs.size,_,I.laid (t':=s.toks) (o:=.lst (zno xs lo hi)) (fun b ob q=>Heap.get?_push_of_some _ q) (Nat.le_refl _) ?_,rfl,q _ (I.hok.fresh (Nat.le_refl _))⟩;exact ⟨Nat.le_trans (zfc xs lo hi) hz,_,0,(r.drop (HT.sIx xs.length 0 lo)).take (HT.sIx xs.length xs.length hi-HT.sIx xs.length 0 lo),Heap.get?_push_size _ rfl⟩
theorem zde:zd1 X (.builtin "len") (fun xs H Q=>∃p ys,xs=[.ref p]/\(SqL X.K H p ys\/SqT X.K H p ys)/\Q (.int ys.length) H):=by
 intro pins s σ H xs us Q I r h;obtain ⟨p,ys,rfl,hq,q⟩:=h;obtain ⟨u,rfl,rx⟩:=zgs r;cases rx;have hn:=zix
 rcases hq with hq | hq
 ·obtain ⟨its,r',pl,hz⟩:=I.list hq;have hlen:=r'.length;exact Calls.call_len_list pl.isList (by simp only [List.size_toArray]<;>omega) ⟨.int ys.length,H,I.tok _,⟨s.toks+1,by rw [List.size_toArray,hlen]⟩,q⟩
 ·obtain ⟨its,r',pl,hz⟩:=I.tuple hq;have hlen:=r'.length;exact len_tuple pl (by simp only [List.size_toArray]<;>omega) ⟨.int ys.length,H,I.tok _,⟨s.toks+1,by rw [List.size_toArray,hlen]⟩,q⟩
theorem zhe:zd1 X (.builtin "len") (fun xs H Q=>∃z,xs=[.str z]/\z.length<=sizeLine/\Q (.int z.length) H):=by
 intro pins s σ H xs us Q I r h;obtain ⟨z,rfl,hz,q⟩:=h;obtain ⟨u,rfl,t,rfl⟩:=zgs r;have hn:=zix;exact len_str (by omega) ⟨.int z.length,H,I.tok _,⟨_,rfl⟩,q⟩
theorem zeq:zd1 X (.type "list") (fun xs H Q=>∃p ys,xs=[.ref p]/\(SqL X.K H p ys\/SqT X.K H p ys)/\∀l,H l=none->Q (.ref l) (upd H l (.lst ys))):=by
 intro pins s σ H xs us Q I r h;obtain ⟨p,ys,rfl,hq,q⟩:=h;obtain ⟨u,rfl,rx⟩:=zgs r;cases rx
 have fin:∀(its:List Value),Vals ys its->ys.length<=sizeLine->∀(h':Heap) (c':Nat),(∀b o',s.heap.get? b=some o'->h'.get? b=some o') →
   h'.get? s.heap.objs.size=some { cls:=.type "list",dict:=none,data:=.seq its.toArray c',slots:=#[] }->EP X pins σ Q (.ref s.heap.objs.size) { s with heap:=h' }:=fun its r' hz h' c' kp e =>
  ⟨.ref s.heap.objs.size,_,I.laid (t':=s.toks) kp (Nat.le_refl _) (show zb5 X.prog X.w _ h' _ (.lst ys) from ⟨hz,its,c',r',e⟩),rfl,q _ (I.hok.fresh (Nat.le_refl _))⟩
 rcases hq with hq | hq
 ·obtain ⟨its,r',pl,hz⟩:=I.list hq;have hlen:=r'.length;obtain ⟨o,ho,hc,n,hd⟩:=pl.isList;exact call_list_seq p (.inl rfl) ho hc hd (fun h' c' kp e=>fin its r' hz h' c' kp e) (by simp only [List.size_toArray]<;>omega)
 ·obtain ⟨its,r',pl,hz⟩:=I.tuple hq;have hlen:=r'.length;obtain ⟨o,ho,hc,n,hd⟩:=pl;exact call_list_seq p (.inr rfl) ho hc hd (fun h' c' kp e=>fin its r' hz h' c' kp e) (by simp only [List.size_toArray]<;>omega)
theorem zdY:zd1 X (.type "tuple") (fun xs H Q=>∃p ys,xs=[.ref p]/\((SqL X.K H p ys/\∀l,H l=none->Q (.ref l) (upd H l (.tup ys)))\/(SqT X.K H p ys/\Q (.ref p) H))):=by
 intro pins s σ H xs us Q I r h;obtain ⟨p,ys,rfl,h⟩:=h;obtain ⟨u,rfl,rx⟩:=zgs r;cases rx
 rcases h with ⟨hq,q⟩ | ⟨hq,q⟩
 ·obtain ⟨its,r',pl,hz⟩:=I.list hq;have hlen:=r'.length;refine call_tuple_list pl.isList (fun h' kp=>?_) (by simp only [List.size_toArray]<;>omega);have I1:Inv X pins σ H { s with heap:=h' }:=I.kept (t':=s.toks) kp
  have I2:Inv X pins σ (upd H h'.objs.size (.tup ys)) { s with heap:=h'.push { cls:=.type "tuple",data:=.seq its.toArray } } :=
   I1.laid (t':=s.toks) (fun b o e=>Heap.get?_push_of_some _ e) (Nat.le_refl _) (show zb5 X.prog X.w _ _ _ (.tup ys) from ⟨hz,its,r',IsTup.new _ _⟩)
  exact ⟨.ref h'.objs.size,_,I2,rfl,q _ (I1.hok.fresh (Nat.le_refl _))⟩
 ·obtain ⟨its,r',pl,hz⟩:=I.tuple hq;exact call_tuple_same pl ⟨.ref p,H,I,rfl,q⟩
def tyV(K:PySem.W.Frag)(T:String)(x:V)(H:Hp):Prop:=match x with
 | .str _=>T = "str"
 | .int _=>T = "int"
 | .ref p=>(T = "list" /\ ∃xs,SqL K H p xs)\/(T = "tuple" /\ ∃o,K.lookup p=some o/\o.cls=.type "tuple" /\ o.dict=none) ∨
   (T = "dict" /\ ((∃kvs,H p=some (.dK kvs))\/∃kvs,H p=some (.dT kvs)))\/(T = "set" /\ ∃S n,H p=some (.set S n))
 | _=>False
theorem zpw{pins:Z3}{σ:St}{H:Hp}{s:Shared}{T:String}{x:V}{v:Value}(I:Inv X pins σ H s)(r:zbt x v)(ty:tyV X.K T x H) :
  s.TypeIs v T/\∀a,v=.ref a->∃ob,s.heap.get? a=some ob/\ob.dict=none:=by
 cases x with
 | str z =>
  obtain ⟨t,rfl⟩:=r;cases (show T = "str" from ty);exact ⟨typeIs_str s z t,fun _ e=>nomatch e⟩
 | int i =>
  obtain ⟨t,rfl⟩:=r;cases (show T = "int" from ty);exact ⟨typeIs_int s i t,fun _ e=>nomatch e⟩
 | ref p =>
  cases r
  rcases ty with ⟨rfl,xs,hq⟩ | ⟨rfl,o,hk,hc,hd⟩ | ⟨rfl,hk⟩ | ⟨rfl,S,n,hk⟩
  ·obtain ⟨its,_,pl,_⟩:=I.list hq;refine ⟨pl.isList.typeIs,fun a e=>?_⟩;cases e;obtain ⟨o,n,e,c,hd,_⟩:=pl;exact ⟨o,e,hd⟩
  ·refine ⟨⟨o,I.kIn p o hk,hc⟩,fun a e=>?_⟩;cases e;exact ⟨o,I.kIn _ o hk,hd⟩
  ·have z:∃o,s.heap.get? p=some o/\o.ExactDict:=by
    rcases hk with ⟨kvs,hk⟩ | ⟨kvs,hk⟩
    ·obtain ⟨_,_,_,_,o,_,_,e,ex,_⟩:=I.hok p _ hk;exact ⟨o,e,ex⟩
    ·obtain ⟨_,_,_,_,o,_,_,e,ex,_⟩:=I.hok p _ hk;exact ⟨o,e,ex⟩
   obtain ⟨o,e,ex⟩:=z;refine ⟨⟨o,e,ex.1⟩,fun a e2=>?_⟩;cases e2;exact ⟨o,e,ex.2.1⟩
  ·obtain ⟨o,_,_,_,e,ex,_⟩:=I.hok p _ hk;refine ⟨⟨o,e,ex.1⟩,fun a e2=>?_⟩;cases e2;exact ⟨o,e,ex.2.1⟩
 | _=>exact False.elim ty
def tBM(K:PySem.W.Frag)(T:String)(r:V->List V->Hp->VK->Prop)(to:TE)(t:TA):TE:=fun σ H Q=>to σ H fun x H1=>tyV K T x H1/\t σ H1 fun xs H2=>r x xs H2 Q
variable{o e:Expr}{es:List Expr}{to:TE}{t:TA}{name:Str}{apos cpos:Pos}{T id:String}{r:V->List V->Hp->VK->Prop}
theorem zs3(pa:PlainAttrs T)(slot:Slot T name id)(hty:typeOf (.builtin id)=pure (.type "method_descriptor"))(hm:MtR X id r)(ho:PE X o to)(ha:PA X (e::es) t)
  (hbase:attributeBase o name X.env (eval o X.env)=eval o X.env:=by rfl)
  (hfew:((backTo cpos (starEach (e::es) X.env)).all (fun x=>!x.1)&&(backToKw cpos (keywordEach [] X.env)).all (fun x=>x.1.isSome)
   && decide ((e::es).length+([]:List Keyword).length+(if ([]:List Keyword).isEmpty then 0 else 1)<30))=true:=by rfl)
  (hline:(apos.endLine == cpos.line)=true:=by rfl) (hs:starEach (e::es) X.env=(false,eval e X.env)::starEach es X.env:=by rfl) (hplain:(backTo cpos (starEach es X.env)).any (·.1)=false:=by rfl) :
  PE X (.Call (.Attribute o name apos) (e::es) [] cpos) (tBM X.K T r to t):=by
 intro pins s σ H Q I h;refine wpAny_Call_method_late hbase hfew hline rfl (thn (ho pins s σ H _ I h) fun v s1 ⟨x,H1,I1,r1,ty,q1⟩=>?_);obtain ⟨h1,h2⟩:=zpw I1 r1 ty;refine ⟨T,id,pa,slot,hty,h1,h2,?_⟩;have hA:=ha cpos pins s1 σ H1 _ I1 q1;rw [hs] at hA ⊢;refine Calls.callWith_builtin (by show (false||(backTo cpos (starEach es X.env)).any (·.1))=false;rw [hplain]<;>rfl) (Calls.evalArgs_plain ?_);exact thn hA fun us s2 ⟨vs,H2,I2,r2,q2⟩=>hm pins s2 σ H2 x vs v us Q I2 r1 r2 q2
end
end L2
namespace L2
open PySem PySem.Spec PyProof.Rows
def MtM(X:Cx)(id:String)(r:V->List V->Hp->VK->Prop):Prop :=
 ∀(pins:Z3) (s:Shared) (σ:St) (H:Hp) (x:V) (xs:List V) (v:Value) (us:List Value) (Q:VK),Inv X pins σ H s->zbt x v->Vals xs us->r x xs H Q →
  wpAny (model X.prog X.w) X.A (call (.builtin id) (v::us)) (EP X pins σ Q) X.xe s
theorem Vals.one:∀{x:V} {us:List Value},Vals [x] us->∃u,us=[u]/\zbt x u
 | _,_,.cons r .nil=>⟨_,rfl,r⟩
theorem Vals.rep{xs:List V}{us:List Value}(h:Vals xs us):∀k:Nat,Vals (List.replicate k xs).flatten (List.replicate k us).flatten
 | 0=>.nil
 | k+1=>by
  rw [List.replicate_succ,List.replicate_succ,List.flatten_cons,List.flatten_cons];exact Vals.append h (Vals.rep h k)
theorem ze7(its:List Value):∀(k:Nat) (acc:List Value),
  List.foldl (fun x1 x2=>x1++x2) acc.toArray (List.replicate k its.toArray)=(acc++(List.replicate k its).flatten).toArray
 | 0,acc=>by simp
 | k+1,acc=>by
  have e:acc.toArray++its.toArray=(acc++its).toArray:=by simp
  have e2:(acc++its)++(List.replicate k its).flatten=acc++(List.replicate (k+1) its).flatten:=by
   rw [List.replicate_succ,List.flatten_cons,List.append_assoc]
  rw [<-e2,<-ze7 its k (acc++its),<-e,List.replicate_succ,List.foldl_cons]
section
variable{X:Cx}{pins:Z3}{σ:St}{H:Hp}{s:Shared}{l b:Addr}{xs ys zs:List V}
theorem Inv.lset{its its':List Value}{n:Nat}{f:Array Value->Array Value}{t':Nat}(I:Inv X pins σ H s)(hH:H l=some (.lst xs))
  (e:s.heap.get? l=some { cls:=.type "list",data:=.seq its.toArray n }) (hf:f its.toArray=its'.toArray) (hv:Vals ys its') (hz:ys.length<=sizeLine) :
  Inv X pins σ (upd H l (.lst ys)) { s with heap:=s.heap.update l (Obj.mapSeq f),toks:=t' }:=by
 have q:=PySem.IsL.update e f;rw [hf] at q;refine I.write (x:=l) (e:=l) (by rw [hH];exact trivial) (.inl rfl) (fun b' u hb hu=>(Heap.get?_update_other s.heap (Obj.mapSeq f) (Ne.symm hb)).trans hu) ⟨_,q⟩ ?_;exact ⟨hz,its',_,hv,q⟩
theorem Inv.lnew{its:List Value}{t':Nat}(I:Inv X pins σ H s)(hv:Vals ys its)(hz:ys.length<=sizeLine) :
  Inv X pins σ (upd H s.heap.objs.size (.lst ys)) { s with heap:=s.heap.push { cls:=.type "list",data:=.seq its.toArray },toks:=t' } :=
 I.laid (fun _ _ q=>Heap.get?_push_of_some _ q) (Nat.le_refl _) ⟨hz,its,0,hv,Heap.get?_push_size _ rfl⟩
theorem Inv.fresh(I:Inv X pins σ H s):H s.heap.objs.size=none:=I.hok.fresh (Nat.le_refl _)
theorem Inv.lstM(I:Inv X pins σ H s)(hH:H l=some (.lst xs)):xs.length<=sizeLine/\∃(its:List Value) (n:Nat),Vals xs its/\xs.length=its.length/\s.heap.get? l=some { cls:=.type "list",data:=.seq its.toArray n }:=by
 obtain ⟨z,its,n,r,e⟩:=I.hok l _ hH;exact ⟨z,its,n,r,r.length,e⟩
theorem zmf{n:Nat}(h:n<=sizeLine):Builtin.List.listTooLong n=false:=by
 unfold Builtin.List.listTooLong;exact decide_eq_false (by omega)
end
section
variable{X:Cx}
def zn7:V->List V->Hp->VK->Prop:=fun x vs H Q=>∃l xs y,x=.ref l/\vs=[y]/\H l=some (.lst xs)/\xs.length<sizeLine/\Q .non (upd H l (.lst (xs++[y])))
theorem zky:MtM X "list.append" zn7:=by
 intro pins s σ H x vs v us Q I rx rv h;obtain ⟨l,xs,y,rfl,rfl,hH,hz,q⟩:=h;cases rx;obtain ⟨u,rfl,ru⟩:=rv.one;obtain ⟨z,its,n,r,hl,e⟩:=I.lstM hH;refine call_meets F.slot_list_append ⟨_,e,rfl⟩ F.entry_list_append (F.args_list_append_2 _ _) (PySem.list_append l its.toArray n u (by rw [List.size_toArray];omega)) ⟨e,?_⟩;refine ⟨.non,_,I.lset (its':=its++[u]) hH e (by simp) (r.append (.cons ru .nil)) ?_,rfl,q⟩;rw [List.length_append,List.length_singleton];omega
def zwP:R2:=fun x y H Q=>∃l b xs zs,x=.ref l/\y=.ref b/\H l=some (.lst xs)/\H b=some (.lst zs)/\xs.length+zs.length<=sizeLine/\∀p,H p=none->Q (.ref p) (upd H p (.lst (xs++zs)))
theorem zqN:OpR X (binaryOp .Add) zwP:=by
 intro pins s σ H x y v u Q I rx ry h;obtain ⟨l,b,xs,zs,rfl,rfl,hH,hB,hz,q⟩:=h;cases rx;cases ry;obtain ⟨z,its,n,r,hl,e⟩:=I.lstM hH;obtain ⟨z2,its2,n2,r2,hl2,e2⟩:=I.lstM hB;refine PySem.P.add_list e e2 ?_ (by rw [List.size_toArray,List.size_toArray];omega)
 have ea:its.toArray++its2.toArray=(its++its2).toArray:=by simp
 rw [ea];exact ⟨.ref _,_,I.lnew (t':=s.toks) (r.append r2) (by rw [List.length_append];omega),rfl,q _ I.fresh⟩
def zwM:R2:=fun x y H Q=>∃l k xs,x=.ref l/\y=.int k/\H l=some (.lst xs)/\-(2 ^ 63)<=k/\k<2 ^ 63/\xs.length*k.toNat<=sizeLine ∧
 ∀p,H p=none->Q (.ref p) (upd H p (.lst (List.replicate k.toNat xs).flatten))
theorem zhE{α:Type}(xs:List α)(k:Nat):(List.replicate k xs).flatten.length=k*xs.length:=by
 induction k with
 | zero=>simp
 | succ k ih=>rw [List.replicate_succ,List.flatten_cons,List.length_append,ih,Nat.succ_mul,Nat.add_comm]
theorem zm4:OpR X (binaryOp .Mult) zwM:=by
 intro pins s σ H x y v u Q I rx ry h;obtain ⟨l,k,xs,rfl,rfl,hH,h1,h2,hz,q⟩:=h;cases rx;obtain ⟨t,rfl⟩:=ry;obtain ⟨z,its,n,r,hl,e⟩:=I.lstM hH
 have hlen:its.toArray.size*k.toNat<=sizeLine:=by rw [List.size_toArray,<-hl];exact hz
 have hcap:¬ its.toArray.size*k.toNat > (2 ^ 63-1) / 8:=by
  have:(sizeLine:Nat)<=(2 ^ 63-1) / 8:=by decide
  omega
 have hfit:¬ (!Builtin.List.listFitsIndex k)=true:=by
  rw [fitsIndex_both h1 h2];exact Bool.false_ne_true
 have hlong:¬ Builtin.List.listTooLong (its.toArray.size*k.toNat)=true:=by
  rw [zmf hlen];exact Bool.false_ne_true
 have hnew:List.foldl (fun x1 x2=>x1++x2) #[] (List.replicate (if its.toArray.isEmpty=true then 0 else k.toNat) its.toArray)=(List.replicate k.toNat its).flatten.toArray:=by
  have f0:∀m:Nat,List.foldl (fun x1 x2=>x1++x2) #[] (List.replicate m its.toArray)=(List.replicate m its).flatten.toArray:=fun m=>by
   have:=ze7 its m [];rw [List.nil_append] at this;exact this
  rw [f0]
  cases its with
  | nil=>simp
  | cons a r'=>rw [if_neg (by simp)]
 refine wpAny_binaryOp_repeat_ref (T:="list") (U:="int") (by decide) ⟨_,e,rfl⟩ (fun s'=>typeIs_int s' k t) noFill_list_mul F.fills_int_mul F.slot_int_rmul repeat_list F.slot_int_index.lookup
  (call_meets F.slot_int_rmul (typeIs_int s k t) F.entry_int_rmul (F.args_int_rmul_2 _ _) (int___rmul___int_list k t l its.toArray n)
   ⟨e,rfl,⟨_,e,rfl⟩,call_meets F.slot_list_mul ⟨_,e,rfl⟩ F.entry_list_mul (F.args_list_mul_2 _ _) (AutoListH.list___mul___list_int_3 l its.toArray n k t hfit hcap hlong) ⟨e,?_⟩⟩)
 rw [hnew];exact ⟨.ref _,_,I.lnew (t':=s.toks) (r.rep k.toNat) (by rw [zhE,Nat.mul_comm];exact hz),rfl,q _ I.fresh⟩
end
section
variable{prog:Program}{w:World}{A:Around}{E:Z5}{s:Shared}
end
section
variable{X:Cx}
end
end L2
namespace Att
open PySem PySem.W PySem.Calls PyProof.Rows
theorem ze5{P:Params}{h:Heap}:∀(ns:List Int) (vs:List Value),WellAll P h vs (ns.map WData.int)->IntsAre vs ns:=by
 intro ns
 induction ns with
 | nil =>
  intro vs w;rw [List.map_nil] at w;cases w;exact .nil
 | cons n ns ih =>
  intro vs w;rw [List.map_cons] at w
  cases w with
  | cons a b =>
   cases a;exact .cons _ _ (ih _ b)
theorem zj4{l:OpenLaw}{n:Nat}(hn:l.most=some n){P:Params}{h:Heap}{args:List WData}{vals:List Value}
  (hpre:l.row.toRowW.claim.pre args=true) (hwl:WellAll P h vals args) :
  ∃a vs ns,vals=[Value.ref a]/\args=[WData.list (ns.map WData.int)]/\h.get? a=some { cls:=.type "list",data:=.seq vs.toArray }/\IntsAre vs ns/\ns.length<=n:=by
 have hsh:WShape.hasAll [] args [.list .int]=true:=(pre_splitW hpre).1;have hc:l.pre.holds [] { args:=args }=true:=(pre_splitW hpre).2;obtain ⟨d,r,rfl,h1,h2⟩:=hasAllW_cons hsh;obtain rfl:=hasAllW_nil h2;obtain ⟨xs,rfl,h3⟩:=hasW_list h1;obtain ⟨ns,rfl⟩:=items_int h3
 have hlen:ns.length<=n:=by
  unfold OpenLaw.pre at hc
  have h4:(WTm.not (.lt (.lit (.int (n:Int))) (.len (.arg 0)))).holds [] { args:=[.list (ns.map .int)] }=true:=by
   have h4:=(holds_andW hc).1;rw [hn] at h4;exact h4
  have h5:=condW_of h4 (w_not (w_lt w_lit (w_len_list (w_arg rfl))));rw [List.length_map] at h5;refine Nat.le_of_not_lt fun q=>?_
  have q':(n:Int)<((ns.length:Nat):Int):=by omega
  first
   | (rw [decide_eq_true q'] at h5;exact absurd h5 (by decide))
   | (simp at h5;omega)
 cases hwl with
 | cons w1 w2 =>
  cases w2
  cases w1 with
  | list ho hall=>exact ⟨_,_,ns,rfl,rfl,ho,ze5 ns _ hall,hlen⟩
theorem zkh(l:OpenLaw)(args:List WData):l.row.toRowW.claim.post args (.bool true) args=true :=
 postW_of (r:=l.row.toRowW) (X:=(true == true))
  (show WShape.has [] (.bool true) .bool=true by first | rfl | decide | simp [WShape.has,WShape.arms,WShape.armsAll])
  (show (WTm.eq .res (.lit (.bool true))).value [] { args:=args,res:=some (.bool true),after:=args }=some (.bool (true == true)) from w_eq_bool (w_res rfl) w_lit) rfl
theorem zhX{l:OpenLaw}{n:Nat}{q:Program}{loose:List Str}{XP:(Str->Option Value)->Heap->Prop}{YP:World->Heap->Prop}{d:DefRec}
  (hn:l.most=some n) (hdf:d.params.defaults=[])
  (call:∀(w:World) (s₀ s₁:Shared) (mg mb:Z6) (fa:Addr) (o:Obj) (pm cd doc:Value) (a:Addr) (vs:List Value) (ns:List Int),
   Ground q loose [] XP w s₀ mg mb s₁.heap->YP w s₁.heap →
   s₁.heap.get? fa=some o->o.data=.func (docDef d.name d.params d.body d.scope pm cd doc)->s₁.heap.CodeRec cd d.name->mg d.name=some (.ref fa) →
   s₁.heap.get? a=some { cls:=.type "list",data:=.seq vs.toArray }->IntsAre vs ns->ns.length<=n->s₁.gens=#[] →
   codeAny (model l.prog w) callerA (.call (.ref fa) ⟨[.ref a],[]⟩) (fun r s'=>r=.ok (.ret (.bool true))/\OldK s₁.heap s'.heap/\s'.os=s₁.os/\AllBare s'.gens) s₁) :
  WalkO q loose XP YP l.row.toRowW d [] (fun f vs=>PySem.call f vs):=by
 intro w s₀ s₁ mg mb G Y fa o pm cd doc dV kV ho hd hcd hD hmg hg args vals as hpre hlay hrd hwl hlo;obtain rfl:dV=.none:=Dflts.none hD hdf;obtain rfl:kV=.none:=Dflts.noKw hD;obtain ⟨a,vs,ns,rfl,rfl,hobj,hints,hlen⟩:=zj4 hn hpre hwl;refine enter_call (codeAny_mono (call w s₀ s₁ mg mb fa o pm cd doc a vs ns G Y ho (fd_plain hd) hcd hmg hobj hints hlen hg) fun r s' hq=>?_);obtain ⟨rfl,h2,h3,h4⟩:=hq;exact ⟨.inl ⟨.bool true,.bool true,[],rfl,fun _=>rfl,.bool true,zkh l _,fun _=>⟨List.Pairwise.nil,fun _ hm=>(nomatch hm)⟩⟩,h2,h3,h4⟩
section
variable{prog:Program}{w:World}{A:Around}{E:Z5}{s:Shared}{K:Frag}
end
end Att
namespace L2
open PySem PySem.Spec PyProof.Rows
theorem zgr:∀{vs:List Value} {ns:List Int},IntsAre vs ns->Vals (ns.map V.int) vs
 | _,_,.nil=>.nil
 | _,_,.cons n t h=>.cons ⟨t,rfl⟩ (zgr h)
def zsh(H:Hp):Prop:=∀b,H b=none\/∃o xs,H b=some (.frz o (.lst xs))
theorem zmp{P:Program}{w:World}{K:PySem.W.Frag}{mg mb:Z6}{CX:CXT}{k:Nat}{fa a:Addr}{fd:FuncData}{x:Str}{sp:Sp}{s₁:Shared}{vs:List Value}{ns:List Int}
  (KX:K.In s₁.heap) (hns:s₁.heap.Ns mainGlobals mg) (hb:s₁.heap.Ns builtinsNs mb) (hbb:∀x:Str,x ≠ "__name__" -> mb x=bootBuiltins x) (hlim:s₁.heap.NoLimit) (hg:s₁.gens=#[])
  (ha:s₁.heap.get? a=some { cls:=.type "list",data:=.seq vs.toArray }) (hi:IntsAre vs ns) (hl:ns.length<=sizeLine) (hr:Room k callerA)
  (F:∀base:Heap,K.In base->base.Ns mainGlobals mg->FnOk P w K mg base CX k fa fd [x] sp) (hbind:∀(s:Shared) (u:Value),BindsTo s fd ⟨[u],[]⟩ [(x,u)])
  (hsp:∀H:Hp,zsh H->SqL K H a (ns.map V.int)->sp [.ref a] H (fun v _=>v=.bl true) fun _ _ _=>False)
  (hCX:∀H e s',CX [] H s₁ (fun _ _ _=>False) e s'->False) :
  codeAny (model P w) callerA (.call (.ref fa) ⟨[.ref a],[]⟩) (fun r s'=>r=.ok (.ret (.bool true))/\OldK s₁.heap s'.heap/\s'.os=s₁.os/\AllBare s'.gens) s₁:=by
 have rv:=zgr hi;have lenV:=hi.length
 have core:∀H:Hp,zsh H->SqL K H a (ns.map V.int)->HOk P w H s₁.heap->(∀b,H b≠none->b=a)->(H a≠none->K.lookup a=none) →
   codeAny (model P w) callerA (.call (.ref fa) ⟨[.ref a],[]⟩) (fun r s'=>r=.ok (.ret (.bool true))/\OldK s₁.heap s'.heap/\s'.os=s₁.os/\AllBare s'.gens) s₁:=by
  intro H hO hS hok hA hK;have zdH:∀{b:Addr} {o:Obj},s₁.heap.get? b=some o->H b=none->(zmv s₁.heap H).get? b=some o:=fun e n=>zmu e n
  have noA:∀{b:Addr} {o:Obj} {es:Array DictEntry} {ep:Nat},s₁.heap.get? b=some o->o.data=.dict es ep->H b=none:=fun {b o es ep} e d=>by
   cases q:H b with
   | none=>rfl
   | some u =>
    have e':b=a:=hA b (by rw [q];simp);subst e';rw [ha] at e;cases e;have d':Data.seq vs.toArray _=Data.dict es ep:=d;cases d'
  have nsK:∀{b:Addr} {m:Z6},s₁.heap.Ns b m->(zmv s₁.heap H).Ns b m:=fun {b m} ⟨o,es,ep,e,d,r⟩=>⟨o,es,ep,zdH e (noA e d),d,r⟩
  have hKb:K.In (zmv s₁.heap H):=fun b o e=>zdH (KX b o e) (by
   cases q:H b with
   | none=>rfl
   | some u =>
    have e':b=a:=hA b (by rw [q];simp);subst e'
    rw [hK (by rw [q];simp)] at e;cases e)
  have hM:Mod K mg (zmv s₁.heap H):=⟨hKb,nsK hns,⟨mb,nsK hb,hbb⟩,let ⟨mc,h1,h2⟩:=hlim;⟨mc,nsK h1,h2⟩⟩;have e0:Env0 P w K mg (zmv s₁.heap H) callerA [] s₁ H:=⟨rfl,hM,fun b o e=>zor e,Nat.le_of_eq (zk0 _ _),trivial,fun b hb=>absurd (show b∈([]:List Addr) from hb) (by simp),hok,.of_eq hg⟩;refine codeAny_mono ((F _ hKb (nsK hns)).run callerA [] s₁ H ⟨[.ref a],[]⟩ [.ref a] [.ref a] _ _ hr e0 (hbind s₁ (.ref a)) (.cons rfl .nil) (hsp H hO hS)) fun r s' h=>?_
  cases r with
  | error e=>exact (hCX H e s' h).elim
  | ok fl =>
   cases fl with
   | next=>exact False.elim h
   | brk=>exact False.elim h
   | cont=>exact False.elim h
   | ret u =>
    obtain ⟨v,H',os,bare,un,hok',r',q⟩:=h;have q':v=.bl true:=q;subst q';obtain rfl:u=Value.bool true:=r';refine ⟨rfl,OldK.of_keep fun b o e=>?_,os,bare⟩
    cases q:H b with
    | none=>exact un.keep b o e q (by intro z;exact absurd (show b∈([]:List Addr) from z) (by simp)) (by simp)
    | some u =>
     rcases hO b with z | ⟨ob,xs,z⟩
     ·rw [q] at z;cases z
     ·have z2:=un.frzs b ob _ z;obtain ⟨e1,_⟩:=hok b _ z;obtain ⟨e2,_⟩:=hok' b _ z2;rw [e] at e1;cases e1;exact e2
 cases hk:K.lookup a with
 | some o =>
  have e:=KX a o hk;rw [ha] at e;cases e;refine core (fun _=>none) (fun _=>.inl rfl) (.inr ⟨_,vs.toArray,_,hk,rfl,rfl,rfl,by rw [List.size_toArray,lenV];exact hl,by simpa using rv⟩) (fun b u z=>by have z':(none:Option HO)=some u:=z;cases z') (fun b z=>absurd rfl z) fun z=>absurd rfl z
 | none =>
  refine core (fun b=>if b=a then some (.frz { cls:=.type "list",data:=.seq vs.toArray } (.lst (ns.map V.int))) else none) (fun b=>?_) (.inl (.inr ⟨{ cls:=.type "list",data:=.seq vs.toArray },if_pos rfl⟩)) (fun b u z=>?_) (fun b z=>?_) fun _=>hk
  ·by_cases hb:b=a
   ·exact .inr ⟨_,_,if_pos hb⟩
   ·exact .inl (if_neg hb)
  ·by_cases hb:b=a
   ·have z':=(if_pos hb).symm.trans z;cases z';subst hb;exact ⟨ha,by rw [List.length_map];exact hl,vs,_,rv,ha⟩
   ·have z':=(if_neg hb).symm.trans z;cases z'
  ·by_cases hb:b=a
   ·exact hb
   ·exact absurd (if_neg hb) z
end L2
namespace L2
open PySem PySem.Spec PyProof.Rows
theorem znx{l:PySem.W.OpenLaw}{n k:Nat}{q:Program}{loose:List Str}{XP:(Str->Option Value)->Heap->Prop}{YP:World->Heap->Prop}{d:DefRec}{K:Params->PySem.W.Frag}{CX:World->CXT}{sp:World->Sp}{x:Str}
  (hn:l.most=some n) (hn2:n<=sizeLine) (hdf:d.params.defaults=[]) (hr:Room k callerA)
  (hY:∀(w:World) (h:Heap),YP w h->(K w.params).In h)
  (F:∀(w:World) (mg:Z6) (fa:Addr) (h:Heap),(K w.params).In h->h.Ns mainGlobals mg->mg d.name=some (.ref fa) →
   ∃fd:FuncData,(∀(s:Shared) (u:Value),BindsTo s fd ⟨[u],[]⟩ [(x,u)]) ∧
    ∀base:Heap,(K w.params).In base->base.Ns mainGlobals mg->FnOk l.prog w (K w.params) mg base (CX w) k fa fd [x] (sp w))
  (hsp:∀(w:World) (H:Hp) (a:Addr) (ns:List Int),ns.length<=n->zsh H->SqL (K w.params) H a (ns.map V.int)->sp w [.ref a] H (fun v _=>v=.bl true) fun _ _ _=>False)
  (hCX:∀(w:World) (H:Hp) (s:Shared) (e:Value) (s':Shared),CX w [] H s (fun _ _ _=>False) e s'->False) :
  PySem.W.WalkO q loose XP YP l.row.toRowW d [] (fun f vs=>PySem.call f vs):=by
 refine Att.zhX hn hdf fun w s₀ s₁ mg mb fa o pm cd doc a vs ns G Y ho hd hcd hmg hobj hints hlen hg=>?_
 have KX:=hY w _ Y;obtain ⟨fd,hb,hF⟩:=F w mg fa _ KX G.T.g hmg;exact zmp KX G.T.g G.T.b G.T.builtins G.T.nolimit hg hobj hints (Nat.le_trans hlen hn2) hr hF hb (fun H hO hS=>hsp w H a ns hlen hO hS) fun H e s'=>hCX w H s₁ e s'
end L2
namespace L2
open PySem PySem.Spec PyProof.Rows
def zbH(s:Stmt):Arguments:=match s with
 | .FunctionDef _ a _ _ _ _ _ _ _ _=>a
 | _=>{ posonlyargs:=[],args:=[],vararg:=none,kwonlyargs:=[],kw_defaults:=[],kwarg:=none,defaults:=[] }
def zbs(s:Stmt):List Stmt:=match s with
 | .FunctionDef _ _ b _ _ _ _ _ _ _=>b
 | _=>[]
def zaa(s:Stmt):Scope:=match s with
 | .FunctionDef _ _ _ _ _ _ sc _ _ _=>sc
 | _=>{ kind:=.function,names:=[],isGenerator:=false,isCoroutine:=false }
structure Fun(K:PySem.W.Frag)(x qual:Str)(st:Stmt)(f:Addr)(fd:FuncData):Prop where
 ex:∃(oc:Value) (od:Option Addr) (kV doc pm:Value) (an:Option Addr) (cdv ct:Value) (osl:Array (Option Value)),
  fd=PySem.W.fnOf x qual (zbH st) (zbs st) (zaa st) .none kV doc pm an cdv ct/\K.lookup f=some ⟨oc,od,.func fd,osl⟩/\PySem.W.codeIn K cdv qual=true
 kp:PySem.W.keepIn K (.ref f)=true
section
variable{P:Program}{w:World}{K:PySem.W.Frag}{mg:Z6}{base:Heap}
theorem Fun.binds{x qual:Str}{st:Stmt}{f:Addr}{fd:FuncData}{ps:List Str}(F:Fun K x qual st f fd)
  (h:∀(kV doc pm:Value) (an:Option Addr) (cdv ct:Value) (us:List Value),us.length=ps.length->bindArgs (PySem.W.fnOf x qual (zbH st) (zbs st) (zaa st) .none kV doc pm an cdv ct) ⟨us,[]⟩=pure (ps.zip us)):zbJ K fd ps []:=by
 obtain ⟨oc,od,kV,doc,pm,an,cdv,ct,osl,rfl,lk,hcd⟩:=F.ex;exact .all (h kV doc pm an cdv ct)
theorem zni{x qual:Str}{st:Stmt}{f:Addr}{oc:Value}{od an:Option Addr}{osl:Array (Option Value)}{kV doc pm cdv ct:Value}(l:K.lookup f=some ⟨oc,od,.func (PySem.W.fnOf x qual (zbH st) (zbs st) (zaa st) .none kV doc pm an cdv ct),osl⟩)
  (c:PySem.W.codeIn K cdv qual=true) (k:PySem.W.keepIn K (.ref f)=true):Fun K x qual st f (PySem.W.fnOf x qual (zbH st) (zbs st) (zaa st) .none kV doc pm an cdv ct):=⟨⟨oc,od,kV,doc,pm,an,cdv,ct,osl,rfl,l,c⟩,k⟩
end
section
variable{X:Cx}
end
theorem znc{A B:Prop}(h:B):if false=true then A else B:=by
 rw [if_neg Bool.false_ne_true];exact h
theorem znb{A B:Prop}(h:A):if true=true then A else B:=by
 rw [if_pos rfl];exact h
end L2
namespace L2
open PySem PySem.Spec PyProof.Rows
theorem zjt{scope:Scope}{env:Env}(h:∀y∈scope.names,y.2=.free->∃c,env.cells.lookup y.1=some c) :
  ∃cl,closureFor scope env=pure cl/\(∀y c,cl.lookup y=some c->env.cells.lookup y=some c)/\∀y,(y,NameKind.free)∈scope.names->∃c,cl.lookup y=some c:=by
 unfold closureFor
 have key:∀(l:List (Str×NameKind)) (cs:List (Str×Addr)),(∀y∈l,y.2=.free->∃c,env.cells.lookup y.1=some c)->(∀y c,cs.lookup y=some c->env.cells.lookup y=some c) →
   ∃cl,(forIn l cs fun (x:Str×NameKind) (r:List (Str×Addr))=>(if (x.2 == NameKind.free)=true then (do let c ← cellOf env x.1;pure (ForInStep.yield ((x.1,c)::r))) else pure (ForInStep.yield r):Sem (ForInStep (List (Str×Addr)))))=pure cl ∧
    (∀y c,cl.lookup y=some c->env.cells.lookup y=some c)/\(∀y,(y,NameKind.free)∈l->∃c,cl.lookup y=some c)/\(∀y c,cs.lookup y=some c->∃c',cl.lookup y=some c'):=by
  intro l
  induction l with
  | nil=>intro cs _ hc;exact ⟨cs,rfl,hc,fun y hy=>by simp at hy,fun y c e=>⟨c,e⟩⟩
  | cons p l ih =>
   intro cs hl hc;obtain ⟨n,k⟩:=p
   by_cases hk:(k == NameKind.free)=true
   ·have ek:k=.free:=eq_of_beq hk;obtain ⟨c,ec⟩:=hl (n,k) List.mem_cons_self ek
    obtain ⟨cl,e1,e2,e3,e4⟩:=ih ((n,c)::cs) (fun y hy=>hl y (List.mem_cons_of_mem _ hy)) (fun y c' e=>by
     rw [List.lookup_cons] at e
     cases hq:y == n with
     | true=>rw [hq] at e;cases e;rw [eq_of_beq hq];exact ec
     | false=>rw [hq] at e;exact hc y c' e)
    refine ⟨cl,?_,e2,fun y hy=>?_,fun y c' e=>?_⟩
    ·rw [List.forIn_cons];show ((if (k == NameKind.free)=true then _ else _) >>= _)=_;rw [if_pos hk]
     have ecell:cellOf env n=pure c:=by unfold cellOf;rw [ec]
     show (cellOf env n >>= _) >>= _=_;rw [ecell];simpa using e1
    ·rcases List.mem_cons.mp hy with z | hy
     ·cases z;exact e4 n c (by rw [List.lookup_cons];simp)
     ·exact e3 y hy
    ·cases hq:y == n with
     | true=>exact e4 y c (by rw [List.lookup_cons,hq])
     | false=>exact e4 y c' (by rw [List.lookup_cons,hq];exact e)
   ·obtain ⟨cl,e1,e2,e3,e4⟩:=ih cs (fun y hy=>hl y (List.mem_cons_of_mem _ hy)) hc;refine ⟨cl,?_,e2,fun y hy=>?_,e4⟩
    ·rw [List.forIn_cons];show ((if (k == NameKind.free)=true then _ else _) >>= _)=_;rw [if_neg hk];simpa using e1
    ·rcases List.mem_cons.mp hy with z | hy
     ·cases z;exact absurd rfl hk
     ·exact e3 y hy
 obtain ⟨cl,e1,e2,e3,_⟩:=key scope.names [] h (fun y c e=>by simp at e);refine ⟨cl,?_,e2,e3⟩;show ((forIn scope.names [] _:Sem (List (Str×Addr))) >>= _)=_;have e1':=congrArg (fun m=>m >>= (pure:List (Str×Addr)->Sem (List (Str×Addr)))) e1;simpa using e1
def PIf(X:Cx)(ifs:List Expr)(t:TT):Prop :=
 ∀(pins:Z3) (s:Shared) (σ:St) (H:Hp) (Q:Bool->Hp->Prop),Inv X pins σ H s->t σ H Q →
  wpAny (model X.prog X.w) X.A (forIn ifs true fun c r=>if r=true then do let ok ← isTrue c X.env (eval c X.env);pure (ForInStep.yield ok) else pure (ForInStep.yield r)) (TP X pins σ Q) X.xe s
def zwy:TT:=fun _ H Q=>Q true H
theorem zog{X:Cx}:PIf X [] zwy:=fun _ _ _ H _ I h=>wpAny_tests_nil ⟨H,I,h⟩
theorem zof{X:Cx}{c:Expr}{t:TT}(h:PT X c t):PIf X [c] t:=fun pins s σ H Q I hw=>wpAny_tests_one (h pins s σ H Q I hw)
theorem zej{scope:Scope}{env:Env}:∀{names:List (Str×NameKind)} {y:Str},(y,NameKind.free)∈names->(∀z∈names,z.1=y->z.2=.free) →
  (names.map fun (n,k)=>if (k == NameKind.free&&env.scope.kind == .function&&env.kindOf n == some .cell) then (n,NameKind.cell) else (n,k)).lookup y=some .cell ∨
  (names.map fun (n,k)=>if (k == NameKind.free&&env.scope.kind == .function&&env.kindOf n == some .cell) then (n,NameKind.cell) else (n,k)).lookup y=some .free
 | [],_,h,_=>by simp at h
 | (n,k)::r,y,h,u=>by
  rw [List.map_cons];show List.lookup y ((if (k == NameKind.free&&env.scope.kind == .function&&env.kindOf n == some .cell)=true then (n,NameKind.cell) else (n,k))::_)=_\/List.lookup y ((if (k == NameKind.free&&env.scope.kind == .function&&env.kindOf n == some .cell)=true then (n,NameKind.cell) else (n,k))::_)=_
  cases hq:y == n with
  | true =>
   have e:n=y:=(eq_of_beq hq).symm;have ek:k=.free:=u (n,k) List.mem_cons_self e
   by_cases hc:(k == NameKind.free&&env.scope.kind == .function&&env.kindOf n == some .cell)=true
   ·rw [if_pos hc];left;simp [List.lookup_cons,hq]
   ·rw [if_neg hc];right;simp [List.lookup_cons,hq,ek]
  | false =>
   have hy:(y,NameKind.free)∈r:=by
    rcases List.mem_cons.mp h with z | z
    ·cases z;simp at hq
    ·exact z
   have ih:=zej (scope:=scope) (env:=env) hy fun z hz=>u z (List.mem_cons_of_mem _ hz)
   by_cases hc:(k == NameKind.free&&env.scope.kind == .function&&env.kindOf n == some .cell)=true
   ·rw [if_pos hc];simpa [List.lookup_cons,hq] using ih
   ·rw [if_neg hc];simpa [List.lookup_cons,hq] using ih
theorem Inv.track{X:Cx}{pins:Z3}{σ:St}{H:Hp}{s:Shared}{D:Addr}{o:HO}(I:Inv X pins σ H s)(hn:H D=none)(h1:X.s₀.heap.objs.size<=D)(h2:D≠X.env.locals)(h3:∀x c,X.env.cells.lookup x=some c->c≠D)(h4:∀p∈X.pn++pins,p.1≠D)
  (new:zb5 X.prog X.w (upd H D o) s.heap D o):Inv X pins σ (upd H D o) s:=by
 have nD:∀b u,H b=some u->b≠D:=fun b u e=>zaB e hn
 obtain ⟨h',g',d',t',o'⟩:=s;refine I.step (h':=h') (g':=g') (d':=d') (t':=t') (ch:=[D]) (fun b hb=>?_) (fun b o _ _ _ e _=>e) (fun b o _ _ _ e _=>⟨o.slots,e⟩) (fun b o hc e n=>?_) (fun b o _ e=>⟨o,e⟩) (fun b xs e=>?_) (fun b o u e=>?_) (fun b ps e=>?_) (fun m hm=>hm) (fun b u e=>?_) I.bare
 ·have e:b=D:=by simpa using hb
  subst e;exact ⟨.inr h1,h2,h3,h4⟩
 ·rw [zau (fun z=>hc (by simp [z]))];exact n
 ·rw [zau (nD _ _ e)];exact e
 ·rw [zau (nD _ _ e)];exact e
 ·exact ⟨#[],by rw [zau (nD _ _ e),e];simp⟩
 ·by_cases hb:b=D
  ·subst hb;rw [zaQ] at e;cases e;exact new
  ·rw [zau hb] at e
   exact (I.hok b u e).stay (fun _ _ _ q=>q) (fun c q=>by rw [zau (nD _ _ q)];exact q) fun c xs q=>by rw [zau (nD _ _ q)];exact q
section
variable{X:Cx}{elt iter:Expr}{x:Str}{px pos:Pos}{ifs:List Expr}{scope:Scope}{caps:List (Str×Nat)}{wi:TI}{tt:TT}{te:TE}
abbrev lob(its:List Value)(k:Nat):Obj:={ cls:=.type "list",data:=.seq its.toArray k }
end
end L2
namespace L2
open PySem PySem.Spec PyProof.Rows
section
variable{X:Cx}{elt iter:Expr}{x:Str}{px pos:Pos}{ifs:List Expr}{scope:Scope}{caps:List (Str×Nat)}{wi:TI}{tt:TT}{te:TE}
end
end L2
namespace L2
open PySem PySem.Spec PyProof.Rows
section
variable{prog:Program}{w:World}{A:Around}{R:Result->Shared->Prop}{s:Shared}
theorem zml{elt target iter:Expr}{ifs:List Expr}{scope:Scope}{pos:Pos}{it acc:Value}{env:Env}(I:Nat->Shared->Prop)
  (turn:∀n s,I n s->wpAny (model prog w) A (pyNext it) (fun r s₁=>match r with
   | none=>R (.ok .next) s₁
   | some v=>wpAny (model prog w) A (letOwnedTupleGo target it v) (fun _ s₀=>wpAny (model prog w) A (assign target env v) (fun _ s₂ =>
     wpAny (model prog w) A (forIn ifs true fun c r=>if r=true then do let ok ← isTrue c env (eval c env);pure (ForInStep.yield ok) else pure (ForInStep.yield r)) (fun ok s₃ =>
      if ok=true then wpAny (model prog w) A (eval elt env) (fun x s₄ =>
       wpAny (model prog w) A (call (.builtin "list.append") [acc,x]) (fun _ s₅=>∃m,m<n/\I m s₅) (notedBy (model prog w) A env fun e s'=>R (.error e) s') s₄) (notedBy (model prog w) A env fun e s'=>R (.error e) s') s₃
      else ∃m,m<n/\I m s₃) (notedBy (model prog w) A env fun e s'=>R (.error e) s') s₂) (notedBy (model prog w) A env fun e s'=>R (.error e) s') s₀) (notedBy (model prog w) A env fun e s'=>R (.error e) s') s₁) (notedBy (model prog w) A env fun e s'=>R (.error e) s') s)
  (n:Nat) (h:I n s):codeAny (model prog w) A (.compLoop (.ListComp elt [⟨target,iter,ifs,0⟩] scope pos) 0 it acc env) R s:=by
 refine codeAny_loop rfl I (fun n s hI=>?_) n h;show wpAny _ A ((compTurn (.ListComp elt [⟨target,iter,ifs,0⟩] scope pos) 0 it acc env).onRaise (fun x=>do noteFrame x env;theTreesLotGoes x)) _ _ s;refine wpAny_noted ?_;rw [compTurn_list];refine wpAny_bind (wpAny_standAt (wpAny_bind (wpAny_mono (turn n s hI) (fun r s₁ h₁=>?_) fun _ _ h'=>h')))
 cases r with
 | none=>exact wpAny_pure h₁
 | some v =>
  refine wpAny_bind (wpAny_mono h₁ (fun _ s₀ h₀=>?_) fun _ _ h'=>h');refine wpAny_bind (wpAny_mono h₀ (fun _ s₂ h₂=>wpAny_bind (wpAny_mono h₂ (fun ok s₃ h₃=>?_) fun _ _ h'=>h')) fun _ _ h'=>h')
  cases ok with
  | false=>exact wpAny_pure ⟨rfl,h₃⟩
  | true =>
   exact wpAny_bind (wpAny_bind (wpAny_mono h₃ (fun x s₄ h₄=>wpAny_bind (wpAny_mono h₄ (fun _ s₅ h₅=>wpAny_pure (wpAny_pure ⟨rfl,h₅⟩)) fun _ _ h'=>h')) fun _ _ h'=>h'))
end
theorem zbg:∀(names:List (Str×NameKind)) (n:Nat) (acc:List (Str×Addr)),cellsFrom n names acc=cellsFrom n names []++acc
 | [],_,_=>rfl
 | (x,k)::r,n,acc=>by
  unfold cellsFrom;split
  ·rw [zbg r (n+1) ((x,n)::acc),zbg r (n+1) [(x,n)]];simp
  ·exact zbg r n acc
theorem zcY:∀(names:List (Str×NameKind)) (n:Nat) {x:Str} {c:Addr},(x,c)∈cellsFrom n names []->(x,NameKind.cell)∈names
 | [],_,_,_,h=>by cases h
 | (y,k)::r,n,x,c,h=>by
  unfold cellsFrom at h;split at h
  ·rename_i hk;rw [zbg] at h
   rcases List.mem_append.mp h with h | h
   ·exact List.mem_cons_of_mem _ (zcY r _ h)
   ·rw [List.mem_singleton] at h;cases h;rw [beq_iff_eq.mp hk];exact List.mem_cons_self
  ·exact List.mem_cons_of_mem _ (zcY r _ h)
theorem zcb{α:Type}{x:Str}:∀{l m:List (Str×α)},(l++m).lookup x=(l.lookup x).or (m.lookup x)
 | [],m=>rfl
 | (y,a)::l,m=>by
  rw [List.cons_append,List.lookup_cons,List.lookup_cons]
  cases x == y with
  | true=>rfl
  | false=>exact zcb
theorem zb9:∀(names:List (Str×NameKind)) (n:Nat) {x:Str},(x,NameKind.cell)∈names->∃c,(cellsFrom n names []).lookup x=some c
 | [],_,_,h=>by cases h
 | (y,k)::r,n,x,h=>by
  unfold cellsFrom;split
  ·rename_i hk;rw [zbg,zcb]
   rcases List.mem_cons.mp h with e | h
   ·cases e
    cases hq:(cellsFrom (n+1) r []).lookup y with
    | some c=>exact ⟨c,rfl⟩
    | none=>exact ⟨n,by simp [List.lookup_cons]⟩
   ·obtain ⟨c,e⟩:=zb9 r (n+1) h;rw [e];exact ⟨c,rfl⟩
  ·rename_i hk
   rcases List.mem_cons.mp h with e | h
   ·cases e;exact absurd rfl hk
   ·exact zb9 r n h
theorem zcv{M:Model}{A:Around}{E:Z5}{s:Shared}{scope:Scope}{globals:Addr}{closure:List (Str×Addr)}{qual:Str}{func:Option Addr}{code:Value}{outer:Env}{builtins:Addr}{Q:Env->Shared->Prop}
  (hQ:∀h',h'.Ns s.heap.objs.size (fun _=>none)->(∀b o,s.heap.get? b=some o->h'.get? b=some o)->CellsOk h' (s.heap.objs.size+1) (cellsFrom (s.heap.objs.size+1) scope.names []) →
   Q (newEnv scope s.heap.objs.size globals (cellsFrom (s.heap.objs.size+1) scope.names []++closure) qual func code (some outer) builtins) { s with heap:=h' }) :
  wpAny M A (newFunctionEnv scope globals closure [] qual func code (some outer) builtins) Q E s:=by
 simp only [newFunctionEnv,Option.isSome_some,if_true];refine wpAny_bind (wpAny_alloc ?_);refine wpAny_bind (wpAny_layCells _ (fun name kind cells=>by cases hkc:kind == NameKind.cell<;>simp [hkc]) _ _ _ _ ?_);have ok:=cellsFrom_ok scope.names (s.heap.push { cls:=.type "dict",data:=.dict #[] }) (s.heap.objs.size+1) [] ⟨fun _ _ hm=>(nomatch hm),List.Pairwise.nil⟩ (by rw [Heap.size_push];exact Nat.le_refl _);rw [Heap.size_push] at ok;rw [show ({ s with heap:=s.heap.push { cls:=.type "dict",data:=.dict #[] } }:Shared).heap.objs.size=s.heap.objs.size+1 from Heap.size_push ..];rw [zbg];simp only [List.forIn_nil];refine wpAny_bind (wpAny_pure (wpAny_pure ?_));exact hQ _ ((Heap.Ns.new s.heap (.type "dict")).keeps (pushCells_keeps _ _)) (fun b o e=>pushCells_keeps _ _ b o (Heap.get?_push_of_some _ e)) ok
structure CompScopeG(sc scope:Scope)(N:List Str)(xs:List Str)(caps:List (Str×Nat)):Prop where
 nd:(scope.names.map (·.1)).Nodup
 kind:scope.kind=.function
 names:∀y∈scope.names,y.2=.local->scope.names.lookup y.1=some .local
 free:∀y∈scope.names,y.2=.free->sc.names.lookup y.1=some .cell\/sc.names.lookup y.1=some .free
 cap:∀p∈caps,N[p.2]?=some p.1/\(p.1,NameKind.free)∈scope.names/\sc.names.lookup p.1≠some .local
 uniq:∀p∈caps,∀z∈scope.names,z.1=p.1->z.2=.free
def zbk(X:Cx)(xs:List Str)(caps:List (Str×Nat))(scope:Scope)(cl:List (Str×Addr))(C:Addr)(s:Shared)(H:Hp)(ex:List Addr):Cx :=
 { X with N:=xs++caps.map (·.1),s₀:=s,H₀:=H,env:=compEnvC scope cl C X.env,outer:=X.stack,ex:=ex,fn:=fun x=>decide (scope.names.lookup x=some .cell),pn:=[],xe:=fun _ _=>False }
abbrev capσ(σ:St)(n:Nat)(caps:List (Str×Nat)):St:=List.replicate n none++caps.map fun p=>(σ[p.2]?).join
def zia(wi:TI)(g:TG)(tt:TT)(te:TE)(n:Nat)(caps:List (Str×Nat)):TE:=fun σ H Q=>wi σ H fun J H1=>∃W:Nat->Nat->List V->St->Hp->Prop,(∃m,W 0 m [] (capσ σ n caps) H1)/\∀i m ys σ' H,W i m ys σ' H →
 ys.length<=sizeLine/\((J.stop i H/\∀p,H p=none->Q (.ref p) (upd H p (.lst ys))) ∨
 (J.go i H/\∀x H',J.yld i H x H'->g x σ' H' fun σ2 H2=>tt σ2 H2 fun ok H3=>if ok=true then te σ2 H3 fun y H4=>∃m',m'<m/\W (i+1) m' (ys++[y]) σ2 H4 else ∃m',m'<m/\W (i+1) m' ys σ2 H3))
section
variable{X:Cx}{elt iter tg:Expr}{xs:List Str}{pos:Pos}{ifs:List Expr}{scope:Scope}{caps:List (Str×Nat)}{wi:TI}{g:TG}{tt:TT}{te:TE}
structure OwnC(X:Cx)(scope:Scope)(lo:Nat)(h:Heap)(cl:List (Str×Addr)):Prop where
 sort:∀y c,cl.lookup y=some c->X.env.cells.lookup y=some c\/(h.IsCell c none/\lo<=c)
 inj:∀y z c,cl.lookup y=some c->cl.lookup z=some c->y=z
 has:∀y,((y,NameKind.free)∈scope.names\/(y,NameKind.cell)∈scope.names)->∃c,cl.lookup y=some c
 own:∀y c,scope.names.lookup y=some .cell->cl.lookup y=some c->lo<=c
 free:∀y,(y,NameKind.free)∈scope.names->∃c,cl.lookup y=some c/\X.env.cells.lookup y=some c
theorem zgI{scope:Scope}{env:Env}{y:Str}(h:(relabel scope env).names.lookup y=some .cell\/(relabel scope env).names.lookup y=some .free):(y,NameKind.free)∈scope.names\/(y,NameKind.cell)∈scope.names:=by
 have go:∀k,(relabel scope env).names.lookup y=some k->(k=.cell\/k=.free)->(y,NameKind.free)∈scope.names\/(y,NameKind.cell)∈scope.names:=fun k e hk=>by
  have hm:=PySem.mem_of_lookup e;obtain ⟨⟨n,k0⟩,hp,e2⟩:=List.mem_map.mp hm
  by_cases hq:(k0 == .free&&env.scope.kind == .function&&env.kindOf n == some .cell)=true
  ·have e3:(n,NameKind.cell)=(y,k):=by rw [<-e2];show _=if _ then _ else _;rw [if_pos hq]
   cases e3
   have:k0=.free:=by simp only [Bool.and_eq_true] at hq;exact eq_of_beq hq.1.1
   subst this;exact .inl hp
  ·have e3:(n,k0)=(y,k):=by rw [<-e2];show _=if _ then _ else _;rw [if_neg hq]
   cases e3
   rcases hk with rfl | rfl
   ·exact .inr hp
   ·exact .inl hp
 rcases h with h | h
 ·exact go _ h (.inl rfl)
 ·exact go _ h (.inr rfl)
theorem zgX:∀{l:List (Str×NameKind)},(l.map (·.1)).Nodup->∀{x:Str} {a b:NameKind},(x,a)∈l->(x,b)∈l->a=b
 | [],_,_,_,_,h,_=>by cases h
 | p::l,nd,x,a,b,h,h'=>by
  rw [List.map_cons,List.nodup_cons] at nd
  rcases List.mem_cons.mp h with h | h<;>rcases List.mem_cons.mp h' with h' | h'
  ·rw [<-h'] at h;exact (Prod.mk.inj h).2
  ·exact absurd (List.mem_map.mpr ⟨_,h',by rw [<-h]⟩) nd.1
  ·exact absurd (List.mem_map.mpr ⟨_,h,by rw [<-h']⟩) nd.1
  ·exact zgX nd.2 h h'
theorem zkp{X:Cx}{scope:Scope}{lo n:Nat}{h:Heap}{cl:List (Str×Addr)}(nd:(scope.names.map (·.1)).Nodup)(hn:lo<=n)(hinj:∀x y c,X.env.cells.lookup x=some c->X.env.cells.lookup y=some c->x=y)
  (hcl:∀y c,cl.lookup y=some c->X.env.cells.lookup y=some c) (hlo:∀y c,X.env.cells.lookup y=some c->c<lo) (hhas:∀y,(y,NameKind.free)∈scope.names->∃c,cl.lookup y=some c) (ok:CellsOk h n (cellsFrom n scope.names [])) :
  OwnC X scope lo h (cellsFrom n scope.names []++cl):=by
 have sort:∀y c,(cellsFrom n scope.names []++cl).lookup y=some c->((cellsFrom n scope.names []).lookup y=some c)\/((cellsFrom n scope.names []).lookup y=none/\cl.lookup y=some c):=fun y c e=>by
  rw [zcb] at e
  cases hq:(cellsFrom n scope.names []).lookup y with
  | some c'=>rw [hq] at e;exact .inl e
  | none=>rw [hq] at e;exact .inr ⟨rfl,e⟩
 refine ⟨fun y c e=>?_,fun y z c e e'=>?_,fun y hy=>?_,fun y c hy e=>?_,fun y hy=>?_⟩
 ·rcases sort y c e with z | ⟨_,z⟩
  ·have:=ok.empty y c (PySem.mem_of_lookup z);exact .inr ⟨this.1,Nat.le_trans hn this.2⟩
  ·exact .inl (hcl y c z)
 ·rcases sort y c e with a | ⟨_,a⟩<;>rcases sort z c e' with b | ⟨_,b⟩
  ·exact name_of_addr ok.apart (PySem.mem_of_lookup a) (PySem.mem_of_lookup b)
  ·have h1:=(ok.empty y c (PySem.mem_of_lookup a)).2;have h2:=hlo z c (hcl z c b);exact absurd (Nat.lt_of_lt_of_le h2 (Nat.le_trans hn h1)) (Nat.lt_irrefl _)
  ·have h1:=(ok.empty z c (PySem.mem_of_lookup b)).2;have h2:=hlo y c (hcl y c a);exact absurd (Nat.lt_of_lt_of_le h2 (Nat.le_trans hn h1)) (Nat.lt_irrefl _)
  ·exact hinj y z c (hcl y c a) (hcl z c b)
 ·rw [zcb]
  cases hq:(cellsFrom n scope.names []).lookup y with
  | some c=>exact ⟨c,rfl⟩
  | none =>
   rcases hy with hy | hy
   ·exact hhas y hy
   ·obtain ⟨c,e⟩:=zb9 scope.names n hy;rw [hq] at e;cases e
 ·obtain ⟨c',e'⟩:=zb9 scope.names n (PySem.mem_of_lookup hy);rw [zcb,e'] at e;have:c'=c:=Option.some.inj e;subst this;exact Nat.le_trans hn (ok.empty y c' (PySem.mem_of_lookup e')).2
 ·obtain ⟨c,e⟩:=hhas y hy;refine ⟨c,?_,hcl y c e⟩;rw [zcb]
  cases hq:(cellsFrom n scope.names []).lookup y with
  | some c' =>
   have:=zcY scope.names n (PySem.mem_of_lookup hq);cases zgX nd hy this
  | none=>exact e
theorem zle{pins:Z3}{σ:St}{H:Hp}{s s':Shared}{cl:List (Str×Addr)}{C:Addr}{fp:List Addr}(S:CompScopeG X.env.scope scope X.N xs caps)(hu:∀p∈caps,∀z∈scope.names,z.1=p.1->z.2=.free)
  (I:Inv X pins σ H s) (hcl:OwnC X scope s.heap.objs.size s'.heap cl)
  (hf:∀b∈fp,zlE X pins H b) (hlt:∀b∈fp,b<s.heap.objs.size) (hC:s.heap.objs.size<=C) (ho:s'.os=s.os) (hg:s'.gens=s.gens) (hk:∀b o,s.heap.get? b=some o->s'.heap.get? b=some o) (hn:s'.heap.Ns C (fun _=>none)) :
  Inv (zbk X xs caps scope cl C s H fp) [] (capσ σ xs.length caps) H s':=by
 have cellK:∀y c,cl.lookup y=some c->∃v,s'.heap.IsCell c v:=fun y c e=>by
  rcases hcl.sort y c e with z | z
  ·obtain ⟨v,o,q,d⟩:=I.cell y c z;exact ⟨v,o,hk _ _ q,d⟩
  ·exact ⟨none,z.1⟩
 refine ⟨⟨I.ok.mod,S.kind,I.ok.glob,I.ok.blt,hC,hcl.inj,fun y hy=>hcl.has y (zgI hy),fun y c z e=>hcl.own y c (of_decide_eq_true z) e,I.ok.hd,I.ok.frames,.inl rfl,fun b hb=>⟨Nat.ne_of_lt (Nat.lt_of_lt_of_le (hlt b hb) hC),fun y c e=>(hcl.sort y c e).elim (fun z=>(hf b hb).2.2.2.2.1 y c z) fun z=>Nat.ne_of_gt (Nat.lt_of_lt_of_le (hlt b hb) z.2)⟩,
  I.bs,Nat.le_trans I.ok.bsz I.sz,fun b o e hb=>?_,fun b hb hm=>?_,I.stack,I.stkFree⟩,ho,by rw [hg];exact I.bare,Un.kept hk,⟨_,hn,fun i y v h1 h2 h3=>?_⟩,fun y c e=>cellK y c e,I.hok.fresh hC,fun y c e=>(hcl.sort y c e).elim (I.freeC y c) fun z=>I.hok.fresh z.2,fun p hp=>absurd (show p∈([]:Z3) from hp) (by simp),I.hok.kept hk,?_⟩
 ·rcases (hf b hb).2.2.2.1 with z | z
  ·exact I.ok.noex b o e z
  ·exact absurd (Nat.lt_of_lt_of_le (Heap.lt_size e) (Nat.le_trans I.ok.bsz z)) (Nat.lt_irrefl _)
 ·rcases List.mem_cons.mp (I.stkSub b hm) with z | z
  ·exact (hf b hb).2.1 z
  ·exact (hf b hb).2.2.1 z
 ·have hi:¬ i<xs.length:=fun hi=>by
   have h2':(capσ σ xs.length caps)[i]?=some (some v):=h2;rw [List.getElem?_append_left (by rw [List.length_replicate];exact hi),List.getElem?_replicate] at h2'
   split at h2'<;>cases h2'
  ·have h1':(caps.map (·.1))[i-xs.length]?=some y:=by
    have h1':(xs++caps.map (·.1))[i]?=some y:=h1;rw [List.getElem?_append_right (by omega)] at h1';exact h1'
   rw [List.getElem?_map] at h1'
   have h2':(caps.map fun p=>(σ[p.2]?).join)[i-xs.length]?=some (some v):=by
    have h2':(capσ σ xs.length caps)[i]?=some (some v):=h2;rw [List.getElem?_append_right (by rw [List.length_replicate];omega),List.length_replicate] at h2';exact h2'
   rw [List.getElem?_map] at h2'
   cases hp:caps[i-xs.length]? with
   | none=>rw [hp] at h1';cases h1'
   | some p =>
    rw [hp] at h1' h2';have ey:p.1=y:=Option.some.inj h1';have ev:(σ[p.2]?).join=some v:=Option.some.inj h2';subst ey;have hmem:p∈caps:=List.mem_of_getElem? hp;obtain ⟨c1,c2,c3⟩:=S.cap p hmem
    have eσ:σ[p.2]?=some (some v):=by
     cases q:σ[p.2]? with
     | none=>rw [q] at ev;cases ev
     | some w=>rw [q] at ev;have:w=some v:=ev;rw [this]
    have hfr:=S.free _ c2 rfl;have hv:Vis X.env.scope p.1:=hfr.elim (fun z=>.inr (.inl z)) (fun z=>.inr (.inr z));obtain ⟨m,_,hl⟩:=I.loc;obtain ⟨u,r,l⟩:=hl p.2 p.1 v c1 eσ hv;refine ⟨u,r,.inr ⟨zej (scope:=scope) (env:=X.env) c2 (hu p hmem),?_⟩⟩;obtain ⟨c,ec,ec2⟩:=hcl.free p.1 c2;refine ⟨c,ec,?_⟩
    rcases l with ⟨z,_⟩ | ⟨_,c',ec',hcell⟩
    ·exact absurd z c3
    ·have:c'=c:=by rw [ec2] at ec';exact (Option.some.inj ec').symm
     subst this;obtain ⟨o,q,d⟩:=hcell;exact ⟨o,hk _ _ q,d⟩
 ·simp [zbk,capσ]
theorem zhd{use:Option (Value->Sem Unit)}{Qf:Z5}{R:VK}{pins:Z3}{s:Shared}{σ:St}{H:Hp}(hc:X.calm=true)(S:CompScopeG X.env.scope scope X.N xs caps)(hi:PI X tg iter wi)(hg:∀cl C s H fp,PG (zbk X xs caps scope cl C s H fp) tg g)
  (ht:∀cl C s H fp,PIf (zbk X xs caps scope cl C s H fp) ifs tt) (he:∀cl C s H fp,PE (zbk X xs caps scope cl C s H fp) elt te)
  (hs:∀v,foldedSetIterable iter X.env v=pure v) (I:Inv X pins σ H s) (h:zia wi g tt te xs.length caps σ H R)
  (fin:∀(D C:Addr) (s4:Shared) (m4:Z6) (H6:Hp) (r:Flow),s4.heap.Ns C m4->(∀{σ':St} {H7:Hp} {s5:Shared} {h':Heap},Inv X pins σ' H7 s5->Heap.SameBut C s5.heap h'->H7 C=none->Inv X pins σ' H7 { s5 with heap:=h' })->H6 C=none->C≠X.env.locals->(∀y c,X.env.cells.lookup y=some c->C≠c)->Inv X pins σ H6 s4->R (.ref D) H6->compPost (model X.prog X.w) X.A X.xe use Qf (.ref D) C (.ok r) s4) :
  wpAny (model X.prog X.w) X.A (comprehension (.ListComp elt [⟨tg,iter,ifs,0⟩] scope pos) scope X.env (firstIterPos [⟨tg,iter,ifs,0⟩] pos) (newList []) false (eval iter X.env) use) Qf X.xe s:=by
 obtain ⟨cl,hclos,hcl,hhas⟩:=zjt (scope:=scope) (env:=X.env) fun y hy hf=>I.ok.has y.1 (S.free y hy hf)
 refine wpAny_comprehension_free (use:=use) rfl hs hclos S.kind S.names (thn (hi pins s σ H _ I h) fun v s1 h1=>thn h1 fun itv s2 h2=>?_);obtain ⟨it,fp,tn,J,H2,rfl,I2,T,st2,f2,W,⟨m0,w0⟩,turn⟩:=h2;refine wpAny_newObj_type (zcv (fun h₁ hns₁ hsb₁ hok₁=>?_));dsimp only at hns₁ hsb₁ hok₁ ⊢;generalize hHp:s2.heap.push { cls:=.type "list",dict:=none,data:=.seq ([]:List Value).toArray }=Hq at hns₁ hsb₁ hok₁ ⊢
 have hCe:Hq.objs.size=s2.heap.objs.size+1:=by rw [<-hHp,Heap.size_push]
 have hDC:s2.heap.objs.size≠Hq.objs.size:=by rw [hCe];exact Nat.ne_of_lt (Nat.lt_succ_self _)
 have hC:s2.heap.objs.size<=Hq.objs.size:=by rw [hCe];exact Nat.le_succ _
 have old:∀b o,s2.heap.get? b=some o->h₁.get? b=some o:=fun b o e=>hsb₁ b o (hHp ▸ Heap.get?_push_of_some _ e)
 have hacc:h₁.get? s2.heap.objs.size=some (lob [] 0):=hsb₁ _ _ (hHp ▸ Heap.get?_push_size _ rfl)
 have cellX:∀y c,X.env.cells.lookup y=some c->c<s2.heap.objs.size:=fun y c e=>by obtain ⟨v,q⟩:=I2.cell y c e;exact q.lt
 have oc:=zkp (X:=X) (lo:=s2.heap.objs.size+1) S.nd (by rw [hCe];exact Nat.le_succ _) I.ok.inj hcl (fun y c e=>Nat.lt_succ_of_lt (cellX y c e)) hhas hok₁;generalize hcl2:cellsFrom (Hq.objs.size+1) scope.names []++cl=cl2 at oc ⊢;have oc':OwnC X scope s2.heap.objs.size h₁ cl2:=⟨fun y c e=>(oc.sort y c e).imp id fun z=>⟨z.1,Nat.le_of_succ_le z.2⟩,oc.inj,oc.has,fun y c a e=>Nat.le_of_succ_le (oc.own y c a e),oc.free⟩
 have hlt:∀b∈fp,b<s2.heap.objs.size:=fun b hb=>by obtain ⟨o,e,_⟩:=T.obj 0 _ st2 b hb;exact Heap.lt_size e
 generalize hY:zbk X xs caps scope cl2 Hq.objs.size s2 H2 fp=Y;have PEY:PE Y elt te:=hY ▸ he cl2 _ s2 H2 fp;have PIY:PIf Y ifs tt:=hY ▸ ht cl2 _ s2 H2 fp;have PGY:PG Y tg g:=hY ▸ hg cl2 _ s2 H2 fp
 have I3:Inv Y [] (capσ σ xs.length caps) H2 { s2 with heap:=h₁ }:=by
  rw [<-hY];exact zle S S.uniq I2 oc' f2 hlt hC rfl rfl old hns₁
 have eYenv:Y.env=compEnvC scope cl2 Hq.objs.size X.env:=by rw [<-hY];rfl
 have eYloc:Y.env.locals=Hq.objs.size:=by rw [eYenv];rfl
 have eYfs:Y.fs=frs X.stack:=by rw [<-hY];rfl
 have eYprog:Y.prog=X.prog:=by rw [<-hY];rfl
 have eYw:Y.w=X.w:=by rw [<-hY];rfl
 have eYK:Y.K=X.K:=by rw [<-hY];rfl
 have eYA:Y.A=X.A:=by rw [<-hY];rfl
 have eYc:Y.calm=true:=by rw [<-hY];exact hc
 have eYex:Y.ex=fp:=by rw [<-hY];rfl
 have eYs:Y.s₀=s2:=by rw [<-hY];rfl
 have eYH:Y.H₀=H2:=by rw [<-hY];rfl
 have eYpn:Y.pn=[]:=by rw [<-hY];rfl
 have eYcell:∀y c,Y.env.cells.lookup y=some c->X.env.cells.lookup y=some c\/s2.heap.objs.size+1<=c:=fun y c e=>(oc.sort y c (by rw [eYenv] at e;exact e)).imp id (·.2)
 have eYxe:∀e s',¬ Y.xe e s':=fun e s' z=>by rw [<-hY] at z;exact z
 have stkX:∀b∈frs X.stack,b<s2.heap.objs.size:=fun b hb=>by
  rcases List.mem_cons.mp (I2.stkSub b hb) with z | z
  ·rw [z];exact I2.lt
  ·refine Nat.not_le.mp fun hle=>I2.nofs hle z
 have pinX:∀p∈X.pn++pins,p.1<s2.heap.objs.size:=fun p hp=>Heap.lt_size (I2.pin p hp).1
 have fpY:∀{H':Hp} {its:List Value} {k:Nat},(∀b∈fp,H' b=none)->∀b∈fp,zlE Y [(s2.heap.objs.size,lob its k)] H' b:=fun {H' its k} hn b hb=>by
  refine ⟨hn b hb,by rw [eYloc];exact Nat.ne_of_lt (Nat.lt_of_lt_of_le (hlt b hb) hC),?_,.inl (by rw [eYex];exact hb),fun y c e=>(eYcell y c e).elim (fun z=>(f2 b hb).2.2.2.2.1 y c z) fun z=>Nat.ne_of_gt (Nat.lt_of_lt_of_le (hlt b hb) (Nat.le_of_succ_le z)),fun p hp=>?_⟩
  ·rw [eYfs];intro hm
   rcases List.mem_cons.mp (I2.stkSub b hm) with z | z
   ·exact (f2 b hb).2.1 z
   ·exact (f2 b hb).2.2.1 z
  ·rw [eYpn] at hp
   have e:p=(s2.heap.objs.size,lob its k):=by simpa using hp
   rw [e];exact Nat.ne_of_gt (hlt b hb)
 have pinD:∀{H':Hp} {σ':St} {s':Shared} {its:List Value} {k:Nat},Inv Y [] σ' H' s'->s'.heap.get? s2.heap.objs.size=some (lob its k)->H' s2.heap.objs.size=none->Inv Y [(s2.heap.objs.size,lob its k)] σ' H' s':=fun {H' σ' s' its k} I' e n =>
  I'.pins_of fun p hp=>by
   have ep:p=(s2.heap.objs.size,lob its k):=by simpa using hp
   subst ep;refine ⟨e,n,by rw [eYloc];exact hDC,?_,fun v z=>?_⟩
   ·rw [eYfs];exact fun hm=>Nat.lt_irrefl _ (stkX _ hm)
   ·have z':Data.seq its.toArray k=Data.cell v:=z;cases z'
 have loop:codeAny (model X.prog X.w) X.A (.compLoop (.ListComp elt [⟨tg,iter,ifs,0⟩] scope pos) 0 (.ref it) (.ref s2.heap.objs.size) (compEnvC scope cl2 Hq.objs.size X.env))
   (compPost (model X.prog X.w) X.A X.xe use Qf (.ref s2.heap.objs.size) Hq.objs.size) { s2 with heap:=h₁ }:=by
  refine zml (fun n s'=>∃i σx H' ys its k,Inv Y [(s2.heap.objs.size,lob its k)] σx H' s'/\tn i s'.heap/\(∀b∈fp,H' b=none)/\Vals ys its/\W i n ys σx H') ?_ m0
   ⟨0,capσ σ xs.length caps,H2,[],[],0,pinD I3 hacc (I2.hok.fresh (Nat.le_refl _)),T.keep _ _ _ st2 fun b hb o e=>old b o e,fun b hb=>(f2 b hb).1,.nil,w0⟩
  rintro n s3 ⟨i,σx,H3,ys,its,k,J3,st3,fr3,rv,w3⟩;obtain ⟨hz,hcase⟩:=turn i n ys σx H3 w3
  rcases hcase with ⟨stop,q⟩ | ⟨go,step⟩
  ·have hd:=T.done Y eYprog eYw eYK eYc i _ s3 _ H3 (notedBy (model X.prog X.w) X.A (compEnvC scope cl2 Hq.objs.size X.env) fun e s'=>compPost (model X.prog X.w) X.A X.xe use Qf (.ref s2.heap.objs.size) Hq.objs.size (.error e) s') J3 (fpY fr3) st3 stop;rw [eYA] at hd;refine thn hd fun r s4 ⟨hr,J4⟩=>?_
   subst hr;obtain ⟨m4,hn4,_⟩:=J4.loc
   have hn4':s4.heap.Ns Hq.objs.size m4:=by rw [<-eYloc];exact hn4
   have hnC:H3 Hq.objs.size=none:=by rw [<-eYloc];exact J4.free
   have hk5:HOk X.prog X.w H3 s4.heap:=by rw [<-eYprog,<-eYw];exact J4.hok
   have u5:Un (frs X.stack) fp H2 H3 s2.heap s4.heap:=by
    have ub:=J4.base;rw [eYfs,eYex,eYH,eYs] at ub;exact ub
   have J5:Inv X pins σ H3 s4:=I2.call' (s':=s4) (ch:=fp) (by have:=J4.os;rw [eYs] at this;exact this) u5 hk5 J4.bare fun b hb=>⟨(f2 b hb).2.2.2.1,(f2 b hb).2.1,(f2 b hb).2.2.2.2.1,(f2 b hb).2.2.2.2.2⟩
   have hp4:=J4.pin (s2.heap.objs.size,lob its k) (List.mem_append_right _ List.mem_cons_self);have hD5:s4.heap.get? s2.heap.objs.size=some (lob its k):=hp4.1;have J6:Inv X pins σ (upd H3 s2.heap.objs.size (.lst ys)) s4:=J5.track hp4.2.1 I2.sz (Nat.ne_of_gt I2.lt) (fun y c e=>Nat.ne_of_lt (cellX y c e)) (fun p hp=>Nat.ne_of_lt (pinX p hp)) (show zb5 X.prog X.w _ s4.heap _ (.lst ys) from ⟨hz,its,k,rv,hD5⟩);have hCloc:Hq.objs.size≠X.env.locals:=Nat.ne_of_gt (Nat.lt_of_lt_of_le I2.lt hC);exact fin _ Hq.objs.size s4 m4 _ _ hn4' (fun {σ'} {H7} {s5} {h'} J sb' hn=>J.turned (t':=s5.toks) (it:=Hq.objs.size) (fun b o hb e=>(sb'.2 b hb).trans e) hn hCloc (.inr (Nat.le_trans I2.sz hC)) (fun y c e=>Nat.ne_of_lt (Nat.lt_of_lt_of_le (cellX y c e) hC)) (fun p hp=>Nat.ne_of_lt (Nat.lt_of_lt_of_le (pinX p hp) hC))) (by rw [zau (Ne.symm hDC)];exact hnC) hCloc (fun y c e=>Nat.ne_of_gt (Nat.lt_of_lt_of_le (cellX y c e) hC)) J6 (q _ hp4.2.1)
  ·have hd:=T.item Y eYprog eYw eYK eYc i _ s3 _ H3 (notedBy (model X.prog X.w) X.A (compEnvC scope cl2 Hq.objs.size X.env) fun e s'=>compPost (model X.prog X.w) X.A X.xe use Qf (.ref s2.heap.objs.size) Hq.objs.size (.error e) s') J3 (fpY fr3) st3 go;rw [eYA] at hd;refine thn hd fun r s4 ⟨u,hr,h4⟩=>?_
   subst hr;refine thn h4 fun _ s5 ⟨v4,H4,J4,r4,y4,st5,fr4⟩=>?_
   have J4':=J4.pinned (fp:=fp) (fpY fr4) (T.obj _ _ st5);have ha:=PGY _ s5 σx H4 v4 u _ J4' r4 (step v4 H4 y4);rw [eYprog,eYw,eYA,eYenv] at ha;refine wpAny_mono ha (fun _ s5' ⟨σ5,H5,J5',q5⟩=>?_) fun e s' z=>(eYxe _ _ z).elim
   have ht5:=PIY _ s5' σ5 H5 _ J5' q5;rw [eYprog,eYw,eYA,eYenv] at ht5;refine wpAny_mono ht5 (fun ok s6 ⟨H6,J6,q6⟩=>?_) fun e s' z=>(eYxe _ _ z).elim
   have back:∀{H7:Hp} {s7:Shared},Inv Y ([(s2.heap.objs.size,lob its k)]++zgQ fp s5.heap) σ5 H7 s7->tn (i+1) s7.heap/\∀b∈fp,H7 b=none:=fun {H7 s7} J7 =>
    ⟨T.keep _ _ _ st5 fun b hb o e=>(J7.pin (b,o) (List.mem_append_right _ (List.mem_append_right _ (zdi hb e)))).1,fun b hb=>by
     obtain ⟨o,e,d⟩:=T.obj _ _ st5 b hb
     exact (J7.pin (b,o) (List.mem_append_right _ (List.mem_append_right _ (zdi hb e)))).2.1⟩
   cases ok with
   | false =>
    rw [if_neg Bool.false_ne_true] at q6;rw [if_neg Bool.false_ne_true];obtain ⟨m',hm',w6⟩:=q6;exact ⟨m',hm',i+1,σ5,H6,ys,its,k,J6.unpinned,(back J6).1,(back J6).2,rv,w6⟩
   | true =>
    rw [if_pos rfl] at q6;rw [if_pos rfl];have he6:=PEY _ s6 _ H6 _ J6 q6;rw [eYprog,eYw,eYA,eYenv] at he6;refine wpAny_mono he6 (fun u7 s7 ⟨v7,H7,J7,r7,m',hm',w7⟩=>?_) fun e s' z=>(eYxe _ _ z).elim
    obtain ⟨st7,fr7⟩:=back J7;have hp7:=(J7.unpinned).pin (s2.heap.objs.size,lob its k) (List.mem_append_right _ List.mem_cons_self);have hl:=rv.length;refine append_at (hsz:=by show its.toArray.size<=sizeLine;rw [List.size_toArray];omega) hp7.1 fun h8 sb8 hD8=>?_
    have J7':Inv Y [] σ5 H7 s7:=J7.unpinned.pins_of fun p hp=>absurd hp (by simp)
    have J8:Inv Y [] σ5 H7 { s7 with heap:=h8 }:=J7'.turned (t':=s7.toks) (it:=s2.heap.objs.size) (fun b o hb e=>(sb8.2 b hb).trans e) hp7.2.1 (by rw [eYloc];exact hDC) (.inr (by rw [eYs];exact Nat.le_refl _)) (fun y c e=>(eYcell y c e).elim (fun z=>Nat.ne_of_lt (cellX y c z)) fun z=>Nat.ne_of_gt z) (fun p hp=>by rw [eYpn] at hp;simp at hp)
    have hD8':h8.get? s2.heap.objs.size=some (lob (its++[u7]) (k+1)):=by rw [hD8];simp [lob]
    exact ⟨m',hm',i+1,σ5,H7,ys++[v7],its++[u7],k+1,pinD J8 hD8' hp7.2.1,T.keep _ _ _ st7 fun b hb o e=>(sb8.2 b (Nat.ne_of_lt (hlt b hb))).trans e,fr7,rv.append (.cons r7 .nil),w7⟩
 exact codeAny_compStart_list loop (T.self X.A 0 _ _ _ (T.keep _ _ _ st2 fun b hb o e=>old b o e) loop)
theorem zl6(hc:X.calm=true)(S:CompScopeG X.env.scope scope X.N xs caps)(hi:PI X tg iter wi)(hg:∀cl C s H fp,PG (zbk X xs caps scope cl C s H fp) tg g)
  (ht:∀cl C s H fp,PIf (zbk X xs caps scope cl C s H fp) ifs tt) (he:∀cl C s H fp,PE (zbk X xs caps scope cl C s H fp) elt te)
  (hs:∀v,foldedSetIterable iter X.env v=pure v:=by intro _;rfl):PE X (.ListComp elt [⟨tg,iter,ifs,0⟩] scope pos) (zia wi g tt te xs.length caps):=by
 intro pins s σ H Q I h;rw [eval_ListComp];exact zhd (use:=none) hc S hi hg ht he hs I h fun D C s4 m4 H6 r hn tr hC _ _ J6 q=>⟨m4,hn,fun h5 sb=>⟨.ref D,H6,tr J6 sb hC,rfl,q⟩⟩
theorem zlZ{k0:Nat}{y0:Str}{py spos:Pos}(hc:X.calm=true)(S:CompScopeG X.env.scope scope X.N xs caps)(hN0:X.N.Nodup)(hi0:X.N[k0]?=some y0)(hx0:Loc X.env.scope y0)(hi:PI X tg iter wi)(hg:∀cl C s H fp,PG (zbk X xs caps scope cl C s H fp) tg g)
  (ht:∀cl C s H fp,PIf (zbk X xs caps scope cl C s H fp) ifs tt) (he:∀cl C s H fp,PE (zbk X xs caps scope cl C s H fp) elt te)
  (hsw:swapsWith (.ListComp elt [⟨tg,iter,ifs,0⟩] scope pos) (some (.Name y0 py)) spos.line X.env=pure true)
  (hf0:X.fn y0=true\/X.env.scope.names.lookup y0=some .local)
  (hs:∀v,foldedSetIterable iter X.env v=pure v):PS X (.Assign [.Name y0 py] (.ListComp elt [⟨tg,iter,ifs,0⟩] scope pos) spos) (zpm (zia wi g tt te xs.length caps) (zk3 k0)):=by
 intro pins s σ H DD I h;rw [exec_Assign_Name_used _ _ _ _ hsw];refine wpAny_bind (wpAny_standAt (wpAny_bind ?_));show wpAny _ X.A (do let _ ← comprehension (.ListComp elt [⟨tg,iter,ifs,0⟩] scope pos) scope X.env _ (newList []) false (eval iter X.env) (some (assign (.Name y0 py) X.env))) _ _ s;refine wpAny_bind (wpAny_mono (zhd (use:=some (assign (.Name y0 py) X.env)) (Qf:=fun _ s'=>SP X pins DD .next s') hc S hi hg ht he hs I h fun D C s4 m4 H6 r hn tr hC hl hce J6 q=>?_) (fun _ s' hq=>wpAny_pure (wpAny_pure hq)) fun _ _ e=>e);show wpAny _ X.A (assign (.Name y0 py) X.env (.ref D)) _ X.xe s4;refine wpAny_assign_Name (zgy (i:=k0) J6 hN0 hi0 hx0 (v:=.ref D) rfl (fun s5 J7 ⟨a,sb,ha⟩=>?_) hf0);have haC:C≠a:=ha.elim (fun z=>by rw [z];exact hl) fun z=>hce _ _ z
 exact ⟨m4,hn.sameBut sb haC,fun h' sb'=>⟨_,_,tr J7 sb' hC,q⟩⟩
end
end L2
namespace ST
open PySem PySem.SetTable
end ST
namespace ST
open PySem PySem.SetTable
end ST
namespace ST
open PySem PySem.SetTable
end ST
namespace ST
open PySem PySem.Spec PyProof.Rows
section
variable{prog:Program}{w:World}{A:Around}{E:Z5}{s:Shared}
end
end ST
namespace ST
open PySem PySem.Spec PyProof.Rows
section
variable{prog:Program}{w:World}{A:Around}{E:Z5}{s:Shared}
end
end ST
namespace ST
open PySem PySem.Spec PyProof.Rows
section
variable{prog:Program}{w:World}{A:Around}{R:Result->Shared->Prop}{s:Shared}
end
end ST
namespace PySem
section
variable{prog:Program}{w:World}{A:Around}{E:Z5}{s:Shared}
end
end PySem
namespace L2
open PySem PySem.Spec PyProof.Rows
section
variable{X:Cx}{a b c:Expr}{ta tb tc:TE}{pos:Pos}
theorem zhV:zd1 X (.builtin "isinstance") (fun xs H Q=>∃x t c k,xs=[x,.ty c]/\TyOf X.K H x t/\PySem.W.kitOne X.K t (.type c)=some k/\Q (.bl k) H):=by
 intro pins s σ H xs us Q I r h;obtain ⟨x,t,c,k,rfl,ty,e,q⟩:=h
 cases r with
 | cons r1 rr =>
  cases rr with
  | cons r2 r3 =>
   cases r3;cases (show _=Value.type c from r2);exact zkU I r1 ty e fun tk=>⟨.bl k,H,I.tok tk,rfl,q⟩
theorem zf0(bs:List Bool):((List.range bs.length).all fun i=>(bs[i]?).getD true)=bs.all id:=by
 rw [Bool.eq_iff_iff,List.all_eq_true,List.all_eq_true];constructor
 ·intro h b hb;obtain ⟨i,hi,e⟩:=List.mem_iff_getElem.mp hb;have:=h i (List.mem_range.mpr hi);rw [List.getElem?_eq_getElem hi,e] at this;exact this
 ·intro h i hi;have hi':=List.mem_range.mp hi;rw [List.getElem?_eq_getElem hi'];exact h _ (List.getElem_mem hi')
theorem zhW(hc:X.calm=true):zd1 X (.builtin "all") (fun xs H Q=>∃(p:Addr) (bs:List Bool),xs=[.ref p]/\SqL X.K H p (bs.map V.bl)/\Q (.bl (bs.all id)) H):=by
 intro pins s σ H xs us Q I r h;obtain ⟨p,bs,rfl,hq,q⟩:=h;obtain ⟨u,rfl,rx⟩:=zgs r;cases rx;obtain ⟨its,rv,pl,hz⟩:=I.list hq;have hl:=pl.isList
 have hlt:p<s.heap.objs.size:=by obtain ⟨_,e,_⟩:=hl;exact Heap.lt_size e
 have hn:its.length=bs.length:=by have:=rv.length;rw [List.length_map] at this;exact this.symm
 refine call_all_walk (wpAny_pyIter_list hl ?_);refine ⟨s.heap.objs.size,[s.heap.objs.size,p],[s.heap.objs.size],its.toArray.size,_,_,fun i=>(bs[i]?).getD true,rfl,Walks.list (A:=X.A.in1) (I.ok.hd hc) _ p (Nat.ne_of_lt hlt) its.toArray,⟨⟨_,Heap.get?_push_size _ rfl,rfl,rfl⟩,hl.push _⟩,fun i v s' Q' E' hP hQ=>?_,fun h' tk hk=>?_⟩
 ·have hv:its[i]?=some v:=by simpa using hP
  have hi:i<bs.length:=by rw [<-hn];exact (List.getElem?_eq_some_iff.mp hv).1
  obtain ⟨u,hu,ru⟩:=rv.get (i:=i) (x:=.bl bs[i]) (by rw [List.getElem?_map,List.getElem?_eq_getElem hi];rfl);rw [hv] at hu;cases hu;cases (show v=Value.bool bs[i] from ru);refine wpAny_truthy_bool ?_;have hQ':Q' ((bs[i]?).getD true) s':=hQ;rw [List.getElem?_eq_getElem hi] at hQ';exact hQ'
 ·rw [List.size_toArray,hn,zf0];refine ⟨.bl _,H,I.kept (t':=tk) fun b o e=>?_,rfl,q⟩;exact hk b o (fun hm=>by rw [List.mem_singleton.mp hm] at e;exact Nat.lt_irrefl _ (Heap.lt_size e)) (Heap.get?_push_of_some _ e)
theorem zhA:OpR X (compareOp .IsNot) (fun x y H Q=>∃i j,x=.bl i/\y=.bl j/\Q (.bl (!decide (i=j))) H):=by
 intro pins s σ H x y v u Q I rx ry h;obtain ⟨i,j,rfl,rfl,q⟩:=h;cases rx;cases ry;show wpAny _ _ (isSame (Value.bool i) (Value.bool j) >>= fun r=>pure (Value.bool (!r))) _ _ s;refine wpAny_bind (wpAny_isSame_plain (by rfl) (wpAny_pure ?_));refine ⟨.bl (!decide (i=j)),H,I,?_,q⟩;show _=Value.bool _;congr 1
 cases i<;>cases j<;>rfl
theorem zme:OpR X (binaryOp .Add) (fun x y H Q=>∃(a b:Addr) (ys:List V),x=.ref a/\y=.ref b/\SqT X.K H a []/\SqT X.K H b ys/\Q (.ref b) H):=by
 intro pins s σ H x y v u Q I rx ry h;obtain ⟨a,b,ys,rfl,rfl,ha,hb,q⟩:=h;cases rx;cases ry;obtain ⟨its,r1,p1,_⟩:=I.tuple ha;obtain ⟨its2,r2,p2,_⟩:=I.tuple hb;cases r1;obtain ⟨⟨cls,dd,data,sl⟩,ho,hc,n,hd⟩:=id p1;obtain ⟨⟨cls2,dd2,data2,sl2⟩,ho2,hc2,n2,hd2⟩:=id p2;simp only at hc hd hc2 hd2;subst hc hd hc2 hd2
 exact concat_meets ⟨_,ho,rfl⟩ ⟨_,ho2,rfl⟩ noFill_tuple_add seq_tuple_add PySem.F.slot_tuple_add PySem.F.entry_tuple_add (PySem.F.args_tuple_add_2 _ _)
  (tuple_addW0 a b ([]:List Value).toArray its2.toArray n n2 dd dd2 sl sl2 (by rfl)) ⟨ho,ho2,⟨.ref b,H,I,rfl,q⟩⟩
end
end L2
namespace PySem
open PySem.Spec PyProof.Rows
theorem zdt:fillsNumberSlot (.type "tuple") "mul" = pure false :=
 fillsNumberSlot_seq (id:="tuple.__mul__") (r:=some (.builtin "tuple.__rmul__")) F.slot_tuple_mul.lookup (by decide +kernel) F.slot_tuple_rmul.lookup (by decide +kernel)
theorem zft:seqRepeat? (.type "tuple")=pure (some (.builtin "tuple.__mul__")):=by
 have e1:=seqSlot_of (T:="tuple") (name:="__mul__") (id:="tuple.__mul__") F.slot_tuple_mul.lookup (by decide +kernel);have e2:=seqSlot_of (T:="tuple") (name:="__rmul__") (id:="tuple.__rmul__") F.slot_tuple_rmul.lookup (by decide +kernel);unfold seqRepeat?;rw [e1,e2];rfl
theorem zeo(a:Int)(t:Tok)(l:Addr)(o:Obj){its:Array Value}{n:Nat}(hc:o.cls=.type "tuple")(hdd:o.data=.seq its n) :
  Meets (Builtin.«int.__rmul__» ⟨[.int a t,.ref l],[]⟩) (fun _ R s=>s.heap.get? l=some o/\R (.ok (.ret Value.notImplemented)) s) :=
 .of_wp fun prog w A R s h=>by
  obtain ⟨c,d,dt,sl⟩:=o;simp only at hc hdd;subst hc hdd;obtain ⟨hp,g,dr,tk,os⟩:=s;obtain ⟨hl,h⟩:=h
  wp_walk
  exact ⟨_,rfl,h⟩
section
variable{prog:Program}{w:World}{A:Around}{E:Z5}{s:Shared}
theorem zgu{a:Addr}{o:Obj}{its:Array Value}{n:Nat}{k:Int}{t:Tok}{P:Fin->Shared->Prop}(ho:s.heap.get? a=some o)(hc:o.cls=.type "tuple")(hd:o.data=.seq its n)(hne:its.isEmpty=false)(h2:2<=k)(hz:(its.size:Int)*k<=1000000)(hk:k<=1000)
  (h:P (.done (.ret (.ref s.heap.objs.size))) { s with heap:=s.heap.push { cls:=.type "tuple",data:=.seq ((List.replicate k.toNat its).foldl (·++·) #[]) } }) (hsz:((List.replicate k.toNat its).foldl (·++·) #[]).size<=sizeLine) :
  wpAny (model prog w) A (Builtin.«tuple.__mul__» ⟨[.ref a,.int k t],[]⟩) P E s:=by
 show wpAny _ _ (asIndex (.int k t) >>= _) _ _ s;refine wpAny_bind ?_;unfold asIndex;refine wpAny_bind (wpAny_pure ?_);dsimp only;refine wpAny_pure ?_
 have e0:(decide (k < -(2 ^ 63))||decide (k ≥ 2 ^ 63))=false:=by
  rw [Bool.or_eq_false_iff];refine ⟨decide_eq_false ?_,decide_eq_false ?_⟩
  ·omega
  ·omega
 rw [e0];simp only [Bool.false_eq_true,if_false];refine wpAny_bind (wpAny_tupleItemsOf ho hd ?_)
 have e1:(its.isEmpty||k == 1)=false:=by rw [hne,Bool.false_or];simp;omega
 rw [e1];simp only [Bool.false_eq_true,if_false]
 have e2:(decide (k<=0)||its.isEmpty)=false:=by rw [hne,Bool.or_false];exact decide_eq_false (by omega)
 rw [e2];simp only [Bool.false_eq_true,if_false];rw [if_neg (by omega)]
 have e3:Builtin.Tuple.tupleTooMany (its.size*k)=false:=by
  unfold Builtin.Tuple.tupleTooMany;refine decide_eq_false ?_
  have:(1000000:Int)<=(sizeLine:Int):=by decide
  omega
 rw [e3];simp only [Bool.false_eq_true,if_false];unfold Builtin.Tuple.tupleExact;exact wpAny_bind (wpAny_newObj_type (wpAny_pure h) hsz)
theorem zgt{a:Addr}{o:Obj}{its:Array Value}{n:Nat}{t:Tok}{P:Fin->Shared->Prop}(ho:s.heap.get? a=some o)(hc:o.cls=.type "tuple")(hd:o.data=.seq its n)(h:P (.done (.ret (.ref a))) s) :
  wpAny (model prog w) A (Builtin.«tuple.__mul__» ⟨[.ref a,.int 1 t],[]⟩) P E s:=by
 show wpAny _ _ (asIndex (.int 1 t) >>= _) _ _ s;refine wpAny_bind ?_;unfold asIndex;refine wpAny_bind (wpAny_pure ?_);dsimp only;refine wpAny_pure ?_
 have e0:(decide ((1:Int) < -(2 ^ 63))||decide ((1:Int) ≥ 2 ^ 63))=false:=by decide
 rw [e0];simp only [Bool.false_eq_true,if_false];refine wpAny_bind (wpAny_tupleItemsOf ho hd ?_)
 have e1:(its.isEmpty||(1:Int) == 1)=true:=by simp
 rw [e1];simp only [if_true];unfold Builtin.Tuple.tupleIsExact;refine wpAny_bind (wpAny_bind (wpAny_typeOf (T:="tuple") ⟨o,ho,hc⟩ (wpAny_pure ?_)));simp only [beq_self_eq_true,if_true];exact wpAny_bind (wpAny_rule (wpAny_pure h))
theorem zox{a:Addr}{o:Obj}{its:Array Value}{n:Nat}{k:Int}{t:Tok}{Q:Z5}(ho:s.heap.get? a=some o)(hc:o.cls=.type "tuple")(hd:o.data=.seq its n)(hne:its.isEmpty=false)(h2:2<=k)(hz:(its.size:Int)*k<=1000000)(hk:k<=1000)
  (h:Q (.ref s.heap.objs.size) { s with heap:=s.heap.push { cls:=.type "tuple",data:=.seq ((List.replicate k.toNat its).foldl (·++·) #[]) } }) (hsz:((List.replicate k.toNat its).foldl (·++·) #[]).size<=sizeLine) :
  wpAny (model prog w) A (binaryOp .Mult (.ref a) (.int k t)) Q E s:=by
 have hT:s.TypeIs (.ref a) "tuple":=⟨o,ho,hc⟩
 refine wpAny_binaryOp_repeat_ref (T:="tuple") (U:="int") (by decide) hT (fun s'=>typeIs_int s' k t) zdt F.fills_int_mul F.slot_int_rmul zft F.slot_int_index.lookup
  (call_meets F.slot_int_rmul (typeIs_int s k t) F.entry_int_rmul (F.args_int_rmul_2 _ _) (zeo k t a o hc hd) ⟨ho,rfl,hT,?_⟩)
 exact wpAny_call_entry F.slot_tuple_mul hT F.entry_tuple_mul (zgu ho hc hd hne h2 hz hk ⟨_,rfl,h⟩ hsz) (F.args_tuple_mul_2 _ _)
theorem zmh{a:Addr}{o:Obj}{its:Array Value}{n:Nat}{t:Tok}{Q:Z5}(ho:s.heap.get? a=some o)(hc:o.cls=.type "tuple")(hd:o.data=.seq its n)(h:Q (.ref a) s):wpAny (model prog w) A (binaryOp .Mult (.ref a) (.int 1 t)) Q E s:=by
 have hT:s.TypeIs (.ref a) "tuple":=⟨o,ho,hc⟩
 refine wpAny_binaryOp_repeat_ref (T:="tuple") (U:="int") (by decide) hT (fun s'=>typeIs_int s' 1 t) zdt F.fills_int_mul F.slot_int_rmul zft F.slot_int_index.lookup
  (call_meets F.slot_int_rmul (typeIs_int s 1 t) F.entry_int_rmul (F.args_int_rmul_2 _ _) (zeo 1 t a o hc hd) ⟨ho,rfl,hT,?_⟩)
 exact wpAny_call_entry F.slot_tuple_mul hT F.entry_tuple_mul (zgt ho hc hd ⟨_,rfl,h⟩) (F.args_tuple_mul_2 _ _)
end
end PySem
namespace L2
open PySem PySem.Spec PyProof.Rows
inductive D where
 | non | bl (b:Bool) | int (i:Int) | str (x:Str) | tup (l:List D) | lst (l:List D)
section
variable{X:Cx}
theorem zom:OpR X (binaryOp .Mult) (fun x y H Q=>∃(p:Addr) (k:Int) (xs:List V),x=.ref p/\y=.int k/\SqT X.K H p xs/\xs≠[]/\2<=k/\k<=1000/\xs.length<=1000/\∀l,H l=none->Q (.ref l) (upd H l (.tup (List.replicate k.toNat xs).flatten))):=by
 intro pins s σ H x y v u Q I rx ry h;obtain ⟨p,k,xs,rfl,rfl,hq,hne,h2,hk,hx,q⟩:=h;cases rx;obtain ⟨t,rfl⟩:=ry;obtain ⟨its,rv,⟨o,ho,hc,n,hd⟩,_⟩:=I.tuple hq;have hl:=rv.length
 have hnew:(List.replicate k.toNat its.toArray).foldl (·++·) #[]=(List.replicate k.toNat its).flatten.toArray:=by
  have:=ze7 its k.toNat [];rw [List.nil_append] at this;exact this
 have hsz:(List.replicate k.toNat its).flatten.length<=1000000:=by
  rw [zhE];exact Nat.le_trans (Nat.mul_le_mul (show k.toNat<=1000 by omega) (show its.length<=1000 by omega)) (by decide)
 have hline:(1000000:Nat)<=sizeLine:=by decide
 refine zox ho hc hd ?_ h2 ?_ hk ?_ ?_
 ·have:its≠[]:=fun z=>hne (by cases xs with | nil=>rfl | cons a r=>rw [z] at hl;cases hl)
  simpa using this
 ·rw [List.size_toArray];have:=Int.mul_le_mul (show (its.length:Int)<=1000 by omega) hk (by omega) (by omega);omega
 ·rw [hnew];refine ⟨.ref s.heap.objs.size,_,I.laid (t':=s.toks) (o:=.tup (List.replicate k.toNat xs).flatten) (fun b ob q=>Heap.get?_push_of_some _ q) (Nat.le_refl _) ?_,rfl,q _ (I.hok.fresh (Nat.le_refl _))⟩;refine ⟨?_,_,rv.rep k.toNat,IsTup.new _ _⟩;rw [zhE] at hsz ⊢;rw [<-hl] at hsz;omega
 ·rw [hnew,List.size_toArray];omega
end
end L2
namespace HT
open PySem PySem.Spec PyProof.Rows L2
section
variable{prog:Program}{w:World}{A:Around}{E:Z5}{s:Shared}
theorem zd9{t sl:Addr}{items:Array Value}{vl vu:Value}{lo hi:Option Int}{Q:Z5}(ht:IsTup s.heap t items)(hs:s.heap.IsSliceOf sl vl vu .none)(pl:IsPart vl lo)(pu:IsPart vu hi)
  (h1:sIx items.size 0 lo=0) (h2:sIx items.size items.size hi=items.size) (h:Q (.ref t) s):wpAny (model prog w) A (getItem (.ref t) (.ref sl)) Q E s:=by
 obtain ⟨os,hos,hcs,hds⟩:=id hs;have hTs:s.TypeIs (.ref sl) "slice":=⟨os,hos,hcs⟩;unfold getItem
 try with_reducible refine wpAny_holding ?_
 first | refine wpAny_bind (wpAny_pure ?_) | skip
 refine wpAny_bind (wpAny_sequenceKey ht.typeIs (by decide) ?_)
 refine wpAny_bind (wpAny_callSpecial?_slot (name:=Str.ofString "__getitem__") ht.typeIs PyProof.Rows.slot_tuple_getitem
  (wpAny_call_entry PyProof.Rows.slot_tuple_getitem ht.typeIs entry_tuple_getitem ?_ (args_tuple_getitem _ _)))
 show wpAny _ _ (Builtin.Tuple.tupleItemsOf (.ref t) >>= _) _ _ s;refine wpAny_bind (tupleItemsOf_ ht ?_);refine wpAny_bind (wpAny_typeOf hTs ?_);rw [if_pos (by decide)];refine wpAny_bind (zc0 hs pl pu ?_);rw [h1,h2];show wpAny _ _ (if ((((0:Nat):Int) == 0&&(1:Int) == 1&&(items.size-0) == items.size)=true) then _ else _) _ _ s;rw [if_pos (by simp)];unfold Builtin.Tuple.tupleIsExact;refine wpAny_bind (wpAny_bind (wpAny_typeOf ht.typeIs (wpAny_pure ?_)));simp only [beq_self_eq_true,if_true];refine wpAny_bind (wpAny_rule ?_)
 first
  | exact wpAny_pure ⟨_,rfl,wpAny_pure h⟩
  | exact wpAny_bind (wpAny_pure (wpAny_pure ⟨_,rfl,wpAny_pure h⟩))
end
end HT
namespace L2
open PySem PySem.Spec PyProof.Rows
theorem zi5{X:Cx}:SlR X (fun x lo hi H Q=>∃(a:Addr) (xs:List V),x=.ref a/\SqT X.K H a xs/\HT.sIx xs.length 0 lo=0/\HT.sIx xs.length xs.length hi=xs.length/\Q (.ref a) H):=by
 intro pins s σ H x v vl vu lo hi sl Q I rx hs pl pu h;obtain ⟨a,xs,rfl,hx,h1,h2,q⟩:=h;cases rx;obtain ⟨its,r,ht,hz⟩:=I.tuple hx
 have hlen:its.toArray.size=xs.length:=by rw [List.size_toArray];exact r.length.symm
 refine ⟨"tuple",_,PyProof.Rows.slot_tuple_getitem.lookup,ht.typeIs,?_⟩;exact HT.zd9 ht hs pl pu (by rw [hlen];exact h1) (by rw [hlen];exact h2) ⟨.ref a,H,I,rfl,q⟩
end L2
namespace L2
open PySem PySem.Spec PyProof.Rows
mutual
def D.py:D->PyData
 | .non=>.none
 | .bl b=>.bool b
 | .int i=>.int i
 | .str x=>.str x
 | .tup l=>.tuple (D.pys l)
 | .lst l=>.list (D.pys l)
def D.pys:List D->List PyData
 | []=>[]
 | d::l=>d.py::D.pys l
end
mutual
def D.fit:Nat->D->Bool
 | _,.non=>true
 | _,.bl _=>false
 | _,.int _=>true
 | _,.str x=>PyData.strOk x
 | 0,.tup _=>false
 | n+1,.tup l=>D.fits n l
 | 0,.lst _=>false
 | n+1,.lst l=>D.fits n l
def D.fits:Nat->List D->Bool
 | _,[]=>true
 | n,d::l=>d.fit n&&D.fits n l
end
mutual
theorem D.lay:∀{n:Nat} {d:D},d.fit n=true->d.py.canLay0=true/\d.py.depth<=n
 | _,.non,_=>⟨rfl,Nat.zero_le _⟩
 | _,.bl _,h=>by simp [D.fit] at h
 | _,.int _,_=>⟨rfl,Nat.zero_le _⟩
 | _,.str x,h=>⟨by simpa [D.fit,D.py,PyData.canLay0] using h,Nat.zero_le _⟩
 | 0,.tup _,h=>by simp [D.fit] at h
 | 0,.lst _,h=>by simp [D.fit] at h
 | n+1,.tup l,h=>by
  have h':D.fits n l=true:=by simpa [D.fit] using h
  obtain ⟨a,b⟩:=D.lays h';exact ⟨by simpa [D.py,PyData.canLay0] using a,by simp only [D.py,PyData.depth];omega⟩
 | n+1,.lst l,h=>by
  have h':D.fits n l=true:=by simpa [D.fit] using h
  obtain ⟨a,b⟩:=D.lays h';exact ⟨by simpa [D.py,PyData.canLay0] using a,by simp only [D.py,PyData.depth];omega⟩
theorem D.lays:∀{n:Nat} {l:List D},D.fits n l=true->PyData.canLayAll0 (D.pys l)=true/\PyData.depthAll (D.pys l)<=n
 | _,[],_=>⟨rfl,Nat.zero_le _⟩
 | n,d::l,h=>by
  simp only [D.fits,Bool.and_eq_true] at h;obtain ⟨a,b⟩:=D.lay h.1;obtain ⟨c,e⟩:=D.lays h.2;exact ⟨by simp [D.pys,PyData.canLayAll0,a,c],by simp only [D.pys,PyData.depthAll];omega⟩
end
section
variable{X:Cx}
theorem zn6{h:Heap}{v:Value}{d:PyData}{as:List Addr}(hl:d.canLay0=true)(r:Reads h v d as):SeqAt.readOf h v=d:=by
 have hx:∃d as,Reads h v d as:=⟨d,as,r⟩;unfold SeqAt.readOf;rw [dif_pos hx];obtain ⟨bs,rb⟩:=hx.choose_spec;exact (SeqAt.Reads.unique _ _ _ _ _ hl r rb).symm
end
end L2
namespace L2
open PySem PySem.Spec PyProof.Rows
def zks:Option Int->Value->Bool
 | none,.none=>true
 | some i,v=>Value.isInt i v
 | _,_=>false
theorem zbb:∀{k:Option Int} {v:Value},zks k v=true->(k=none/\v=.none)\/∃i t,k=some i/\v=.int i t
 | none,v,h=>by
  cases v<;>simp [zks] at h
  exact .inl ⟨rfl,rfl⟩
 | some i,v,h=>by
  obtain ⟨t,e⟩:=Value.isInt_shape (k:=i) (v:=v) (by simpa [zks] using h);exact .inr ⟨i,t,rfl,e⟩
def ziu:Int:=reduceHash 0xFCA86420
theorem zk1{prog:Program}{w:World}{A:Around}{E:Z5}{s:Shared}{Q:Int->Shared->Prop}(h:Q ziu { s with toks:=s.toks+1 }):wpAny (model prog w) A (pyHash .none) Q E s :=
 PySem.W.pyHash_slot (T:="NoneType") rfl F.slot_NoneType_hash F.entry_NoneType_hash (F.args_NoneType_hash_1 _) (beq_builtin_none _) (.inl rfl) (wpAny_bind (wpAny_pure (wpAny_bind (wpAny_mkInt (wpAny_pure ⟨_,_,rfl,h⟩)))))
def zd4(prog:Program)(w:World):KeyKind prog w (Option Int) where
 is:=zks
 hash:=fun k=>match k with | none=>ziu | some i=>hashInt i
 inj:=fun v a b ha hb=>by
  rcases zbb ha with ⟨rfl,rfl⟩ | ⟨i,t,rfl,rfl⟩<;>rcases zbb hb with ⟨rfl,e⟩ | ⟨j,u,rfl,e⟩<;>cases e<;>rfl
 byValue:=fun k v h=>by
  rcases zbb h with ⟨rfl,rfl⟩ | ⟨i,t,rfl,rfl⟩<;>rfl
 pyHash:=fun {A E s k v Q} h hq=>by
  rcases zbb h with ⟨rfl,rfl⟩ | ⟨i,t,rfl,rfl⟩
  ·exact zk1 hq
  ·exact wpAny_pyHash_int hq
 eqBool:=fun {A E s a b u v Q} ha hb hq=>by
  rcases zbb ha with ⟨rfl,rfl⟩ | ⟨i,t,rfl,rfl⟩<;>rcases zbb hb with ⟨rfl,rfl⟩ | ⟨j,u,rfl,rfl⟩
  ·unfold PySem.eqBool;refine wpAny_holding ?_;refine wpAny_ite_split (fun _=>wpAny_bind (wpAny_rule (wpAny_pure (by simpa using hq)))) (fun z=>absurd rfl z)
  ·exact SeqAt.EqAt.none_int j u prog w E Q (by simpa using hq)
  ·exact SeqAt.EqAt.int_none i t prog w E Q (by simpa using hq)
  ·refine SeqAt.EqAt.int_int i t j u prog w E Q ?_
   have e:decide (some i=some j)=(i == j):=by
    rw [Bool.eq_iff_iff];simp
   rw [<-e];exact hq
 «strs»:=fun k x t v h=>by
  rcases zbb h with ⟨_,e⟩ | ⟨i,u,_,e⟩<;>cases e
abbrev NK:=Int×List (Option Int)
def zd3:Option Int->PyData | none=>.none | some i=>.int i
def zd0(prog:Program)(w:World)(h:Heap)(k:NK)(a:Addr):Prop:=∃o items n t b,h.get? a=some o/\o.cls=.type "tuple" /\ o.data=.seq items n/\items.toList=[.int k.1 t,.ref b]/\IsTupleKey (zd4 prog w) h k.2 b
section
variable{prog:Program}{w:World}{A:Around}{E:Z5}{s:Shared}
def zmg(prog:Program)(w:World)(k:NK):Int:=reduceHash (Builtin.Tuple.tupleHashOf [hashInt k.1,tupleKeyHash (zd4 prog w) k.2])
theorem zd0.typeIs{k:NK}{a:Addr}(x:zd0 prog w s.heap k a):s.TypeIs (.ref a) "tuple":=let ⟨o,_,_,_,_,ho,hc,_⟩:=x;⟨o,ho,hc⟩
theorem zdC{h:Heap}:∀{l:Z4} {vs:List Value},ItemsAre (zd4 prog w) l vs->ReadsAll h vs (l.map zd3) []
 | _,_,.nil=>.nil
 | _,_,.cons h1 r=>by
  rcases zbb h1 with ⟨rfl,rfl⟩ | ⟨i,t,rfl,rfl⟩
  ·exact .cons (as:=[]) (bs:=[]) .none (zdC r)
  ·exact .cons (as:=[]) (bs:=[]) (.int i t) (zdC r)
theorem zd0.reads{h:Heap}{k:NK}{a:Addr}(x:zd0 prog w h k a):Reads h (.ref a) (.tuple [.int k.1,.tuple (k.2.map zd3)]) []:=by
 obtain ⟨o,items,n,t,b,ho,hc,hd,hi,ob,its,m,hob,hcb,hdb,hib⟩:=x;refine .tuple ho hc hd ?_;rw [hi];exact .cons (as:=[]) (bs:=[]) (.int _ _) (.cons (as:=[]) (bs:=[]) (.tuple hob hcb hdb (zdC hib)) .nil)
theorem zgU:∀{l m:Z4},PyData.eqvAll (l.map zd3) (m.map zd3)=decide (l=m)
 | [],[]=>by simp [PyData.eqvAll]
 | [],_::_=>by simp [PyData.eqvAll]
 | _::_,[]=>by simp [PyData.eqvAll]
 | x::l,y::m=>by
  have ih:=zgU (l:=l) (m:=m);simp only [List.map_cons,PyData.eqvAll,ih]
  cases x<;>cases y<;>simp [zd3,PyData.eqv]
  rw [Bool.eq_iff_iff];simp
theorem zev:∀{l:Z4},PyData.canLayAll0 (l.map zd3)=true/\PyData.depthAll (l.map zd3)=0
 | []=>⟨rfl,rfl⟩
 | x::l=>by
  obtain ⟨a,b⟩:=zev (l:=l)
  cases x<;>simp [zd3,PyData.canLayAll0,PyData.depthAll,PyData.canLay0,PyData.depth,a,b]
def zdT(prog:Program)(w:World):HeapKind prog w NK where
 is:=zd0 prog w
 hash:=zmg prog w
 draws:=fun k=>1+(k.2.length+1)+1
 room:=fun A=>A.units+8<cLine
 inj:=fun {h a x y} hx hy=>by
  obtain ⟨o,items,n,t,b,ho,hc,hd,hi,kx⟩:=hx;obtain ⟨o',items',n',t',b',ho',hc',hd',hi',ky⟩:=hy;rw [ho] at ho';cases ho';rw [hd] at hd';cases hd';rw [hi] at hi';simp only [List.cons.injEq,Value.int.injEq,Value.ref.injEq,and_true] at hi';obtain ⟨⟨e1,_⟩,e2⟩:=hi';subst e2;exact Prod.ext e1 (kx.inj ky)
 keeps:=fun {h h' k a d o es ep} x ho hd hs=>by
  obtain ⟨o1,items,n,t,b,ho1,hc,hd1,hi,kx⟩:=x;refine ⟨o1,items,n,t,b,(hs.2 a ?_).trans ho1,hc,hd1,hi,kx.keeps ho hd hs⟩;rintro rfl;rw [ho] at ho1;cases ho1;rw [hd] at hd1;cases hd1
 pyHash:=fun {A E s k a Q} hu x hq=>by
  have hT:=zd0.typeIs (prog:=prog) (w:=w) x;obtain ⟨o,items,n,t,b,ho,hc,hd,hi,kx⟩:=x;refine PySem.W.pyHash_slot (T:="tuple") hT F.slot_tuple_hash F.entry_tuple_hash (F.args_tuple_hash_1 _) (beq_builtin_none _) (.inr (by omega)) ?_;show wpAny _ _ (Builtin.Tuple.tupleItemsOf (.ref a) >>= _) _ _ s;refine wpAny_bind (wpAny_tupleItemsOf ho hd ?_);refine wpAny_bind ?_;rw [<-Array.forIn_toList,hi];refine wpAny_forIn_list _ (fun zcm (r:Array Int) s'=>(zcm=[.int k.1 t,.ref b]/\r.toList=[]/\s'=s)\/(zcm=[.ref b]/\r.toList=[hashInt k.1]/\s'={ s with toks:=s.toks+1 })\/(zcm=[]/\r.toList=[hashInt k.1,tupleKeyHash (zd4 prog w) k.2]/\s'={ s with toks:=s.toks+1+(k.2.length+1) })) _ ?_ ?_ _ _ (.inl ⟨rfl,rfl,rfl⟩)
  ·rintro x zcm r s' (⟨e,hr,rfl⟩ | ⟨e,hr,rfl⟩ | ⟨e,hr,rfl⟩)
   ·injection e with e1 e2
    subst e1 e2;refine wpAny_bind (wpAny_pyHash_int ?_)
    first
     | exact wpAny_pure (.inr (.inl ⟨rfl,by simp [hr],rfl⟩))
     | exact wpAny_bind (wpAny_pure (wpAny_pure (.inr (.inl ⟨rfl,by simp [hr],rfl⟩))))
   ·injection e with e1 e2
    subst e1 e2;refine wpAny_bind (wpAny_pyHash_tuple (A:=A.in1) (by show A.units+1<cLine;omega) kx ?_)
    first
     | exact wpAny_pure (.inr (.inr ⟨rfl,by simp [hr],rfl⟩))
     | exact wpAny_bind (wpAny_pure (wpAny_pure (.inr (.inr ⟨rfl,by simp [hr],rfl⟩))))
   ·cases e
  ·rintro r s' (⟨e,_⟩ | ⟨e,_⟩ | ⟨_,hr,rfl⟩)
   ·cases e
   ·cases e
   ·show wpAny _ _ (retInt (Builtin.Tuple.tupleHashOf r.toList)) _ _ _;rw [hr];refine wpAny_bind (wpAny_mkInt (wpAny_pure ⟨_,_,rfl,?_⟩))
    have e:s.toks+1+(k.2.length+1)+1=s.toks+(1+(k.2.length+1)+1):=by omega
    show Q _ { s with toks:=s.toks+1+(k.2.length+1)+1 };rw [e];exact hq
 eqBool:=fun {A E s x y a b Q} hu hx hy hq=>by
  refine SeqAt.eqAt_reads _ _ A s (.ref a) (.ref b) [] [] hx.reads hy.reads ?_ ?_ ?_ prog w E Q ?_
  ·simp [PyData.canLay0,PyData.canLayAll0,zev.1]
  ·simp [PyData.canLay0,PyData.canLayAll0,zev.1]
  ·have h1:(PyData.tuple [.int x.1,.tuple (x.2.map zd3)]).depth<=3:=by
    simp [PyData.depth,PyData.depthAll,zev.2]
   have:min (PyData.tuple [.int x.1,.tuple (x.2.map zd3)]).depth (PyData.tuple [.int y.1,.tuple (y.2.map zd3)]).depth<=3:=Nat.le_trans (Nat.min_le_left _ _) h1;omega
  ·have e:(PyData.tuple [.int x.1,.tuple (x.2.map zd3)]).eqv (.tuple [.int y.1,.tuple (y.2.map zd3)])=decide (x=y):=by
    simp only [PyData.eqv,PyData.eqvAll,zgU];rw [Bool.eq_iff_iff];simp [Prod.ext_iff]
   rw [e];exact hq
 quiet:=fun {A E s k a Q} x hq=>by
  have hT:=zd0.typeIs (prog:=prog) (w:=w) x;obtain ⟨o,items,n,t,b,ho,hc,hd,hi,kx⟩:=x;have hTb:=kx.typeIs;obtain ⟨ob,its,m,hob,hcb,hdb,hib⟩:=kx
  have low:wpAny (model prog w) A (eqIsQuiet 7 (.ref b)) (fun r s'=>r=true/\s'=s) E s:=by
   unfold eqIsQuiet;refine wpAny_bind (wpAny_specialOf hTb F.slot_tuple_eq.lookup ?_);show wpAny _ _ (isInstance (.ref b) (.type "tuple") >>= _) _ _ s;refine wpAny_bind (wpAny_isInstance hTb isSubtype_tuple_tuple ?_);simp only [Bool.not_true,Bool.false_eq_true,if_false];refine wpAny_bind (wpAny_seqItems hob hdb (wpAny_bind ?_));show wpAny _ _ (forIn its _ _) _ _ s;rw [<-Array.forIn_toList];refine wpAny_forIn_list _ (fun zcm r s'=>r.1=none/\s'=s/\∀v∈zcm,carriedByValue v=true) _ ?_ ?_ _ _ ⟨rfl,rfl,hib.byValue⟩
   ·rintro v zcm r s' ⟨hr,rfl,hall⟩;rw [eqIsQuiet_byValue _ (hall v List.mem_cons_self)];refine wpAny_bind (wpAny_pure ?_);simp only [Bool.not_true,Bool.false_eq_true,if_false];exact wpAny_pure ⟨rfl,rfl,fun z hz=>hall z (List.mem_cons_of_mem _ hz)⟩
   ·rintro ⟨r1,r2⟩ s' ⟨hr,rfl,_⟩;simp only at hr;subst hr;exact wpAny_pure ⟨rfl,rfl⟩
  unfold eqIsQuiet;refine wpAny_bind (wpAny_specialOf hT F.slot_tuple_eq.lookup ?_);show wpAny _ _ (isInstance (.ref a) (.type "tuple") >>= _) _ _ s;refine wpAny_bind (wpAny_isInstance hT isSubtype_tuple_tuple ?_);simp only [Bool.not_true,Bool.false_eq_true,if_false];refine wpAny_bind (wpAny_seqItems ho hd (wpAny_bind ?_));show wpAny _ _ (forIn items _ _) _ _ s;rw [<-Array.forIn_toList,hi];refine wpAny_forIn_list _ (fun zcm r s'=>r.1=none/\s'=s/\(zcm=[.int k.1 t,.ref b]\/zcm=[.ref b]\/zcm=[])) _ ?_ ?_ _ _ ⟨rfl,rfl,.inl rfl⟩
  ·rintro v zcm r s' ⟨hr,rfl,(e | e | e)⟩
   ·injection e with e1 e2
    subst e1 e2;rw [eqIsQuiet_byValue _ rfl];refine wpAny_bind (wpAny_pure ?_);simp only [Bool.not_true,Bool.false_eq_true,if_false];exact wpAny_pure ⟨rfl,rfl,by simp⟩
   ·injection e with e1 e2
    subst e1 e2;refine wpAny_bind (wpAny_mono low (fun r' s'' hz=>?_) fun _ _ z=>z);obtain ⟨rfl,rfl⟩:=hz;simp only [Bool.not_true,Bool.false_eq_true,if_false];exact wpAny_pure ⟨rfl,rfl,by simp⟩
   ·cases e
  ·rintro ⟨r1,r2⟩ s' ⟨hr,rfl,_⟩;simp only at hr;subst hr;exact wpAny_pure hq
end
end L2
namespace L2
open PySem PySem.Spec PyProof.Rows
section
variable{σ:St}{H:Hp}{K:PySem.W.Frag}{te:TE}{tt:TT}{caps:List (Str×Nat)}{Q:VK}
end
end L2
namespace L2
open PySem PySem.Spec PyProof.Rows
def oV:Option Int->V | none=>.non | some i=>.int i
def DN(P:Program)(w:World)(a:Addr)(xs:List (NK×Addr×Value))(h:Heap):Prop :=
 ∃o es ep,h.get? a=some o/\o.ExactDict/\o.data=.dict es ep/\es.toList=xs.map (entryOfKey (zdT P w))/\(xs.map (·.1)).Nodup/\(a == sysModules)=false
def zh0(H:Hp)(kb:Addr)(k:NK):Prop:=∃b,H kb=some (.tup [.int k.1,.ref b])/\H b=some (.tup (k.2.map oV))
def zmT(H:Hp)(xs:List (NK×Addr×Value))(m:List (NK×V)):Prop:=Paired (fun (x:NK×Addr×Value) (p:NK×V)=>x.1=p.1/\zh0 H x.2.1 x.1/\zbt p.2 x.2.2) xs m
theorem ziO{P:Program}{w:World}{a:Addr}{xs:List (NK×Addr×Value)}:∀h1 h2:Heap,DN P w a xs h1->(∀o,h1.get? a=some o->h2.get? a=some o)->DN P w a xs h2:=fun h1 h2 ⟨o,es,ep,e,r⟩ k=>⟨o,es,ep,k _ e,r⟩
section
variable{X:Cx}{pins:Z3}{σ:St}{H:Hp}{s:Shared}
theorem zeD:∀{l:Z4} {its:List Value},Vals (l.map oV) its->ItemsAre (zd4 X.prog X.w) l its
 | [],_,.nil=>.nil
 | none::l,_,.cons r t=>by
  cases r;exact .cons rfl (zeD t)
 | some i::l,_,.cons r t=>by
  obtain ⟨u,rfl⟩:=r;exact .cons (by simp [zd4,zks,Value.isInt]) (zeD t)
theorem Inv.nest(I:Inv X pins σ H s){kb:Addr}{k:NK}(h:zh0 H kb k):zd0 X.prog X.w s.heap k kb:=by
 obtain ⟨b,h1,h2⟩:=h;obtain ⟨its,rv,⟨o,ho,hc,n,hd⟩,_⟩:=I.tuple (SqT.of (K:=X.K) h1);obtain ⟨its2,rv2,⟨o2,ho2,hc2,n2,hd2⟩,_⟩:=I.tuple (SqT.of (K:=X.K) h2)
 cases rv with
 | cons r1 rr =>
  cases rr with
  | cons r2 rr =>
   cases rr;obtain ⟨t,rfl⟩:=r1;cases r2;exact ⟨o,_,n,t,b,ho,hc,hd,rfl,o2,_,n2,ho2,hc2,hd2,by simpa using zeD rv2⟩
theorem zmT.keys{xs:List (NK×Addr×Value)}{m:List (NK×V)}(I:Inv X pins σ H s):zmT H xs m->∀x∈xs,zd0 X.prog X.w s.heap x.1 x.2.1:=by
 intro h
 induction h with
 | nil=>intro x hx;simp at hx
 | cons h t ih =>
  intro x hx
  rcases List.mem_cons.mp hx with rfl | hx
  ·exact I.nest h.2.1
  ·exact ih x hx
theorem Inv.ndict(I:Inv X pins σ H s){a:Addr}{xs:List (NK×Addr×Value)}{m:List (NK×V)}(h:H a=some (.ext (DN X.prog X.w a xs)))(e:zmT H xs m):s.heap.DictOfH (zdT X.prog X.w) a xs/\(a == sysModules)=false:=by
 obtain ⟨⟨o,es,ep,h1,h2,h3,h4,h5,h6⟩,_⟩:=I.hok a _ h;exact ⟨⟨o,es,ep,h1,h2,h3,h4,e.keys I,h5⟩,h6⟩
theorem zeg{xs:List (NK×Addr×Value)}{m:List (NK×V)}(e:zmT H xs m)(k:NK):(m.lookup k=none/\atKey xs k=none)\/∃c p,m.lookup k=some c/\atKey xs k=some p/\zbt c p.2:=by
 induction e with
 | nil=>exact .inl ⟨rfl,rfl⟩
 | @cons x p l1 l2 h t ih =>
  obtain ⟨h1,h2,h3⟩:=h
  by_cases hk:x.1=k
  ·refine .inr ⟨p.2,x.2,?_,?_,h3⟩
   ·obtain ⟨pk,pc⟩:=p;simp only at h1;subst h1;rw [List.lookup_cons,hk];simp
   ·simp [atKey,hk]
  ·have hk':¬ p.1=k:=by rw [<-h1];exact hk
   have e1:List.lookup k (p::l2)=List.lookup k l2:=by
    obtain ⟨pk,pc⟩:=p;rw [List.lookup_cons]
    have:(k == pk)=false:=by
     rw [beq_eq_false_iff_ne];exact fun z=>hk' z.symm
    rw [this]
   have e2:atKey (x::l1) k=atKey l1 k:=by simp [atKey,List.find?_cons,hk]
   rw [e1,e2];exact ih
theorem zm5(hu:X.A.units+16<cLine):OpR X (compareOp .NotIn) (fun x y H Q=>∃kb a k xs m,x=.ref kb/\y=.ref a/\zh0 H kb k/\H a=some (.ext (DN X.prog X.w a xs))/\zmT H xs m/\Q (.bl (m.lookup k).isNone) H):=by
 intro pins s σ H x y v u Q I rx ry h;obtain ⟨kb,a,k,xs,m,rfl,rfl,hk,hx,he,q⟩:=h;cases rx;cases ry;obtain ⟨hm,hd⟩:=I.ndict hx he;refine wpAny_notIn_heap (knd:=zdT X.prog X.w) (k:=k) (by show X.A.units+1+8<cLine;omega) (I.nest hk) hd hm ⟨.bl _,H,I.tok _,?_,q⟩
 rcases zeg he k with ⟨e1,e2⟩ | ⟨c,p,e1,e2,_⟩<;>rw [e1,e2]<;>rfl
theorem zrj(hu:X.A.units+16<cLine):IxR X (fun x y H Q=>∃a kb k xs m c,x=.ref a/\y=.ref kb/\zh0 H kb k/\H a=some (.ext (DN X.prog X.w a xs))/\zmT H xs m/\m.lookup k=some c/\Q c H):=by
 intro value slice pins s σ H x y v u Q I rx ry h hs;obtain ⟨a,kb,k,xs,m,c,rfl,rfl,hk,hx,he,hl,q⟩:=h;cases rx;cases ry;obtain ⟨hm,hd⟩:=I.ndict hx he
 rcases zeg he k with ⟨e1,_⟩ | ⟨c',p,e1,e2,r⟩
 ·rw [e1] at hl;cases hl
 ·rw [e1] at hl;cases hl;exact subscriptTail_builtinR (x:=p.2) hm.typeIs slot_dict_getitem.lookup (wpAny_getItem_heap (knd:=zdT X.prog X.w) (k:=k) (by show X.A.units+1+8<cLine;omega) (I.nest hk) hm e2 ⟨rfl,c,H,I.tok _,r,q⟩) hs
theorem znV(hu:X.A.units+16<cLine):zvY X (fun o i v H Q=>∃a kb k xs m,o=.ref a/\i=.ref kb/\zh0 H kb k/\H a=some (.ext (DN X.prog X.w a xs))/\zmT H xs m/\m.lookup k=none/\m.length<=1000000/\∀u,zbt v u->Q (upd H a (.ext (DN X.prog X.w a (xs++[(k,kb,u)]))))):=by
 intro pins s σ H o i v ov iv u Q I ro ri rv h;obtain ⟨a,kb,k,xs,m,rfl,rfl,hk,hx,he,hl,hz,q⟩:=h;cases ro;cases ri;obtain ⟨hm,hd⟩:=I.ndict hx he;have hlen:xs.length=m.length:=Paired.length he
 have e2:atKey xs k=none:=by
  rcases zeg he k with ⟨_,e2⟩ | ⟨c',p,e1,_,_⟩
  ·exact e2
  ·rw [e1] at hl;cases hl
 refine wpAny_setItem_heap (knd:=zdT X.prog X.w) (k:=k) (by show X.A.units+1+8<cLine;omega) (I.nest hk) hm (fun h' hm' sb=>?_) (by rw [hlen];exact Nat.le_trans hz (by decide));rw [storedH_new e2] at hm';obtain ⟨o,es,ep,g1,g2,g3,g4,g5,g6⟩:=hm';have dn:DN X.prog X.w a (xs++[(k,kb,u)]) h':=⟨o,es,ep,g1,g2,g3,g4,g6,hd⟩;refine ⟨upd H a (.ext (DN X.prog X.w a (xs++[(k,kb,u)]))),?_,q u rv⟩;exact I.write (x:=a) (e:=a) (by rw [hx];trivial) (.inl rfl) (fun b o hb z=>(sb.2 b hb).trans z) ⟨_,g1⟩ ⟨dn,⟨_,g1⟩,ziO⟩
def zsE(P:Program)(w:World):TE:=fun _ H Q=>∀p,H p=none->Q (.ref p) (upd H p (.ext (DN P w p [])))
theorem zok{pos:Pos}:PE X (.Dict [] [] pos) (zsE X.prog X.w):=fun pins s σ H Q I h=>by
 have big:sysModules<s.heap.objs.size:=Nat.lt_trans (show sysModules<mainGlobals by decide) (I.mod.glob.keeps I.bk).lt;have hne:(s.heap.objs.size == sysModules)=false:=beq_eq_false_iff_ne.mpr (Ne.symm (Nat.ne_of_lt big));have dn:DN X.prog X.w s.heap.objs.size [] (s.heap.push { cls:=.type "dict",data:=.dict #[] }):=⟨_,#[],0,Heap.get?_push_size _ rfl,⟨rfl,rfl,rfl⟩,rfl,rfl,List.nodup_nil,hne⟩;refine wpAny_Dict_empty ⟨.ref s.heap.objs.size,upd H s.heap.objs.size (.ext (DN X.prog X.w s.heap.objs.size [])),?_,rfl,h _ (I.hok.fresh (Nat.le_refl _))⟩;exact I.laid (a:=s.heap.objs.size) (t':=s.toks) (fun _ _ q=>Heap.get?_push_of_some _ q) (Nat.le_refl _) ⟨dn,⟨_,Heap.get?_push_size _ rfl⟩,ziO⟩
end
end L2
namespace S2
open PySem PySem.Spec PyProof.Rows L2
abbrev St:=L2.St
inductive D where
 | non | bl (b:Bool) | int (i:Int) | str (x:Str) | tup (l:List D) | lst (l:List D) | dic (l:List (D×D)) | ref (n:Nat) | exc (c:Str) | scr (l:List Int)
inductive Root where
 | slot (i:Nat) | fld (n:Nat) (f:Str) | obj (n:Nat) | far
 deriving DecidableEq
abbrev Ow:=Addr->Option Root
structure Cf where
 ad:Str->Addr
 K:PySem.W.Frag
 P:Program
 wo:PySem.World
instance:CoeFun Cf (fun _=>Str->Addr):=⟨Cf.ad⟩
structure Wd where
 H:Hp
 ow:Ow
 mu:List Addr
mutual
inductive Shd(cl:Cf)(w:Wd):V->D->Prop
 | non:Shd cl w .non .non
 | bl (b:Bool):Shd cl w (.bl b) (.bl b)
 | int (i:Int):Shd cl w (.int i) (.int i)
 | str (x:Str):Shd cl w (.str x) (.str x)
 | tup {a:Addr} {xs:List V} {ds:List D}:w.H a=some (.tup xs)->w.ow a=none->Shds cl w xs ds->Shd cl w (.ref a) (.tup ds)
 | lst {a:Addr} {xs:List V} {ds:List D}:w.H a=some (.lst xs)->w.ow a=none->Shds cl w xs ds->Shd cl w (.ref a) (.lst ds)
 | dicK {a:Addr} {kvs:List (Key×V)} {ds:List (D×D)}:w.H a=some (.dK kvs)->w.ow a=none->ShdK cl w kvs ds->Shd cl w (.ref a) (.dic ds)
 | ref {n:Nat} {a:Addr}:w.mu[n]?=some a->Shd cl w (.ref a) (.ref n)
 | scr {a:Addr} {o:Obj} {l:List Int}:w.H a=some (.frz o (.lst (l.map V.int)))->w.ow a=none->Shd cl w (.ref a) (.scr l)
 | scrK {a:Addr} {l:List Int}:(∀H:Hp,SqL cl.K H a (l.map V.int))->Shd cl w (.ref a) (.scr l)
 | exc {a:Addr} {c:Str} {ob:Obj}:w.H a=some (.frz ob (.own a))->w.ow a=none->ob.cls=.ref (cl c)->Shd cl w (.ref a) (.exc c)
inductive Shds(cl:Cf)(w:Wd):List V->List D->Prop
 | nil:Shds cl w [] []
 | cons {v:V} {d:D} {vs:List V} {ds:List D}:Shd cl w v d->Shds cl w vs ds->Shds cl w (v::vs) (d::ds)
inductive ShdK(cl:Cf)(w:Wd):List (Key×V)->List (D×D)->Prop
 | nil:ShdK cl w [] []
 | consI {i:Int} {v:V} {d:D} {vs:List (Key×V)} {ds:List (D×D)}:Shd cl w v d->ShdK cl w vs ds->ShdK cl w ((.inl i,v)::vs) ((.int i,d)::ds)
 | consS {x:Str} {v:V} {d:D} {vs:List (Key×V)} {ds:List (D×D)}:Shd cl w v d->ShdK cl w vs ds->ShdK cl w ((.inr x,v)::vs) ((.str x,d)::ds)
end
structure Fut(w w':Wd):Prop where
 keep:∀a o,w.H a=some o->w.ow a=none->w'.H a=some o/\w'.ow a=none
 mu:∀(n:Nat) (a:Addr),w.mu[n]?=some a->w'.mu[n]?=some a
theorem Fut.refl(w:Wd):Fut w w:=⟨fun _ _ h k=>⟨h,k⟩,fun _ _ h=>h⟩
theorem Fut.trans{w w1 w2:Wd}(a:Fut w w1)(b:Fut w1 w2):Fut w w2:=⟨fun c o h k=>b.keep c o (a.keep c o h k).1 (a.keep c o h k).2,fun n c h=>b.mu n c (a.mu n c h)⟩
mutual
theorem Shd.up{cl:Cf}{w w':Wd}(f:Fut w w'):∀{v:V} {d:D},Shd cl w v d->Shd cl w' v d
 | _,_,.non=>.non
 | _,_,.bl b=>.bl b
 | _,_,.int i=>.int i
 | _,_,.str x=>.str x
 | _,_,.tup e k r=>.tup (f.keep _ _ e k).1 (f.keep _ _ e k).2 (Shds.up f r)
 | _,_,.lst e k r=>.lst (f.keep _ _ e k).1 (f.keep _ _ e k).2 (Shds.up f r)
 | _,_,.dicK e k r=>.dicK (f.keep _ _ e k).1 (f.keep _ _ e k).2 (ShdK.up f r)
 | _,_,.ref e=>.ref (f.mu _ _ e)
 | _,_,.scr e k=>.scr (f.keep _ _ e k).1 (f.keep _ _ e k).2
 | _,_,.scrK h=>.scrK h
 | _,_,.exc e k h=>.exc (f.keep _ _ e k).1 (f.keep _ _ e k).2 h
theorem Shds.up{cl:Cf}{w w':Wd}(f:Fut w w'):∀{vs:List V} {ds:List D},Shds cl w vs ds->Shds cl w' vs ds
 | _,_,.nil=>.nil
 | _,_,.cons r t=>.cons (Shd.up f r) (Shds.up f t)
theorem ShdK.up{cl:Cf}{w w':Wd}(f:Fut w w'):∀{vs:List (Key×V)} {ds:List (D×D)},ShdK cl w vs ds->ShdK cl w' vs ds
 | _,_,.nil=>.nil
 | _,_,.consI r t=>.consI (Shd.up f r) (ShdK.up f t)
 | _,_,.consS r t=>.consS (Shd.up f r) (ShdK.up f t)
end
section
variable{cl:Cf}{w:Wd}
theorem Shds.length:∀{vs:List V} {ds:List D},Shds cl w vs ds->vs.length=ds.length
 | _,_,.nil=>rfl
 | _,_,.cons _ t=>by rw [List.length_cons,List.length_cons,Shds.length t]
theorem Shds.get:∀{vs:List V} {ds:List D},Shds cl w vs ds->∀{i:Nat} {v:V},vs[i]?=some v->∃d,ds[i]?=some d/\Shd cl w v d
 | _,_,.nil,i,v,e=>by simp at e
 | _,_,.cons r _,0,v,e=>by simp at e;subst e;exact ⟨_,rfl,r⟩
 | _,_,.cons _ t,i+1,v,e=>by
  obtain ⟨d,h1,h2⟩:=Shds.get t (i:=i) (v:=v) (by simpa using e);exact ⟨d,by simpa using h1,h2⟩
theorem Shds.at:∀{vs:List V} {ds:List D},Shds cl w vs ds->∀{i:Nat} {d:D},ds[i]?=some d->∃v,vs[i]?=some v/\Shd cl w v d
 | _,_,.nil,i,v,e=>by simp at e
 | _,_,.cons r _,0,v,e=>by simp at e;subst e;exact ⟨_,rfl,r⟩
 | _,_,.cons _ t,i+1,v,e=>by
  obtain ⟨d,h1,h2⟩:=Shds.at t (i:=i) (d:=v) (by simpa using e);exact ⟨d,by simpa using h1,h2⟩
theorem Shds.append:∀{vs ws:List V} {ds es:List D},Shds cl w vs ds->Shds cl w ws es->Shds cl w (vs++ws) (ds++es)
 | _,_,_,_,.nil,s=>s
 | _,_,_,_,.cons r t,s=>.cons r (Shds.append t s)
theorem Shds.take:∀{vs:List V} {ds:List D} (n:Nat),Shds cl w vs ds->Shds cl w (vs.take n) (ds.take n)
 | _,_,0,_=>.nil
 | _,_,_+1,.nil=>.nil
 | _,_,n+1,.cons r t=>.cons r (Shds.take n t)
theorem Shds.drop:∀{vs:List V} {ds:List D} (n:Nat),Shds cl w vs ds->Shds cl w (vs.drop n) (ds.drop n)
 | _,_,0,s=>s
 | _,_,_+1,.nil=>.nil
 | _,_,n+1,.cons _ t=>Shds.drop n t
theorem Shds.flat{vs:List V}{ds:List D}(h:Shds cl w vs ds):∀n:Nat,Shds cl w (List.replicate n vs).flatten (List.replicate n ds).flatten
 | 0=>.nil
 | n+1=>by
  rw [List.replicate_succ,List.replicate_succ,List.flatten_cons,List.flatten_cons];exact Shds.append h (Shds.flat h n)
end
inductive Top(cl:Cf)(w:Wd):HO->D->Prop
 | lst {xs:List V} {ds:List D}:Shds cl w xs ds->Top cl w (.lst xs) (.lst ds)
 | dicK {kvs:List (Key×V)} {ds:List (D×D)}:ShdK cl w kvs ds->Top cl w (.dK kvs) (.dic ds)
theorem Top.up{cl:Cf}{w w':Wd}(f:Fut w w'){o:HO}{d:D}:Top cl w o d->Top cl w' o d
 | .lst h=>.lst (h.up f)
 | .dicK h=>.dicK (h.up f)
def ziW(cl:Cf)(w:Wd)(r:Root):Bool->V->D->Prop
 | false,v,d=>Shd cl w v d
 | true,v,d=>∃a o,v=.ref a/\w.ow a=some r/\w.H a=some o/\Top cl w o d
theorem ziW.keep{cl:Cf}{w w':Wd}(f:Fut w w'){r:Root}(k:∀a o,w.H a=some o->w.ow a=some r->w'.H a=some o/\w'.ow a=some r):∀{b:Bool} {v:V} {d:D},ziW cl w r b v d->ziW cl w' r b v d
 | false,_,_,h=>Shd.up f h
 | true,_,_,⟨a,o,e,h1,h2,t⟩=>⟨a,o,e,(k a o h2 h1).2,(k a o h2 h1).1,t.up f⟩
def oDn:Option Int->D | none=>.non | some i=>.int i
def nkD(k:NK):D:=.tup [.int k.1,.tup (k.2.map oDn)]
inductive ShdN(cl:Cf)(w:Wd):List (NK×V)->List (D×D)->Prop
 | nil:ShdN cl w [] []
 | cons {k:NK} {v:V} {d:D} {m:List (NK×V)} {ds:List (D×D)}:Shd cl w v d->ShdN cl w m ds->ShdN cl w ((k,v)::m) ((nkD k,d)::ds)
theorem ShdN.up{cl:Cf}{w w':Wd}(f:Fut w w'):∀{m:List (NK×V)} {ds:List (D×D)},ShdN cl w m ds->ShdN cl w' m ds
 | _,_,.nil=>.nil
 | _,_,.cons r t=>.cons (r.up f) (ShdN.up f t)
def zlD(w:Wd)(kb:Addr)(k:NK):Prop:=∃b,(w.H kb=some (.tup [.int k.1,.ref b])/\w.ow kb=none)/\w.H b=some (.tup (k.2.map oV))/\w.ow b=none
theorem zlD.up{w w':Wd}(f:Fut w w'){kb:Addr}{k:NK}(h:zlD w kb k):zlD w' kb k:=by
 obtain ⟨b,h1,h2⟩:=h;exact ⟨b,f.keep _ _ h1.1 h1.2,f.keep _ _ h2.1 h2.2⟩
theorem zlD.at{w:Wd}{kb:Addr}{k:NK}(h:zlD w kb k):zh0 w.H kb k:=by
 obtain ⟨b,h1,h2⟩:=h;exact ⟨b,h1.1,h2.1⟩
def ziY(w:Wd):List (NK×Addr×Value)->List (NK×V)->Prop:=Paired fun (x:NK×Addr×Value) (p:NK×V)=>x.1=p.1/\zlD w x.2.1 x.1/\zbt p.2 x.2.2
theorem ziY.up{w w':Wd}(f:Fut w w'):∀{xs:List (NK×Addr×Value)} {m:List (NK×V)},ziY w xs m->ziY w' xs m
 | _,_,.nil=>.nil
 | _,_,.cons h t=>.cons ⟨h.1,h.2.1.up f,h.2.2⟩ (ziY.up f t)
theorem ziY.ents{w:Wd}:∀{xs:List (NK×Addr×Value)} {m:List (NK×V)},ziY w xs m->zmT w.H xs m
 | _,_,.nil=>.nil
 | _,_,.cons h t=>.cons ⟨h.1,h.2.1.at,h.2.2⟩ (ziY.ents t)
theorem ziY.snoc{w:Wd}{x:NK×Addr×Value}{p:NK×V}(h:x.1=p.1/\zlD w x.2.1 x.1/\zbt p.2 x.2.2):∀{xs:List (NK×Addr×Value)} {m:List (NK×V)},ziY w xs m->ziY w (xs++[x]) (m++[p])
 | _,_,.nil=>.cons h .nil
 | _,_,.cons h' t=>.cons h' (ziY.snoc h t)
theorem ShdN.snoc{cl:Cf}{w:Wd}{k:NK}{v:V}{d:D}(h:Shd cl w v d):∀{m:List (NK×V)} {ds:List (D×D)},ShdN cl w m ds->ShdN cl w (m++[(k,v)]) (ds++[(nkD k,d)])
 | _,_,.nil=>.cons h .nil
 | _,_,.cons r t=>.cons r (ShdN.snoc h t)
def zxB(cl:Cf)(w:Wd)(r:Root)(v:V)(d:D):Prop:=∃a xs m ds,v=.ref a/\w.ow a=some r/\w.H a=some (.ext (DN cl.P cl.wo a xs))/\ziY w xs m/\ShdN cl w m ds/\d=.dic ds
def zh1(cl:Cf)(w:Wd)(r:Root)(own:Bool)(v:V)(d:D):Prop:=(own=false/\Shd cl w v d)\/(own=true/\zxB cl w r v d)
theorem zh1.keep{cl:Cf}{w w':Wd}(f:Fut w w'){r:Root}(k:∀a o,w.H a=some o->w.ow a=some r->w'.H a=some o/\w'.ow a=some r){b:Bool}{v:V}{d:D}(h:zh1 cl w r b v d):zh1 cl w' r b v d:=by
 rcases h with ⟨e,h⟩ | ⟨e,a,xs,m,ds,e1,e2,e3,e4,e5,e6⟩
 ·exact .inl ⟨e,h.up f⟩
 ·exact .inr ⟨e,a,xs,m,ds,e1,(k a _ e3 e2).2,(k a _ e3 e2).1,e4.up f,e5.up f,e6⟩
structure Ob where
 cls:Str
 fs:List (Str×Bool×D)
abbrev Sto:=List Ob
def zdp(cl:Cf)(w:Wd)(n:Nat):List (Str×V)->List (Str×Bool×D)->Prop:=Paired fun p q=>p.1=q.1/\zh1 cl w (.fld n q.1) q.2.1 p.2 q.2.2
def zrR(cl:Cf)(w:Wd)(n:Nat)(a:Addr)(ob:Ob):Prop:=w.ow a=some (.obj n)/\∃dx fs,w.H a=some (.ins (cl ob.cls) dx fs)/\zdp cl w n fs ob.fs
def zqQ(n:Nat):Option Root->Prop | some (.obj m)=>m=n | some (.fld m _)=>m=n | _=>False
theorem zdp.keep{cl:Cf}{w w':Wd}(f:Fut w w'){n:Nat}(k:∀a o,w.H a=some o->zqQ n (w.ow a)->w'.H a=some o/\w'.ow a=w.ow a):∀{fs:List (Str×V)} {gs:List (Str×Bool×D)},zdp cl w n fs gs->zdp cl w' n fs gs
 | _,_,.nil=>.nil
 | _,_,.cons ⟨e,h⟩ t=>.cons ⟨e,h.keep f fun a o ha hr=>by
   have:=k a o ha (by rw [hr];rfl)
   exact ⟨this.1,this.2.trans hr⟩⟩ (zdp.keep f k t)
theorem zrR.keep{cl:Cf}{w w':Wd}(f:Fut w w'){n:Nat}{a:Addr}{ob:Ob}(k:∀a o,w.H a=some o->zqQ n (w.ow a)->w'.H a=some o/\w'.ow a=w.ow a)(h:zrR cl w n a ob):zrR cl w' n a ob:=by
 obtain ⟨h1,dx,fs,h2,h3⟩:=h;have:=k a _ h2 (by rw [h1];rfl);exact ⟨this.2.trans h1,dx,fs,this.1,h3.keep f k⟩
structure Base where
 Fr:Hp
 fw:Ow
structure World'(cl:Cf)(B:Base)(w:Wd)(S:Sto):Prop where
 fr:∀a o,B.Fr a=some o->w.H a=some o/\w.ow a=B.fw a
 own:∀a r,w.ow a=some r->r=.far\/B.Fr a=none
 len:w.mu.length=S.length
 obj:∀(n:Nat) (ob:Ob),S[n]?=some ob->∃a,w.mu[n]?=some a/\zrR cl w n a ob
abbrev Env:=List (Option (Bool×D))
structure Rel(cl:Cf)(B:Base)(σ:St)(w:Wd)(ρ:Env)(S:Sto):Prop where
 wd:World' cl B w S
 len:σ.length=ρ.length
 slots:∀(i:Nat) (o:Bool) (d:D),ρ[i]?=some (some (o,d))->∃v,σ[i]?=some (some v)/\ziW cl w (.slot i) o v d
structure Grow(w w':Wd):Prop where
 keep:∀a o,w.H a=some o->w'.H a=some o/\w'.ow a=w.ow a
 new:∀a r,w'.ow a=some r->w.H a=none->w.ow a=some r\/r=.far
 mu:w'.mu=w.mu
theorem Grow.refl(w:Wd):Grow w w:=⟨fun _ _ h=>⟨h,rfl⟩,fun _ _ h _=>.inl h,rfl⟩
theorem Grow.fut{w w':Wd}(g:Grow w w'):Fut w w':=⟨fun a o h k=>⟨(g.keep a o h).1,(g.keep a o h).2.trans k⟩,fun n a h=>by rw [g.mu];exact h⟩
theorem World'.grow{cl:Cf}{B:Base}{w w':Wd}{S:Sto}(W:World' cl B w S)(g:Grow w w'):World' cl B w' S where
 fr:=fun a o h=>by
  obtain ⟨h1,h2⟩:=W.fr a o h;exact ⟨(g.keep a o h1).1,(g.keep a o h1).2.trans h2⟩
 own:=fun a r h=>by
  cases e:w.H a with
  | none=>exact (g.new a r h e).elim (W.own a r) .inl
  | some o=>exact W.own a r (by rw [<-(g.keep a o e).2];exact h)
 len:=by rw [g.mu];exact W.len
 obj:=fun n ob h=>by
  obtain ⟨a,e,x⟩:=W.obj n ob h;exact ⟨a,by rw [g.mu];exact e,x.keep g.fut fun a o ha _=>g.keep a o ha⟩
theorem Rel.grow{cl:Cf}{B:Base}{σ:St}{w w':Wd}{ρ:Env}{S:Sto}(R:Rel cl B σ w ρ S)(g:Grow w w'):Rel cl B σ w' ρ S where
 wd:=R.wd.grow g
 len:=R.len
 slots:=fun i o d h=>by
  obtain ⟨v,e,x⟩:=R.slots i o d h;exact ⟨v,e,x.keep g.fut fun a o ha hr=>⟨(g.keep a o ha).1,(g.keep a o ha).2.trans hr⟩⟩
def Wd.add(w:Wd)(p:Addr)(o:HO):Wd:=⟨upd w.H p o,fun a=>if a=p then none else w.ow a,w.mu⟩
theorem zaL{w:Wd}{p:Addr}(h:w.H p=none)(o:HO):Grow w (w.add p o) where
 keep:=fun a u ha=>by
  have n:a≠p:=zaB ha h;refine ⟨?_,?_⟩
  ·show upd w.H p o a=_;rw [zau n];exact ha
  ·show (if a=p then none else w.ow a)=_;rw [if_neg n]
 new:=fun a r h1 h2=>by
  have h1':(if a=p then none else w.ow a)=some r:=h1;split at h1'
  ·cases h1'
  ·exact .inl h1'
 mu:=rfl
theorem ziV{w:Wd}{p:Addr}{o:HO}:(w.add p o).ow p=none:=if_pos rfl
theorem zmS{w:Wd}{p:Addr}{o:HO}:(w.add p o).H p=some o:=zaQ
theorem Shd.newT{cl:Cf}{w:Wd}{p:Addr}{xs:List V}{ds:List D}(h:w.H p=none)(r:Shds cl w xs ds):Shd cl (w.add p (.tup xs)) (.ref p) (.tup ds):=.tup zmS ziV (r.up (zaL h _).fut)
theorem Shd.newL{cl:Cf}{w:Wd}{p:Addr}{xs:List V}{ds:List D}(h:w.H p=none)(r:Shds cl w xs ds):Shd cl (w.add p (.lst xs)) (.ref p) (.lst ds):=.lst zmS ziV (r.up (zaL h _).fut)
theorem Shd.newO{cl:Cf}{w:Wd}{p:Addr}{o:HO}{d:D}(h:w.H p=none)(r:Top cl w o d):Shd cl (w.add p o) (.ref p) d:=by
 have g:=(zaL h o).fut
 cases r with
 | lst r=>exact .lst zmS ziV (r.up g)
 | dicK r=>exact .dicK zmS ziV (r.up g)
inductive Out(α:Type) where
 | ok (a:α) (S:Sto) | exc (c:Str) (S:Sto) | bad
abbrev Fe:=Env->Sto->Out D
inductive Fo where
 | nx (ρ:Env) (S:Sto) | rt (d:D) (S:Sto) | bk (ρ:Env) (S:Sto) | ct (ρ:Env) (S:Sto) | ex (c:Str) (ρ:Env) (S:Sto) | bad
abbrev Fs:=Env->Sto->Fo
def tE(cl:Cf)(E:St->XK)(f:Fe):TE:=fun σ H Q=>∃B w ρ S,w.H=H/\Rel cl B σ w ρ S/\match f ρ S with
 | .ok d S'=>∀v w',Rel cl B σ w' ρ S'->Fut w w'->Shd cl w' v d->Q v w'.H
 | .exc c S'=>∀w',Rel cl B σ w' ρ S'->Fut w w'->E σ (.ref (cl c)) none w'.H
 | .bad=>False
def tN(cl:Cf)(E:St->XK)(f:Fe):TE:=fun σ H Q=>∃B w ρ S,w.H=H/\Rel cl B σ w ρ S/\match f ρ S with
 | .ok d S'=>∀p o w',Rel cl B σ w' ρ S'->Fut w w'->w'.H p=none->Top cl w' o d->Q (.ref p) (upd w'.H p o)
 | .exc c S'=>∀w',Rel cl B σ w' ρ S'->Fut w w'->E σ (.ref (cl c)) none w'.H
 | .bad=>False
def Hd(cl:Cf)(σ:St)(ρ:Env)(w:Wd)(v:V)(d:D):Prop:=Shd cl w v d\/∃i:Nat,ρ[i]?=some (some (true,d))/\σ[i]?=some (some v)
def tH(cl:Cf)(E:St->XK)(f:Fe):TE:=fun σ H Q=>∃B w ρ S,w.H=H/\Rel cl B σ w ρ S/\match f ρ S with
 | .ok d S'=>∀v w',Rel cl B σ w' ρ S'->Fut w w'->Hd cl σ ρ w' v d->Q v w'.H
 | .exc c S'=>∀w',Rel cl B σ w' ρ S'->Fut w w'->E σ (.ref (cl c)) none w'.H
 | .bad=>False
inductive TopV(cl:Cf)(w:Wd):V->D->Prop
 | sh {v:V} {d:D}:Shd cl w v d->TopV cl w v d
 | ow {a:Addr} {o:HO} {d:D}:w.H a=some o->Top cl w o d->TopV cl w (.ref a) d
theorem Hd.top{cl:Cf}{B:Base}{σ:St}{ρ:Env}{w:Wd}{S:Sto}{v:V}{d:D}(h:Hd cl σ ρ w v d)(R:Rel cl B σ w ρ S):TopV cl w v d:=by
 rcases h with h | ⟨i,h1,h2⟩
 ·exact .sh h
 ·obtain ⟨v',e,a,o,rfl,_,h3,t⟩:=R.slots i true d h1;rw [h2] at e;cases e;exact .ow h3 t
theorem Hd.up{cl:Cf}{σ:St}{ρ:Env}{w w':Wd}{v:V}{d:D}(f:Fut w w')(h:Hd cl σ ρ w v d):Hd cl σ ρ w' v d:=by
 rcases h with h | h
 ·exact .inl (h.up f)
 ·exact .inr h
theorem PE.imp{X:Cx}{e:Expr}{t t':TE}(h:PE X e t)(i:∀σ H Q,t' σ H Q->t σ H Q):PE X e t':=fun pins s σ H Q I q=>h pins s σ H Q I (i _ _ _ q)
theorem zsB{cl:Cf}{E:St->XK}{f:Fe}{σ:St}{H:Hp}{Q:VK}(h:tE cl E f σ H Q):tN cl E f σ H Q:=by
 obtain ⟨B,w,ρ,S,e,R,h⟩:=h;refine ⟨B,w,ρ,S,e,R,?_⟩
 cases hf:f ρ S with
 | ok d S' =>
  rw [hf] at h;intro p o w' R' F' hp t;exact h (.ref p) (w'.add p o) (R'.grow (zaL hp o)) (F'.trans (zaL hp o).fut) (Shd.newO hp t)
 | exc c S'=>rw [hf] at h;exact h
 | bad=>rw [hf] at h;exact h
theorem zsA{cl:Cf}{E:St->XK}{f:Fe}{σ:St}{H:Hp}{Q:VK}(h:tH cl E f σ H Q):tE cl E f σ H Q:=by
 obtain ⟨B,w,ρ,S,e,R,h⟩:=h;refine ⟨B,w,ρ,S,e,R,?_⟩
 cases hf:f ρ S with
 | ok d S' =>
  rw [hf] at h;intro v w' R' F' t;exact h v w' R' F' (.inl t)
 | exc c S'=>rw [hf] at h;exact h
 | bad=>rw [hf] at h;exact h
end S2
namespace S2
open PySem PySem.Spec PyProof.Rows L2
def Out.bind{α β:Type}(o:Out α)(k:α->Sto->Out β):Out β:=match o with | .ok a S=>k a S | .exc c S=>.exc c S | .bad=>.bad
def Out.of{α:Type}(o:Option α)(S:Sto):Out α:=match o with | some a=>.ok a S | none=>.bad
@[simp] theorem Out.bind_ok{α β:Type}(a:α)(S:Sto)(k:α->Sto->Out β):(Out.ok a S).bind k=k a S:=rfl
@[simp] theorem Out.bind_exc{α β:Type}(c:Str)(S:Sto)(k:α->Sto->Out β):(Out.exc c S:Out α).bind k=.exc c S:=rfl
@[simp] theorem Out.bind_bad{α β:Type}(k:α->Sto->Out β):(Out.bad:Out α).bind k=.bad:=rfl
@[simp] theorem Out.of_some{α:Type}(a:α)(S:Sto):Out.of (some a) S=.ok a S:=rfl
def zad(i:Nat):Fe:=fun ρ S=>match ρ[i]? with | some (some (false,d))=>.ok d S | _=>.bad
def zax(i:Nat):Fe:=fun ρ S=>match ρ[i]? with | some (some (_,d))=>.ok d S | _=>.bad
def zak(d:D):Fe:=fun _ S=>.ok d S
def eUn(g:D->Option D)(f:Fe):Fe:=fun ρ S=>(f ρ S).bind fun a S1=>Out.of (g a) S1
def zal(g:D->D->Option D)(f h:Fe):Fe:=fun ρ S=>(f ρ S).bind fun a S1=>(h ρ S1).bind fun b S2=>Out.of (g a b) S2
def isB:D->Option Bool | .bl b=>some b | _=>none
def eIf(c f h:Fe):Fe:=fun ρ S=>(c ρ S).bind fun d S1=>match isB d with | some true=>f ρ S1 | some false=>h ρ S1 | none=>.bad
def ziM(f h:Fe):Fe:=fun ρ S=>(f ρ S).bind fun d S1=>match isB d with | some true=>h ρ S1 | some false=>.ok (.bl false) S1 | none=>.bad
def eOr(f h:Fe):Fe:=fun ρ S=>(f ρ S).bind fun d S1=>match isB d with | some true=>.ok (.bl true) S1 | some false=>h ρ S1 | none=>.bad
def zeU:D->Option D | .bl b=>some (.bl (!b)) | _=>none
def zaq:List Fe->Env->Sto->Out (List D)
 | [],_,S=>.ok [] S
 | f::fs,ρ,S=>(f ρ S).bind fun d S1=>(zaq fs ρ S1).bind fun ds S2=>.ok (d::ds) S2
def zby(n:Nat):Bool:=decide (n<=100000)
def zbc(fs:List Fe):Fe:=fun ρ S=>(zaq fs ρ S).bind fun ds S1=>if zby ds.length then .ok (.tup ds) S1 else .bad
def zhN(fs:List Fe):Fe:=fun ρ S=>(zaq fs ρ S).bind fun ds S1=>if zby ds.length then .ok (.lst ds) S1 else .bad
def zaW(g:List D->Option D)(fs:List Fe):Fe:=fun ρ S=>(zaq fs ρ S).bind fun ds S1=>Out.of (g ds) S1
theorem zbu{n:Nat}(h:zby n=true):n<=sizeLine:=Nat.le_trans (of_decide_eq_true h) (by decide)
def zcJ:Expr->Bool | .Starred _ _=>false | _=>true
theorem zcc{e:Expr}{es:List Expr}{env:PySem.Env}(h:zcJ e=true):starEach (e::es) env=(false,eval e env)::starEach es env:=by
 cases e<;>first | rfl | cases h
theorem zbE{pos:Pos}{env:PySem.Env}:∀{es:List Expr},es.all zcJ=true->(backTo pos (starEach es env)).any (·.1)=false
 | [],_=>rfl
 | e::es,h=>by
  rw [List.all_cons,Bool.and_eq_true] at h;rw [zcc h.1];show (false||(backTo pos (starEach es env)).any (·.1))=false;rw [zbE h.2];rfl
theorem zgP{pos:Pos}{env:PySem.Env}:∀{es:List Expr},es.all zcJ=true->(backTo pos (starEach es env)).all (fun x=>!x.1)=true
 | [],_=>rfl
 | e::es,h=>by
  rw [List.all_cons,Bool.and_eq_true] at h;rw [zcc h.1];show (true&&(backTo pos (starEach es env)).all (fun x=>!x.1))=true;rw [zgP h.2];rfl
theorem zrv{pos:Pos}{env:PySem.Env}{es:List Expr}(h:es.all zcJ=true)(hl:es.length<30):((backTo pos (starEach es env)).all (fun x=>!x.1)&&(backToKw pos (keywordEach [] env)).all (fun x=>x.1.isSome)
   && decide (es.length+([]:List Keyword).length+(if ([]:List Keyword).isEmpty then 0 else 1)<30))=true:=by
 rw [zgP h];show (true&&true&&decide (es.length+0+0<30))=true;simpa using hl
def Hds(cl:Cf)(σ:St)(ρ:Env)(w:Wd):List V->List D->Prop:=Paired (Hd cl σ ρ w)
def zlx(cl:Cf)(w:Wd):List V->List D->Prop:=Paired (TopV cl w)
theorem Hds.top{cl:Cf}{B:Base}{σ:St}{ρ:Env}{w:Wd}{S:Sto}(R:Rel cl B σ w ρ S):∀{vs:List V} {ds:List D},Hds cl σ ρ w vs ds->zlx cl w vs ds
 | _,_,.nil=>.nil
 | _,_,.cons h t=>.cons (h.top R) (Hds.top R t)
def tAs(cl:Cf)(E:St->XK)(fs:List Fe):TA:=fun σ H Q=>∃B w ρ S,w.H=H/\Rel cl B σ w ρ S/\match zaq fs ρ S with
 | .ok ds S'=>∀vs w',Rel cl B σ w' ρ S'->Fut w w'->Shds cl w' vs ds->Q vs w'.H
 | .exc c S'=>∀w',Rel cl B σ w' ρ S'->Fut w w'->E σ (.ref (cl c)) none w'.H
 | .bad=>False
def tHs(cl:Cf)(E:St->XK)(fs:List Fe):TA:=fun σ H Q=>∃B w ρ S,w.H=H/\Rel cl B σ w ρ S/\match zaq fs ρ S with
 | .ok ds S'=>∀vs w',Rel cl B σ w' ρ S'->Fut w w'->Hds cl σ ρ w' vs ds->Q vs w'.H
 | .exc c S'=>∀w',Rel cl B σ w' ρ S'->Fut w w'->E σ (.ref (cl c)) none w'.H
 | .bad=>False
theorem PA.imp{X:Cx}{es:List Expr}{t t':TA}(h:PA X es t)(i:∀σ H Q,t' σ H Q->t σ H Q):PA X es t':=fun pos pins s σ H Q I q=>h pos pins s σ H Q I (i _ _ _ q)
theorem PT.imp{X:Cx}{e:Expr}{t t':TT}(h:PT X e t)(i:∀σ H Q,t' σ H Q->t σ H Q):PT X e t':=fun pins s σ H Q I q=>h pins s σ H Q I (i _ _ _ q)
section
variable{X:Cx}{cl:Cf}{E:St->XK}{a b c e:Expr}{f h g:Fe}{pos:Pos}
theorem zp4{i:Nat}{x:Str}(hN:X.N[i]?=some x)(hv:Vis X.env.scope x)(hd:(x == ("__debug__":Str))=false)(hcd:(x == ("__classdict__":Str))=false):PE X (.Name x pos) (tE cl E (zad i)):=by
 refine PE.imp (zeQ hN hv hd hcd) ?_;rintro σ H Q ⟨B,w,ρ,S,rfl,R,q⟩;unfold zad at q;split at q
 ·rename_i o d S' hm;split at hm
  ·rename_i d' he;cases hm;obtain ⟨v,e,r⟩:=R.slots i false d he;exact ⟨v,e,q v w R (Fut.refl _) r⟩
  ·cases hm
 ·rename_i hm;split at hm<;>cases hm
 ·exact q.elim
theorem zqc{i:Nat}{x:Str}(hN:X.N[i]?=some x)(hv:Vis X.env.scope x)(hd:(x == ("__debug__":Str))=false)(hcd:(x == ("__classdict__":Str))=false):PE X (.Name x pos) (tH cl E (zax i)):=by
 refine PE.imp (zeQ hN hv hd hcd) ?_;rintro σ H Q ⟨B,w,ρ,S,rfl,R,q⟩;unfold zax at q;split at q
 ·rename_i o d S' hm;split at hm
  ·rename_i b d' he;cases hm;obtain ⟨v,e,r⟩:=R.slots i b d he;refine ⟨v,e,q v w R (Fut.refl _) ?_⟩
   cases b with
   | false=>exact .inl r
   | true=>exact .inr ⟨i,he,e⟩
  ·cases hm
 ·rename_i hm;split at hm<;>cases hm
 ·exact q.elim
theorem zj2{v:V}{d:D}(h:PE X e (tC v))(hd:∀w,Shd cl w v d):PE X e (tE cl E (zak d)):=by
 refine PE.imp h ?_;rintro σ H Q ⟨B,w,ρ,S,rfl,R,q⟩;exact q v w R (Fut.refl _) (hd w)
theorem zj3(h:PE X e (tE cl E f)):PE X e (tH cl E f):=PE.imp h fun _ _ _=>zsA
theorem zds(h:PE X e (tN cl E f)):PE X e (tE cl E f):=PE.imp h fun _ _ _=>zsB
def OpD(X:Cx)(cl:Cf)(op:Value->Value->Sem Value)(g:D->D->Option D):Prop:=OpR X op fun x y H Q=>∃w d e r,w.H=H/\TopV cl w x d/\TopV cl w y e/\g d e=some r/\∀v w',Grow w w'->Shd cl w' v r->Q v w'.H
def UnD(X:Cx)(cl:Cf)(op:Value->Sem Value)(g:D->Option D):Prop:=UnR X op fun x H Q=>∃w d r,w.H=H/\TopV cl w x d/\g d=some r/\∀v w',Grow w w'->Shd cl w' v r->Q v w'.H
def zhm(X:Cx)(cl:Cf)(fv:Value)(g:List D->Option D):Prop:=zd1 X fv fun xs H Q=>∃w ds r,w.H=H/\zlx cl w xs ds/\g ds=some r/\∀v w',Grow w w'->Shd cl w' v r->Q v w'.H
def zrS(X:Cx)(cl:Cf)(fv:Value)(g:List D->Option D):Prop:=zd1 X fv fun xs H Q=>∃w ds r,w.H=H/\zlx cl w xs ds/\g ds=some r/\∀p o w',Grow w w'->w'.H p=none->Top cl w' o r->Q (.ref p) (upd w'.H p o)
def IxD(X:Cx)(cl:Cf)(g:D->D->Option D):Prop:=IxR X fun x y H Q=>∃w d e r,w.H=H/\TopV cl w x d/\TopV cl w y e/\g d e=some r/\∀v w',Grow w w'->Shd cl w' v r->Q v w'.H
theorem two{gg:D->D->Option D}{r2:R2}(hr:∀x y H Q,(∃w d e r,w.H=H/\TopV cl w x d/\TopV cl w y e/\gg d e=some r/\∀v w',Grow w w'->Shd cl w' v r->Q v w'.H)->r2 x y H Q)(σ:St)(H:Hp)(Q:VK)(q:tE cl E (zal gg f h) σ H Q):tOp r2 (tH cl E f) (tH cl E h) σ H Q:=by
 obtain ⟨B,w,ρ,S,rfl,R,q⟩:=q;refine ⟨B,w,ρ,S,rfl,R,?_⟩;unfold zal at q
 cases hf:f ρ S with
 | bad=>rw [hf] at q;exact q
 | exc c S1=>rw [hf] at q;exact q
 | ok d S1 =>
  rw [hf] at q;intro v w1 R1 F1 h1;refine ⟨B,w1,ρ,S1,rfl,R1,?_⟩;dsimp only [Out.bind] at q
  cases hh:h ρ S1 with
  | bad=>rw [hh] at q;exact q
  | exc c S2=>rw [hh] at q;exact fun w2 R2 F2=>q w2 R2 (F1.trans F2)
  | ok e S2 =>
   rw [hh] at q;intro y w2 R2 F2 h2;dsimp only at q
   cases hg:gg d e with
   | none=>rw [hg] at q;exact q.elim
   | some r =>
    rw [hg] at q;exact hr _ _ _ _ ⟨w2,d,e,r,rfl,(h1.up F2).top R2,h2.top R2,hg,fun v' w' gr sh=>q v' w' (R2.grow gr) (F1.trans (F2.trans gr.fut)) sh⟩
theorem zmZ{op:Operator}{gg:D->D->Option D}(ho:OpD X cl (binaryOp op) gg)(ha:PE X a (tH cl E f))(hb:PE X b (tH cl E h)):PE X (.BinOp a op b pos) (tE cl E (zal gg f h)) :=
 PE.imp (zqz ho ha hb) (two fun _ _ _ _ z=>z)
theorem zsR{gg:D->D->Option D}(ho:IxD X cl gg)(ha:PE X a (tH cl E f))(hb:PE X b (tH cl E h))(hs:zgo b):PE X (.Subscript a b pos) (tE cl E (zal gg f h)) :=
 PE.imp (zqE ho ha hb hs) (two fun _ _ _ _ z=>z)
theorem zqb{op:CmpOp}{gg:D->D->Option D}(ho:OpD X cl (compareOp op) gg)(ha:PE X a (tH cl E f))(hb:PE X b (tH cl E h))(hm:behindInMarks op b=false):PE X (.Compare a [op] [b] pos) (tE cl E (zal gg f h)) :=
 PE.imp (zkn ho ha hb hm) (two fun _ _ _ _ z=>z)
theorem zsO{op:UnaryOp}{gg:D->Option D}(ho:UnD X cl (unaryOp op) gg)(ha:PE X a (tH cl E f)):PE X (.UnaryOp op a pos) (tE cl E (eUn gg f)):=by
 refine PE.imp (zs1 ho ha) ?_;rintro σ H Q ⟨B,w,ρ,S,rfl,R,q⟩;refine ⟨B,w,ρ,S,rfl,R,?_⟩;unfold eUn at q
 cases hf:f ρ S with
 | bad=>rw [hf] at q;exact q
 | exc c S1=>rw [hf] at q;exact q
 | ok d S1 =>
  rw [hf] at q;intro v w1 R1 F1 h1;dsimp only [Out.bind] at q
  cases hg:gg d with
  | none=>rw [hg] at q;exact q.elim
  | some r =>
   rw [hg] at q;exact ⟨w1,d,r,rfl,h1.top R1,hg,fun v' w' gr sh=>q v' w' (R1.grow gr) (F1.trans gr.fut) sh⟩
def tTr(cl:Cf)(E:St->XK)(f:Fe):TT:=fun σ H Q=>∃B w ρ S,w.H=H/\Rel cl B σ w ρ S/\match f ρ S with
 | .ok d S'=>match isB d with
  | some b=>∀w',Rel cl B σ w' ρ S'->Fut w w'->Q b w'.H
  | none=>False
 | .exc c S'=>∀w',Rel cl B σ w' ρ S'->Fut w w'->E σ (.ref (cl c)) none w'.H
 | .bad=>False
theorem zdj{d:D}{b:Bool}(h:isB d=some b):d=.bl b:=by
 cases d<;>simp [isB] at h
 subst h;rfl
theorem zgB{w:Wd}{v:V}{b:Bool}(h:Shd cl w v (.bl b)):v=.bl b:=by cases h;rfl
theorem zh8{σ:St}{H:Hp}{Q:Bool->Hp->Prop}(q:tTr cl E f σ H Q):tB (tE cl E f) σ H Q:=by
 obtain ⟨B,w,ρ,S,rfl,R,q⟩:=q;refine ⟨B,w,ρ,S,rfl,R,?_⟩
 cases hf:f ρ S with
 | bad=>rw [hf] at q;exact q
 | exc c S1=>rw [hf] at q;exact q
 | ok d S1 =>
  rw [hf] at q;intro v w1 R1 F1 h1;dsimp only at q
  cases hb:isB d with
  | none=>rw [hb] at q;exact q.elim
  | some b =>
   rw [hb] at q;rw [zdj hb] at h1;exact ⟨b,zgB h1,q w1 R1 F1⟩
theorem zbY(h:PE X e (tE cl E f))(he:∀whole,isTrue e X.env whole=(do let v ← whole;standAt e.pos;holding [v] (truthy v))):PT X e (tTr cl E f) :=
 PT.imp (zqo h he) fun _ _ _ q=>zh8 q
theorem zjU{gg:D->D->Option D}{r2:R2}(hr:∀x y H Q,(∃w d e r,w.H=H/\TopV cl w x d/\TopV cl w y e/\gg d e=some r/\∀v w',Grow w w'->Shd cl w' v r->Q v w'.H)->r2 x y H Q){σ:St}{H:Hp}{Q:Bool->Hp->Prop}(q:tTr cl E (zal gg f h) σ H Q):znE (tOp r2 (tH cl E f) (tH cl E h)) σ H Q :=
 two hr σ H _ (zh8 q)
theorem zpN{op:CmpOp}{gg:D->D->Option D}(ho:OpD X cl (compareOp op) gg)(ha:PE X a (tH cl E f))(hb:PE X b (tH cl E h))(hm:behindInMarks op b=false):PT X (.Compare a [op] [b] pos) (tTr cl E (zal gg f h)) :=
 PT.imp (zkd ho ha hb hm) fun _ _ _ q=>zjU (fun _ _ _ _ z=>z) q
theorem PW.imp{X:Cx}{e:Expr}{t t':TT}(h:PW X e t)(i:∀σ H Q,t' σ H Q->t σ H Q):PW X e t':=fun whole pins s σ H Q I q=>h whole pins s σ H Q I (i _ _ _ q)
theorem znD{σ:St}{H:Hp}{Q:Bool->Hp->Prop}(q:tTr cl E (ziM f h) σ H Q):zuM (tTr cl E f) (tTr cl E h) σ H Q:=by
 obtain ⟨B,w,ρ,S,rfl,R,q⟩:=q;refine ⟨B,w,ρ,S,rfl,R,?_⟩;unfold ziM at q
 cases hf:f ρ S with
 | bad=>rw [hf] at q;exact q
 | exc c S1=>rw [hf] at q;exact q
 | ok d S1 =>
  rw [hf] at q;dsimp only [Out.bind] at q ⊢
  cases hb:isB d with
  | none=>rw [hb] at q;exact q.elim
  | some b =>
   rw [hb] at q;intro w1 R1 F1
   cases b with
   | false=>exact znc (q w1 R1 F1)
   | true =>
    refine znb ⟨B,w1,ρ,S1,rfl,R1,?_⟩;dsimp only at q
    cases hh:h ρ S1 with
    | bad=>rw [hh] at q;exact q
    | exc c S2=>rw [hh] at q;exact fun w2 R2 F2=>q w2 R2 (F1.trans F2)
    | ok e S2 =>
     rw [hh] at q;dsimp only at q ⊢
     cases hb2:isB e with
     | none=>rw [hb2] at q;exact q.elim
     | some b2=>rw [hb2] at q;exact fun w2 R2 F2=>q w2 R2 (F1.trans F2)
theorem zpB{σ:St}{H:Hp}{Q:Bool->Hp->Prop}(q:tTr cl E (eOr f h) σ H Q):tOr (tTr cl E f) (tTr cl E h) σ H Q:=by
 obtain ⟨B,w,ρ,S,rfl,R,q⟩:=q;refine ⟨B,w,ρ,S,rfl,R,?_⟩;unfold eOr at q
 cases hf:f ρ S with
 | bad=>rw [hf] at q;exact q
 | exc c S1=>rw [hf] at q;exact q
 | ok d S1 =>
  rw [hf] at q;dsimp only [Out.bind] at q ⊢
  cases hb:isB d with
  | none=>rw [hb] at q;exact q.elim
  | some b =>
   rw [hb] at q;intro w1 R1 F1
   cases b with
   | true=>exact znb (q w1 R1 F1)
   | false =>
    refine znc ⟨B,w1,ρ,S1,rfl,R1,?_⟩;dsimp only at q
    cases hh:h ρ S1 with
    | bad=>rw [hh] at q;exact q
    | exc c S2=>rw [hh] at q;exact fun w2 R2 F2=>q w2 R2 (F1.trans F2)
    | ok e S2 =>
     rw [hh] at q;dsimp only at q ⊢
     cases hb2:isB e with
     | none=>rw [hb2] at q;exact q.elim
     | some b2=>rw [hb2] at q;exact fun w2 R2 F2=>q w2 R2 (F1.trans F2)
theorem znC{σ:St}{H:Hp}{Q:Bool->Hp->Prop}(q:tTr cl E (eUn zeU f) σ H Q):zuK (tTr cl E f) σ H Q:=by
 obtain ⟨B,w,ρ,S,rfl,R,q⟩:=q;refine ⟨B,w,ρ,S,rfl,R,?_⟩;unfold eUn at q
 cases hf:f ρ S with
 | bad=>rw [hf] at q;exact q
 | exc c S1=>rw [hf] at q;exact q
 | ok d S1 =>
  rw [hf] at q;dsimp only [Out.bind] at q ⊢
  cases hb:isB d with
  | none =>
   have:zeU d=none:=by cases d<;>simp [isB] at hb<;>rfl
   rw [this] at q;exact q.elim
  | some b =>
   rw [zdj hb] at q;exact q
theorem zpL(ha:PT X a (tTr cl E f)):PT X (.UnaryOp .Not a pos) (tTr cl E (eUn zeU f)):=PT.imp (zqp ha) fun _ _ _ q=>znC q
theorem zpI{zcm:List Expr}(ha:PT X a (tTr cl E f))(hb:PW X (.BoolOp .And (b::zcm) pos) (tTr cl E h)):PW X (.BoolOp .And (a::b::zcm) pos) (tTr cl E (ziM f h)):=PW.imp (zqn ha hb) fun _ _ _ q=>znD q
theorem zsH{zcm:List Expr}(ha:PT X a (tTr cl E f))(hb:PW X (.BoolOp .Or (b::zcm) pos) (tTr cl E h)):PW X (.BoolOp .Or (a::b::zcm) pos) (tTr cl E (eOr f h)):=PW.imp (zsX ha hb) fun _ _ _ q=>zpB q
theorem zqd{zcm:List Expr}(ha:PE X a (tE cl E f))(hb:PE X (.BoolOp .And (b::zcm) pos) (tE cl E h)):PE X (.BoolOp .And (a::b::zcm) pos) (tE cl E (ziM f h)):=by
 refine PE.imp (zqG ha hb) ?_;rintro σ H Q ⟨B,w,ρ,S,rfl,R,q⟩;refine ⟨B,w,ρ,S,rfl,R,?_⟩;unfold ziM at q
 cases hf:f ρ S with
 | bad=>rw [hf] at q;exact q
 | exc c S1=>rw [hf] at q;exact q
 | ok d S1 =>
  rw [hf] at q;intro v w1 R1 F1 h1;dsimp only [Out.bind] at q
  cases hb:isB d with
  | none=>rw [hb] at q;exact q.elim
  | some b =>
   rw [hb] at q;rw [zdj hb] at h1;refine ⟨b,zgB h1,?_⟩
   cases b with
   | false=>exact znc (q _ w1 R1 F1 (.bl false))
   | true =>
    refine znb ⟨B,w1,ρ,S1,rfl,R1,?_⟩;dsimp only at q
    cases hh:h ρ S1 with
    | bad=>rw [hh] at q;exact q
    | exc c S2=>rw [hh] at q;exact fun w2 R2 F2=>q w2 R2 (F1.trans F2)
    | ok e S2=>rw [hh] at q;exact fun v w2 R2 F2=>q v w2 R2 (F1.trans F2)
theorem zsP{zcm:List Expr}(ha:PE X a (tE cl E f))(hb:PE X (.BoolOp .Or (b::zcm) pos) (tE cl E h)):PE X (.BoolOp .Or (a::b::zcm) pos) (tE cl E (eOr f h)):=by
 refine PE.imp (zs2 ha hb) ?_;rintro σ H Q ⟨B,w,ρ,S,rfl,R,q⟩;refine ⟨B,w,ρ,S,rfl,R,?_⟩;unfold eOr at q
 cases hf:f ρ S with
 | bad=>rw [hf] at q;exact q
 | exc c S1=>rw [hf] at q;exact q
 | ok d S1 =>
  rw [hf] at q;intro v w1 R1 F1 h1;dsimp only [Out.bind] at q
  cases hb:isB d with
  | none=>rw [hb] at q;exact q.elim
  | some b =>
   rw [hb] at q;rw [zdj hb] at h1;refine ⟨b,zgB h1,?_⟩
   cases b with
   | true=>exact znb (q _ w1 R1 F1 (.bl true))
   | false =>
    refine znc ⟨B,w1,ρ,S1,rfl,R1,?_⟩;dsimp only at q
    cases hh:h ρ S1 with
    | bad=>rw [hh] at q;exact q
    | exc c S2=>rw [hh] at q;exact fun w2 R2 F2=>q w2 R2 (F1.trans F2)
    | ok e S2=>rw [hh] at q;exact fun v w2 R2 F2=>q v w2 R2 (F1.trans F2)
theorem zp7(ha:PE X a (tE cl E f)):PE X (.UnaryOp .Not a pos) (tE cl E (eUn zeU f)):=by
 refine PE.imp (zqB ha) ?_;rintro σ H Q ⟨B,w,ρ,S,rfl,R,q⟩;refine ⟨B,w,ρ,S,rfl,R,?_⟩;unfold eUn at q
 cases hf:f ρ S with
 | bad=>rw [hf] at q;exact q
 | exc c S1=>rw [hf] at q;exact q
 | ok d S1 =>
  rw [hf] at q;intro v w1 R1 F1 h1;dsimp only [Out.bind] at q
  cases hb:isB d with
  | none =>
   have:zeU d=none:=by cases d<;>simp [isB] at hb<;>rfl
   rw [this] at q;exact q.elim
  | some b =>
   rw [zdj hb] at q h1;exact ⟨b,zgB h1,q _ w1 R1 F1 (.bl _)⟩
theorem zsC{σ:St}{H:Hp}{Q:VK}(q:tE cl E (eIf g f h) σ H Q):tIf (tTr cl E g) (tE cl E f) (tE cl E h) σ H Q:=by
 obtain ⟨B,w,ρ,S,rfl,R,q⟩:=q;refine ⟨B,w,ρ,S,rfl,R,?_⟩;unfold eIf at q
 cases hg:g ρ S with
 | bad=>rw [hg] at q;exact q
 | exc c S1=>rw [hg] at q;exact q
 | ok d S1 =>
  rw [hg] at q;dsimp only [Out.bind] at q ⊢
  cases hb:isB d with
  | none=>rw [hb] at q;exact q.elim
  | some b =>
   rw [hb] at q;intro w1 R1 F1
   cases b with
   | true =>
    refine znb ⟨B,w1,ρ,S1,rfl,R1,?_⟩;dsimp only at q
    cases hh:f ρ S1 with
    | bad=>rw [hh] at q;exact q
    | exc c S2=>rw [hh] at q;exact fun w2 R2 F2=>q w2 R2 (F1.trans F2)
    | ok e S2=>rw [hh] at q;exact fun v w2 R2 F2=>q v w2 R2 (F1.trans F2)
   | false =>
    refine znc ⟨B,w1,ρ,S1,rfl,R1,?_⟩;dsimp only at q
    cases hh:h ρ S1 with
    | bad=>rw [hh] at q;exact q
    | exc c S2=>rw [hh] at q;exact fun w2 R2 F2=>q w2 R2 (F1.trans F2)
    | ok e S2=>rw [hh] at q;exact fun v w2 R2 F2=>q v w2 R2 (F1.trans F2)
theorem zsS(hc:PT X c (tTr cl E g))(ha:PE X a (tE cl E f))(hb:PE X b (tE cl E h)):PE X (.IfExp c a b pos) (tE cl E (eIf g f h)):=PE.imp (zl5 hc ha hb) fun _ _ _ q=>zsC q
theorem zgC:PA X [] (tAs cl E []):=by
 refine PA.imp zfv ?_;rintro σ H Q ⟨B,w,ρ,S,rfl,R,q⟩;exact q [] w R (Fut.refl _) .nil
theorem zdw{es:List Expr}{fs:List Fe}(ha:PE X e (tE cl E f))(hr:PA X es (tAs cl E fs))(hs:starEach (e::es) X.env=(false,eval e X.env)::starEach es X.env):PA X (e::es) (tAs cl E (f::fs)):=by
 refine PA.imp (zc6 ha hr hs) ?_;rintro σ H Q ⟨B,w,ρ,S,rfl,R,q⟩;refine ⟨B,w,ρ,S,rfl,R,?_⟩;unfold zaq at q
 cases hf:f ρ S with
 | bad=>rw [hf] at q;exact q
 | exc c S1=>rw [hf] at q;exact q
 | ok d S1 =>
  rw [hf] at q;intro v w1 R1 F1 h1;refine ⟨B,w1,ρ,S1,rfl,R1,?_⟩;dsimp only [Out.bind] at q
  cases hh:zaq fs ρ S1 with
  | bad=>rw [hh] at q;exact q
  | exc c S2=>rw [hh] at q;exact fun w2 R2 F2=>q w2 R2 (F1.trans F2)
  | ok ds S2 =>
   rw [hh] at q;exact fun vs w2 R2 F2 h2=>q _ w2 R2 (F1.trans F2) (.cons (h1.up F2) h2)
theorem zp0:PA X [] (tHs cl E []):=by
 refine PA.imp zfv ?_;rintro σ H Q ⟨B,w,ρ,S,rfl,R,q⟩;exact q [] w R (Fut.refl _) .nil
theorem znT{es:List Expr}{fs:List Fe}(ha:PE X e (tH cl E f))(hr:PA X es (tHs cl E fs))(hs:starEach (e::es) X.env=(false,eval e X.env)::starEach es X.env):PA X (e::es) (tHs cl E (f::fs)):=by
 refine PA.imp (zc6 ha hr hs) ?_;rintro σ H Q ⟨B,w,ρ,S,rfl,R,q⟩;refine ⟨B,w,ρ,S,rfl,R,?_⟩;unfold zaq at q
 cases hf:f ρ S with
 | bad=>rw [hf] at q;exact q
 | exc c S1=>rw [hf] at q;exact q
 | ok d S1 =>
  rw [hf] at q;intro v w1 R1 F1 h1;refine ⟨B,w1,ρ,S1,rfl,R1,?_⟩;dsimp only [Out.bind] at q
  cases hh:zaq fs ρ S1 with
  | bad=>rw [hh] at q;exact q
  | exc c S2=>rw [hh] at q;exact fun w2 R2 F2=>q w2 R2 (F1.trans F2)
  | ok ds S2 =>
   rw [hh] at q;exact fun vs w2 R2 F2 h2=>q _ w2 R2 (F1.trans F2) (.cons (h1.up F2) h2)
theorem zp5{es:List Expr}{fs:List Fe}{k:Nat}(h:PA X es (tAs cl E fs)):PE X (.Tuple es k pos) (tE cl E (zbc fs)):=by
 refine PE.imp (zqw h) ?_;rintro σ H Q ⟨B,w,ρ,S,rfl,R,q⟩;refine ⟨B,w,ρ,S,rfl,R,?_⟩;unfold zbc at q
 cases hf:zaq fs ρ S with
 | bad=>rw [hf] at q;exact q
 | exc c S1=>rw [hf] at q;exact q
 | ok ds S1 =>
  rw [hf] at q;intro vs w1 R1 F1 h1;dsimp only [Out.bind] at q
  cases hz:zby ds.length with
  | false=>rw [hz,if_neg (by decide)] at q;exact q.elim
  | true =>
   rw [hz,if_pos rfl] at q;refine ⟨by rw [h1.length];exact zbu hz,fun p hp=>?_⟩;exact q _ (w1.add p (.tup vs)) (R1.grow (zaL hp _)) (F1.trans (zaL hp _).fut) (Shd.newT hp h1)
theorem zp9{es:List Expr}{fs:List Fe}(h:PA X es (tAs cl E fs)):PE X (.List es pos) (tN cl E (zhN fs)):=by
 refine PE.imp (zqD h) ?_;rintro σ H Q ⟨B,w,ρ,S,rfl,R,q⟩;refine ⟨B,w,ρ,S,rfl,R,?_⟩;unfold zhN at q
 cases hf:zaq fs ρ S with
 | bad=>rw [hf] at q;exact q
 | exc c S1=>rw [hf] at q;exact q
 | ok ds S1 =>
  rw [hf] at q;intro vs w1 R1 F1 h1;dsimp only [Out.bind] at q
  cases hz:zby ds.length with
  | false=>rw [hz,if_neg (by decide)] at q;exact q.elim
  | true =>
   rw [hz,if_pos rfl] at q;refine ⟨by rw [h1.length];exact zbu hz,fun p hp=>?_⟩;exact q _ (.lst vs) w1 R1 F1 hp (.lst h1)
theorem zpE{fs:List Fe}{gg:List D->Option D}{r:List V->Hp->VK->Prop}(hr:∀xs H Q,(∃w ds r,w.H=H/\zlx cl w xs ds/\gg ds=some r/\∀v w',Grow w w'->Shd cl w' v r->Q v w'.H)->r xs H Q){σ:St}{H:Hp}{Q:VK}(q:tE cl E (zaW gg fs) σ H Q):tCB r (tHs cl E fs) σ H Q:=by
 obtain ⟨B,w,ρ,S,rfl,R,q⟩:=q;refine ⟨B,w,ρ,S,rfl,R,?_⟩;unfold zaW at q
 cases hf:zaq fs ρ S with
 | bad=>rw [hf] at q;exact q
 | exc c S1=>rw [hf] at q;exact q
 | ok ds S1 =>
  rw [hf] at q;intro vs w1 R1 F1 h1;dsimp only [Out.bind] at q
  cases hg:gg ds with
  | none=>rw [hg] at q;exact q.elim
  | some d =>
   rw [hg] at q;exact hr _ _ _ ⟨w1,ds,d,rfl,h1.top R1,hg,fun v w' gr sh=>q v w' (R1.grow gr) (F1.trans gr.fut) sh⟩
theorem zsF{fs:List Fe}{gg:List D->Option D}{r:List V->Hp->VK->Prop}(hr:∀xs H Q,(∃w ds r,w.H=H/\zlx cl w xs ds/\gg ds=some r/\∀p o w',Grow w w'->w'.H p=none->Top cl w' o r->Q (.ref p) (upd w'.H p o))->r xs H Q){σ:St}{H:Hp}{Q:VK}(q:tN cl E (zaW gg fs) σ H Q):tCB r (tHs cl E fs) σ H Q:=by
 obtain ⟨B,w,ρ,S,rfl,R,q⟩:=q;refine ⟨B,w,ρ,S,rfl,R,?_⟩;unfold zaW at q
 cases hf:zaq fs ρ S with
 | bad=>rw [hf] at q;exact q
 | exc c S1=>rw [hf] at q;exact q
 | ok ds S1 =>
  rw [hf] at q;intro vs w1 R1 F1 h1;dsimp only [Out.bind] at q
  cases hg:gg ds with
  | none=>rw [hg] at q;exact q.elim
  | some d =>
   rw [hg] at q;exact hr _ _ _ ⟨w1,ds,d,rfl,h1.top R1,hg,fun p o w' gr hp t=>q p o w' (R1.grow gr) (F1.trans gr.fut) hp t⟩
end
end S2
namespace S2
open PySem PySem.Spec PyProof.Rows L2
def Root.out:Option Root->Option Root | some (.slot _)=>some .far | o=>o
theorem Root.out_none{o:Option Root}:Root.out o=none↔o=none:=by
 cases o with
 | none=>exact ⟨fun h=>h,fun h=>h⟩
 | some r=>cases r<;>simp [Root.out]
def ze4:Option Root->Bool | some (.fld _ _)=>true | some (.obj _)=>true | _=>false
def Wd.inn(w:Wd):Wd:=⟨w.H,fun a=>Root.out (w.ow a),w.mu⟩
def Wd.base(w:Wd):Base:=⟨fun a=>if ze4 (w.ow a)=true then none else w.H a,fun a=>Root.out (w.ow a)⟩
def Wd.back(w w':Wd):Wd:=⟨w'.H,fun a=>if (w.base.Fr a).isSome=true then w.ow a else Root.out (w'.ow a),w'.mu⟩
theorem zcz(w:Wd):Fut w w.inn:=⟨fun a o h k=>⟨h,by show Root.out (w.ow a)=none;rw [k];rfl⟩,fun _ _ h=>h⟩
theorem zhk{w:Wd}{a:Addr}{o:HO}(h:w.H a=some o)(k:ze4 (w.ow a)=false):w.base.Fr a=some o:=by
 show (if ze4 (w.ow a)=true then none else w.H a)=_;rw [k,if_neg (by decide)];exact h
theorem zos{w:Wd}{a:Addr}{o:HO}(h:w.base.Fr a=some o):w.H a=some o/\ze4 (w.ow a)=false:=by
 have h':(if ze4 (w.ow a)=true then none else w.H a)=some o:=h;split at h'
 ·cases h'
 ·rename_i z;exact ⟨h',by simpa using z⟩
section
variable{cl:Cf}{B:Base}{σ:St}{w w':Wd}{ρ:Env}{S S':Sto}
theorem World'.enter(W:World' cl B w S):World' cl w.base w.inn S where
 fr:=fun a o h=>⟨(zos h).1,rfl⟩
 own:=fun a r h=>by
  have h':Root.out (w.ow a)=some r:=h
  cases e:w.ow a with
  | none=>rw [e] at h';cases h'
  | some q =>
   cases q with
   | slot i=>rw [e] at h';cases h';exact .inl rfl
   | far=>rw [e] at h';cases h';exact .inl rfl
   | fld n f=>exact .inr (by show (if ze4 (w.ow a)=true then none else w.H a)=none;rw [e];rfl)
   | obj n=>exact .inr (by show (if ze4 (w.ow a)=true then none else w.H a)=none;rw [e];rfl)
 len:=W.len
 obj:=fun n ob h=>by
  obtain ⟨a,e,x⟩:=W.obj n ob h;refine ⟨a,e,x.keep (zcz w) fun a o ha hn=>⟨ha,?_⟩⟩;show Root.out (w.ow a)=w.ow a
  cases e:w.ow a with
  | none=>rfl
  | some q=>cases q with
   | slot i=>rw [e] at hn;exact hn.elim
   | _=>rfl
theorem zdH(W:World' cl B w S){a:Addr}{o:HO}(h:B.Fr a=some o):w.base.Fr a=some o:=by
 refine zhk (W.fr a o h).1 ?_
 cases e:w.ow a with
 | none=>rfl
 | some q =>
  rcases W.own a q e with rfl | z
  ·rfl
  ·rw [h] at z;cases z
theorem zdk(W':World' cl w.base w' S'):Fut w' (w.back w') where
 keep:=fun a o h k=>by
  refine ⟨h,?_⟩;show (if (w.base.Fr a).isSome=true then w.ow a else Root.out (w'.ow a))=none;split
  ·rename_i z;obtain ⟨u,hu⟩:=Option.isSome_iff_exists.mp z;have:=(W'.fr a u hu).2;rw [k] at this;exact Root.out_none.mp this.symm
  ·rw [k];rfl
 mu:=fun _ _ h=>h
theorem Rel.leave(R:Rel cl B σ w ρ S)(W':World' cl w.base w' S')(F:Fut w.inn w'):Rel cl B σ (w.back w') ρ S'/\Fut w (w.back w'):=by
 have fb:=zdk W';have ff:Fut w (w.back w'):=(zcz w).trans (F.trans fb)
 have in_:∀a o,w.base.Fr a=some o->(w.back w').H a=some o/\(w.back w').ow a=w.ow a:=fun a o h=>by
  refine ⟨(W'.fr a o h).1,?_⟩;show (if (w.base.Fr a).isSome=true then w.ow a else _)=_;rw [h];rfl
 refine ⟨⟨⟨fun a o h=>?_,fun a r h=>?_,W'.len,fun n ob h=>?_⟩,R.len,fun i o d h=>?_⟩,ff⟩
 ·have:=in_ a o (zdH R.wd h);exact ⟨this.1,this.2.trans (R.wd.fr a o h).2⟩
 ·cases hb:B.Fr a with
  | none=>exact .inr rfl
  | some o =>
   have:=(in_ a o (zdH R.wd hb)).2;rw [h] at this
   rcases R.wd.own a r this.symm with z | z
   ·exact .inl z
   ·rw [hb] at z;cases z
 ·obtain ⟨a,e,x⟩:=W'.obj n ob h;refine ⟨a,e,x.keep fb fun a o ha hn=>⟨ha,?_⟩⟩;show (if (w.base.Fr a).isSome=true then w.ow a else Root.out (w'.ow a))=_
  cases e:w'.ow a with
  | none=>rw [e] at hn;exact hn.elim
  | some q =>
   rcases W'.own a q e with rfl | z
   ·rw [e] at hn;exact hn.elim
   ·rw [z]
    cases q with
    | slot i=>rw [e] at hn;exact hn.elim
    | _=>rfl
 ·obtain ⟨v,e,x⟩:=R.slots i o d h;refine ⟨v,e,x.keep ff fun a u ha hr=>?_⟩;have:=in_ a u (zhk ha (by rw [hr];rfl));exact ⟨this.1,this.2.trans hr⟩
def Wd.del(w:Wd)(a:Addr):Wd:=⟨fun b=>if b=a then none else w.H b,w.ow,w.mu⟩
theorem zhJ{a:Addr}(k:w.ow a≠none):Fut w (w.del a) where
 keep:=fun b o h e=>⟨by
  show (if b=a then none else w.H b)=_
  rw [if_neg (fun z=>k (by rw [<-z];exact e))];exact h,e⟩
 mu:=fun _ _ h=>h
theorem zjG{a:Addr}{o:HO}(h:w.H a=some o):upd (w.del a).H a o=w.H:=by
 funext b
 by_cases e:b=a
 ·rw [e,zaQ,h]
 ·rw [zau e];show (if b=a then none else w.H b)=_;rw [if_neg e]
theorem Rel.del{a:Addr}(R:Rel cl B σ w ρ S)(k:w.ow a=some .far)(hb:B.Fr a=none):Rel cl B σ (w.del a) ρ S:=by
 have fd:Fut w (w.del a):=zhJ (by rw [k];exact Option.some_ne_none _)
 have kp:∀b o,w.H b=some o->b≠a->(w.del a).H b=some o:=fun b o h n=>by
  show (if b=a then none else w.H b)=_;rw [if_neg n];exact h
 refine ⟨⟨fun b o h=>⟨kp b o (R.wd.fr b o h).1 (fun z=>by rw [z,hb] at h;cases h),(R.wd.fr b o h).2⟩,R.wd.own,R.wd.len,fun n ob h=>?_⟩,R.len,fun i o d h=>?_⟩
 ·obtain ⟨c,e,x⟩:=R.wd.obj n ob h;exact ⟨c,e,x.keep fd fun b o hb' hn=>⟨kp b o hb' (fun z=>by rw [z,k] at hn;exact hn.elim),rfl⟩⟩
 ·obtain ⟨v,e,x⟩:=R.slots i o d h;exact ⟨v,e,x.keep fd fun b o hb' hr=>⟨kp b o hb' (fun z=>by rw [z,k] at hr;cases hr),hr⟩⟩
end
def zvX(cl:Cf)(w:Wd):Bool->V->D->Prop
 | false,v,d=>Shd cl w v d
 | true,v,d=>∃a o i,v=.ref a/\w.ow a=some (.slot i)/\w.H a=some o/\Top cl w o d
def zgz(cl:Cf)(n:Nat)(own:Bool)(G:List D->Sto->Out D):Sp:=fun vs H Q E=>vs.length=n/\∃B w ds S,w.H=H/\World' cl B w S/\Shds cl w vs ds/\match G ds S with
 | .ok d S'=>∀v w',World' cl B w' S'->Fut w w'->zvX cl w' own v d->Q v w'.H
 | .exc c S'=>∀w',World' cl B w' S'->Fut w w'->E (.ref (cl c)) none w'.H
 | .bad=>False
def zdf(CX:CXT)(X:Cx)(E:St->XK):Prop:=∀(pins:Z3) (σ:St) (H:Hp) (s:Shared) (e:Value) (s':Shared),Inv X pins σ H s->CX X.stack H s (E σ) e s'->X.xe e s'
def zgx(sp:Sp)(dvs:List V)(E:St->XK)(t:TA):TE:=fun σ H Q=>t σ H fun vs H1=>sp (vs++dvs) H1 Q (E σ)
section
variable{X:Cx}{CX:CXT}{k:Nat}{f C:Addr}{fd:FuncData}{ps:List Str}{sp:Sp}{dvs:List V}{ds:List Value}{E:St->XK}{x m:Str}{p pos apos:Pos}{e o:Expr}{es:List Expr}{ta:TE}{t:TA}
theorem zfY{pins:Z3}{σ:St}{H:Hp}{s:Shared}{Q:VK}{us:List Value}{vs:List V}(F:FnOk X.prog X.w X.K X.mg X.base CX k f fd ps sp)(hr:Room k X.A)(hb:zbJ X.K fd ps ds)(hd:Vals dvs ds)(hx:zdf CX X E)
  (I:Inv X pins σ H s) (r:Vals vs us) (h:sp (vs++dvs) H Q (E σ)):wpAny (model X.prog X.w) X.A (call (.ref f) us) (EP X pins σ Q) X.xe s:=by
 have r2:Vals (vs++dvs) (us++ds):=r.append hd
 have hl:(us++ds).length=ps.length:=by rw [<-r2.length];exact F.len _ _ _ _ h
 refine wpAny_call (codeAny_mono (F.run X.A X.stack s H ⟨us,[]⟩ (us++ds) (vs++dvs) Q (E σ) hr I.env0 (hb s us I.kIn hl) r2 h) fun r s' hq=>?_)
 cases r with
 | error e=>exact hx pins σ H s e s' I hq
 | ok fl =>
  cases fl with
  | ret u=>exact I.after hq
  | next=>exact False.elim hq
  | brk=>exact False.elim hq
  | cont=>exact False.elim hq
theorem zl8(F:FnOk X.prog X.w X.K X.mg X.base CX k f fd ps sp)(hr:Room k X.A)(hg:Gl X x)(hm:X.mg x=some (.ref f))(hk:PySem.W.keepIn X.K (.ref f)=true)(hb:zbJ X.K fd ps ds)(hd:Vals dvs ds)(hx:zdf CX X E)
  (ha:PA X (e::es) t) (hdb:(x == ("__debug__":Str))=false) (he:starEach (e::es) X.env=(false,eval e X.env)::starEach es X.env) (hpl:(backTo pos (starEach es X.env)).any (·.1)=false) :
  PE X (.Call (.Name x p) (e::es) [] pos) (zgx sp dvs E t):=by
 intro pins s σ H Q I h;refine wpAny_Call_Name_kw (zeZ I hg hm ?_ hdb);refine PySem.W.callWith_K (h₀:=X.base) I.ok.mod.kin hk (thn (ha pos pins s σ H _ I h) fun us s1 ⟨vs,H1,I1,r,q⟩=>⟨I1.kIn,?_⟩) he hpl;exact zfY F hr hb hd hx I1 r q
theorem zko(F:FnOk X.prog X.w X.K X.mg X.base CX k f fd ps sp)(hr:Room k X.A)(hg:Gl X x)(hm:X.mg x=some (.ref f))(hk:PySem.W.keepIn X.K (.ref f)=true)(hb:zbJ X.K fd ps ds)(hd:Vals dvs ds)(hx:zdf CX X E)
  (hdb:(x == ("__debug__":Str))=false):PE X (.Call (.Name x p) [] [] pos) (zgx sp dvs E zrX):=by
 intro pins s σ H Q I h;refine wpAny_Call_Name_kw (zeZ I hg hm ?_ hdb);exact PySem.W.callWith_K0 I.kIn hk (zfY (us:=[]) F hr hb hd hx I .nil h)
end
def eFn(G:List D->Sto->Out D)(fs:List Fe):Fe:=fun ρ S=>(zaq fs ρ S).bind fun ds S1=>G ds S1
section
variable{cl:Cf}{E:St->XK}{fs:List Fe}{G:List D->Sto->Out D}{σ:St}{H:Hp}{Q:VK}{n:Nat}
theorem zrI(q:tE cl E (eFn G fs) σ H Q)(hn:fs.length=n):zgx (zgz cl n false G) [] E (tAs cl E fs) σ H Q:=by
 obtain ⟨B,w,ρ,S,rfl,R,q⟩:=q;refine ⟨B,w,ρ,S,rfl,R,?_⟩;unfold eFn at q
 cases hf:zaq fs ρ S with
 | bad=>rw [hf] at q;exact q
 | exc c S1=>rw [hf] at q;exact q
 | ok ds S1 =>
  rw [hf] at q;intro vs w1 R1 F1 h1;dsimp only [Out.bind] at q
  have hl:∀(fs:List Fe) (S S1:Sto) (ds:List D),zaq fs ρ S=.ok ds S1->ds.length=fs.length:=by
   intro fs
   induction fs with
   | nil=>intro S S1 ds h;cases h;rfl
   | cons f fs ih =>
    intro S S1 ds h;unfold zaq at h
    cases h1:f ρ S with
    | bad=>rw [h1] at h;cases h
    | exc c S2=>rw [h1] at h;cases h
    | ok d S2 =>
     rw [h1] at h;dsimp only [Out.bind] at h
     cases h2:zaq fs ρ S2 with
     | bad=>rw [h2] at h;cases h
     | exc c S3=>rw [h2] at h;cases h
     | ok es S3=>rw [h2] at h;cases h;rw [List.length_cons,List.length_cons,ih S2 _ es h2]
  refine ⟨by rw [List.append_nil,h1.length,hl fs S S1 ds hf];exact hn,w1.base,w1.inn,ds,S1,rfl,R1.wd.enter,by rw [List.append_nil];exact h1.up (zcz w1),?_⟩
  cases hg:G ds S1 with
  | bad=>rw [hg] at q;exact q
  | exc c S2 =>
   rw [hg] at q;intro w2 W2 F2;obtain ⟨R3,F3⟩:=R1.leave W2 F2;exact q (w1.back w2) R3 (F1.trans F3)
  | ok d S2 =>
   rw [hg] at q;intro v w2 W2 F2 r2;obtain ⟨R3,F3⟩:=R1.leave W2 F2;exact q v (w1.back w2) R3 (F1.trans F3) (Shd.up (zdk W2) r2)
theorem zrH(q:tN cl E (eFn G fs) σ H Q)(hn:fs.length=n):zgx (zgz cl n true G) [] E (tAs cl E fs) σ H Q:=by
 obtain ⟨B,w,ρ,S,rfl,R,q⟩:=q;refine ⟨B,w,ρ,S,rfl,R,?_⟩;unfold eFn at q
 cases hf:zaq fs ρ S with
 | bad=>rw [hf] at q;exact q
 | exc c S1=>rw [hf] at q;exact q
 | ok ds S1 =>
  rw [hf] at q;intro vs w1 R1 F1 h1;dsimp only [Out.bind] at q
  have hl:∀(fs:List Fe) (S S1:Sto) (ds:List D),zaq fs ρ S=.ok ds S1->ds.length=fs.length:=by
   intro fs
   induction fs with
   | nil=>intro S S1 ds h;cases h;rfl
   | cons f fs ih =>
    intro S S1 ds h;unfold zaq at h
    cases h1:f ρ S with
    | bad=>rw [h1] at h;cases h
    | exc c S2=>rw [h1] at h;cases h
    | ok d S2 =>
     rw [h1] at h;dsimp only [Out.bind] at h
     cases h2:zaq fs ρ S2 with
     | bad=>rw [h2] at h;cases h
     | exc c S3=>rw [h2] at h;cases h
     | ok es S3=>rw [h2] at h;cases h;rw [List.length_cons,List.length_cons,ih S2 _ es h2]
  refine ⟨by rw [List.append_nil,h1.length,hl fs S S1 ds hf];exact hn,w1.base,w1.inn,ds,S1,rfl,R1.wd.enter,by rw [List.append_nil];exact h1.up (zcz w1),?_⟩
  cases hg:G ds S1 with
  | bad=>rw [hg] at q;exact q
  | exc c S2 =>
   rw [hg] at q;intro w2 W2 F2;obtain ⟨R3,F3⟩:=R1.leave W2 F2;exact q (w1.back w2) R3 (F1.trans F3)
  | ok d S2 =>
   rw [hg] at q;intro v w2 W2 F2 r2;obtain ⟨R3,F3⟩:=R1.leave W2 F2;obtain ⟨a,o,i,rfl,k1,k2,t⟩:=r2;have hfr:w1.base.Fr a=none:=(W2.own a _ k1).elim (fun z=>by cases z) fun z=>z
   have k3:(w1.back w2).ow a=some .far:=by
    show (if (w1.base.Fr a).isSome=true then w1.ow a else Root.out (w2.ow a))=_;rw [hfr,k1];rfl
   have hb:B.Fr a=none:=by
    cases z:B.Fr a with
    | none=>rfl
    | some u=>rw [zdH R1.wd z] at hfr;cases hfr
   have hd:=zhJ (w:=w1.back w2) (a:=a) (by rw [k3];exact Option.some_ne_none _);have:=q a o ((w1.back w2).del a) (R3.del k3 hb) (F1.trans (F3.trans hd)) (if_pos rfl) ((t.up (zdk W2)).up hd);rw [zjG (w:=w1.back w2) k2] at this;exact this
end
end S2
namespace S2
open PySem PySem.Spec PyProof.Rows L2
def frz1(ρ:Env)(i:Nat):Env:=match ρ[i]? with | some (some (true,d))=>ρ.set i (some (false,d)) | _=>ρ
def frz(is:List Nat)(ρ:Env):Env:=is.foldl frz1 ρ
def sFz(is:List Nat)(f:Fs):Fs:=fun ρ S=>f (frz is ρ) S
def sNx:Fs:=fun ρ S=>.nx ρ S
def sBk:Fs:=fun ρ S=>.bk ρ S
def zaj(f g:Fs):Fs:=fun ρ S=>match f ρ S with | .nx ρ' S'=>g ρ' S' | o=>o
def zcl(i:Nat)(own:Bool)(f:Fe):Fs:=fun ρ S=>match f ρ S with | .ok d S'=>.nx (ρ.set i (some (own,d))) S' | .exc c S'=>.ex c ρ S' | .bad=>.bad
def zlQ(f:Fe):Fs:=fun ρ S=>match f ρ S with | .ok _ S'=>.nx ρ S' | .exc c S'=>.ex c ρ S' | .bad=>.bad
def zbh(f:Fe):Fs:=fun ρ S=>match f ρ S with | .ok d S'=>.rt d S' | .exc c S'=>.ex c ρ S' | .bad=>.bad
def zlP:Fs:=fun _ S=>.rt .non S
def zhp(i:Nat):Fs:=fun ρ S=>match ρ[i]? with | some (some (true,d))=>.rt d S | _=>.bad
def sIf(c:Fe)(f g:Fs):Fs:=fun ρ S=>match c ρ S with | .ok d S'=>(match isB d with | some true=>f ρ S' | some false=>g ρ S' | none=>.bad) | .exc x S'=>.ex x ρ S' | .bad=>.bad
def ziX(cl:Cf)(E:St->XK)(own:Bool)(B:Base)(w:Wd)(De:Ends):Fo->Prop
 | .nx ρ' S'=>∀σ' w',Rel cl B σ' w' ρ' S'->Fut w w'->De.nx σ' w'.H
 | .bk ρ' S'=>∀σ' w',Rel cl B σ' w' ρ' S'->Fut w w'->De.bk σ' w'.H
 | .ct ρ' S'=>∀σ' w',Rel cl B σ' w' ρ' S'->Fut w w'->De.ct σ' w'.H
 | .rt d S'=>∀v w',World' cl B w' S'->Fut w w'->zvX cl w' own v d->De.rt v w'.H
 | .ex c ρ' S'=>∀σ' w',Rel cl B σ' w' ρ' S'->Fut w w'->E σ' (.ref (cl c)) none w'.H
 | .bad=>False
theorem ziX.up{cl:Cf}{E:St->XK}{own:Bool}{B:Base}{w w1:Wd}{De:Ends}(f:Fut w w1):∀{o:Fo},ziX cl E own B w De o->ziX cl E own B w1 De o
 | .nx _ _,h=>fun σ' w' R F=>h σ' w' R (f.trans F)
 | .bk _ _,h=>fun σ' w' R F=>h σ' w' R (f.trans F)
 | .ct _ _,h=>fun σ' w' R F=>h σ' w' R (f.trans F)
 | .rt _ _,h=>fun v w' R F=>h v w' R (f.trans F)
 | .ex _ _ _,h=>fun σ' w' R F=>h σ' w' R (f.trans F)
 | .bad,h=>h
def tS(cl:Cf)(E:St->XK)(own:Bool)(f:Fs):TS:=fun De σ H=>∃B w ρ S,w.H=H/\Rel cl B σ w ρ S/\ziX cl E own B w De (f ρ S)
theorem PS.imp{X:Cx}{st:Stmt}{t t':TS}(h:PS X st t)(i:∀De σ H,t' De σ H->t De σ H):PS X st t':=fun pins s σ H De I q=>h pins s σ H De I (i _ _ _ q)
theorem PSs.imp{X:Cx}{st:List Stmt}{t t':TS}(h:PSs X st t)(i:∀De σ H,t' De σ H->t De σ H):PSs X st t':=fun pins s σ H De I q=>h pins s σ H De I (i _ _ _ q)
section
variable{cl:Cf}{B:Base}{σ:St}{w:Wd}{ρ:Env}{S:Sto}
theorem Rel.put{i:Nat}{v:V}{d:D}(R:Rel cl B σ w ρ S)(h:Shd cl w v d):Rel cl B (σ.set i (some v)) w (ρ.set i (some (false,d))) S where
 wd:=R.wd
 len:=by rw [List.length_set,List.length_set];exact R.len
 slots:=fun j o e hj=>by
  by_cases hij:i=j
  ·subst hij
   have hlt:i<ρ.length:=by
    have:=(List.getElem?_eq_some_iff.mp hj).1;rw [List.length_set] at this;exact this
   rw [List.getElem?_set_self hlt] at hj;cases hj;exact ⟨v,by rw [List.getElem?_set_self (by rw [R.len];exact hlt)],h⟩
  ·rw [List.getElem?_set_ne hij] at hj ⊢;exact R.slots j o e hj
def Wd.addAs(w:Wd)(p:Addr)(o:HO)(r:Root):Wd:=⟨upd w.H p o,fun a=>if a=p then some r else if w.ow a=some r then some .far else w.ow a,w.mu⟩
theorem zce{p:Addr}{o:HO}{r:Root}(h:w.H p=none):Fut w (w.addAs p o r) where
 keep:=fun a u ha hk=>by
  have n:a≠p:=zaB ha h;refine ⟨?_,?_⟩
  ·show upd w.H p o a=_;rw [zau n];exact ha
  ·show (if a=p then some r else if w.ow a=some r then some Root.far else w.ow a)=none;rw [if_neg n,if_neg (by rw [hk];exact fun z=>by cases z)];exact hk
 mu:=fun _ _ h=>h
theorem Rel.own{i:Nat}{p:Addr}{o:HO}{d:D}(R:Rel cl B σ w ρ S)(hp:w.H p=none)(t:Top cl w o d):Rel cl B (σ.set i (some (.ref p))) (w.addAs p o (.slot i)) (ρ.set i (some (true,d))) S:=by
 have ff:=zce (w:=w) (p:=p) (o:=o) (r:=.slot i) hp
 have kp:∀a u,w.H a=some u->w.ow a≠some (.slot i)->(w.addAs p o (.slot i)).H a=some u/\(w.addAs p o (.slot i)).ow a=w.ow a:=fun a u ha hk=>by
  have n:a≠p:=zaB ha hp;refine ⟨?_,?_⟩
  ·show upd w.H p o a=_;rw [zau n];exact ha
  ·show (if a=p then _ else if w.ow a=some (Root.slot i) then some Root.far else w.ow a)=_;rw [if_neg n,if_neg hk]
 have hBp:B.Fr p=none:=by
  cases z:B.Fr p with
  | none=>rfl
  | some u=>have:=(R.wd.fr p u z).1;rw [hp] at this;cases this
 refine ⟨⟨fun a u h=>?_,fun a r h=>?_,R.wd.len,fun n ob h=>?_⟩,by rw [List.length_set,List.length_set];exact R.len,fun j b e hj=>?_⟩
 ·have hne:w.ow a≠some (.slot i):=fun z=>by
   rcases R.wd.own a _ z with y | y
   ·cases y
   ·rw [h] at y;cases y
  have:=kp a u (R.wd.fr a u h).1 hne;exact ⟨this.1,this.2.trans (R.wd.fr a u h).2⟩
 ·have h':(if a=p then some (Root.slot i) else if w.ow a=some (Root.slot i) then some Root.far else w.ow a)=some r:=h;split at h'
  ·rename_i e;rw [e];exact .inr hBp
  ·split at h'
   ·cases h';exact .inl rfl
   ·exact R.wd.own a r h'
 ·obtain ⟨a,e,x⟩:=R.wd.obj n ob h;exact ⟨a,e,x.keep ff fun b u hb hn=>kp b u hb fun z=>by rw [z] at hn;exact hn⟩
 ·by_cases hij:i=j
  ·subst hij
   have hlt:i<ρ.length:=by
    have:=(List.getElem?_eq_some_iff.mp hj).1;rw [List.length_set] at this;exact this
   rw [List.getElem?_set_self hlt] at hj;cases hj;exact ⟨.ref p,by rw [List.getElem?_set_self (by rw [R.len];exact hlt)],p,o,rfl,if_pos rfl,zaQ,t.up ff⟩
  ·rw [List.getElem?_set_ne hij] at hj ⊢;obtain ⟨v,e1,x⟩:=R.slots j b e hj;refine ⟨v,e1,x.keep ff fun a u ha hr=>?_⟩;have:=kp a u ha (by rw [hr];exact fun z=>hij (by cases z;rfl));exact ⟨this.1,this.2.trans hr⟩
def Wd.mut(w:Wd)(p:Addr)(o:HO):Wd:=⟨upd w.H p o,w.ow,w.mu⟩
theorem zge{p:Addr}{o:HO}(h:w.ow p≠none):Fut w (w.mut p o) where
 keep:=fun a u ha hk=>⟨by
  show upd w.H p o a=_
  rw [zau (fun z=>h (by rw [<-z];exact hk))];exact ha,hk⟩
 mu:=fun _ _ h=>h
theorem Rel.mut{i:Nat}{p:Addr}{o:HO}{d d0:D}(R:Rel cl B σ w ρ S)(hs:σ[i]?=some (some (.ref p)))(hk:w.ow p=some (.slot i))(t:Top cl w o d):Rel cl B σ (w.mut p o) (ρ.set i (some (true,d))) S:=by
 have ff:=zge (w:=w) (p:=p) (o:=o) (by rw [hk];exact Option.some_ne_none _)
 have kp:∀a u,w.H a=some u->w.ow a≠some (.slot i)->(w.mut p o).H a=some u/\(w.mut p o).ow a=w.ow a:=fun a u ha hn=>⟨by
  show upd w.H p o a=_
  rw [zau (fun z=>hn (by rw [z];exact hk))];exact ha,rfl⟩
 have hBp:B.Fr p=none:=(R.wd.own p _ hk).elim (fun z=>by cases z) fun z=>z
 refine ⟨⟨fun a u h=>?_,R.wd.own,R.wd.len,fun n ob h=>?_⟩,by rw [List.length_set];exact R.len,fun j b e hj=>?_⟩
 ·have hne:w.ow a≠some (.slot i):=fun z=>by
   rcases R.wd.own a _ z with y | y
   ·cases y
   ·rw [h] at y;cases y
  have:=kp a u (R.wd.fr a u h).1 hne;exact ⟨this.1,(R.wd.fr a u h).2⟩
 ·obtain ⟨a,e,x⟩:=R.wd.obj n ob h;exact ⟨a,e,x.keep ff fun b u hb hn=>kp b u hb fun z=>by rw [z] at hn;exact hn⟩
 ·by_cases hij:i=j
  ·subst hij
   have hlt:i<ρ.length:=by
    have:=(List.getElem?_eq_some_iff.mp hj).1;rw [List.length_set] at this;exact this
   rw [List.getElem?_set_self hlt] at hj;cases hj;exact ⟨.ref p,hs,p,o,rfl,hk,zaQ,t.up ff⟩
  ·rw [List.getElem?_set_ne hij] at hj;obtain ⟨v,e1,x⟩:=R.slots j b e hj;refine ⟨v,e1,x.keep ff fun a u ha hr=>?_⟩;have:=kp a u ha (by rw [hr];exact fun z=>hij (by cases z;rfl));exact ⟨this.1,this.2.trans hr⟩
def Wd.free(w:Wd)(r:Root):Wd:=⟨w.H,fun a=>if w.ow a=some r then none else w.ow a,w.mu⟩
theorem zmx{r:Root}:Fut w (w.free r) where
 keep:=fun a u ha hk=>⟨ha,by
  show (if w.ow a=some r then none else w.ow a)=none
  rw [hk];rfl⟩
 mu:=fun _ _ h=>h
theorem Top.shd{o:HO}{d:D}{a:Addr}(h:w.H a=some o)(k:w.ow a=none):Top cl w o d->Shd cl w (.ref a) d
 | .lst t=>.lst h k t
 | .dicK t=>.dicK h k t
theorem Rel.frz1(R:Rel cl B σ w ρ S)(i:Nat):∃w',w'.H=w.H/\Fut w w'/\Rel cl B σ w' (frz1 ρ i) S:=by
 unfold S2.frz1;split
 ·rename_i d hd;have ff:=zmx (w:=w) (r:=.slot i);have kp:∀a u,w.H a=some u->w.ow a≠some (.slot i)->(w.free (.slot i)).H a=some u/\(w.free (.slot i)).ow a=w.ow a:=fun a u ha hn=>⟨ha,if_neg hn⟩
  refine ⟨w.free (.slot i),rfl,ff,⟨fun a u h=>?_,fun a r h=>?_,R.wd.len,fun n ob h=>?_⟩,by rw [List.length_set];exact R.len,fun j b e hj=>?_⟩
  ·have hne:w.ow a≠some (.slot i):=fun z=>by
    rcases R.wd.own a _ z with y | y
    ·cases y
    ·rw [h] at y;cases y
   have:=kp a u (R.wd.fr a u h).1 hne;exact ⟨this.1,this.2.trans (R.wd.fr a u h).2⟩
  ·have h':(if w.ow a=some (Root.slot i) then none else w.ow a)=some r:=h;split at h'
   ·cases h'
   ·exact R.wd.own a r h'
  ·obtain ⟨a,e,x⟩:=R.wd.obj n ob h;exact ⟨a,e,x.keep ff fun b u hb hn=>kp b u hb fun z=>by rw [z] at hn;exact hn⟩
  ·by_cases hij:i=j
   ·subst hij;have hlt:i<ρ.length:=(List.getElem?_eq_some_iff.mp hd).1;rw [List.getElem?_set_self hlt] at hj;cases hj;obtain ⟨v,e1,a,o,rfl,h1,h2,t⟩:=R.slots i true d hd;refine ⟨.ref a,e1,(t.up ff).shd h2 ?_⟩;show (if w.ow a=some (Root.slot i) then none else w.ow a)=none;rw [if_pos h1]
   ·rw [List.getElem?_set_ne hij] at hj;obtain ⟨v,e1,x⟩:=R.slots j b e hj;refine ⟨v,e1,x.keep ff fun a u ha hr=>?_⟩;have:=kp a u ha (by rw [hr];exact fun z=>hij (by cases z;rfl));exact ⟨this.1,this.2.trans hr⟩
 ·exact ⟨w,rfl,Fut.refl _,R⟩
theorem Rel.frz:∀(is:List Nat) {w:Wd} {ρ:Env},Rel cl B σ w ρ S->∃w',w'.H=w.H/\Fut w w'/\Rel cl B σ w' (frz is ρ) S
 | [],w,ρ,R=>⟨w,rfl,Fut.refl _,R⟩
 | i::is,w,ρ,R=>by
  obtain ⟨w1,e1,f1,R1⟩:=R.frz1 i;obtain ⟨w2,e2,f2,R2⟩:=Rel.frz is R1;exact ⟨w2,e2.trans e1,f1.trans f2,R2⟩
end
section
variable{X:Cx}{cl:Cf}{E:St->XK}{own:Bool}{st:Stmt}{zcm:List Stmt}{f g:Fs}{e:Expr}{fe:Fe}{pos pos':Pos}
theorem zsK(is:List Nat)(h:PS X st (tS cl E own f)):PS X st (tS cl E own (sFz is f)):=by
 refine PS.imp h ?_;rintro De σ H ⟨B,w,ρ,S,rfl,R,q⟩;obtain ⟨w',e',f',R'⟩:=R.frz is;exact ⟨B,w',frz is ρ,S,e',R',ziX.up f' q⟩
theorem zpP:PSs X [] (tS cl E own sNx):=by
 refine PSs.imp zn9 ?_;rintro De σ H ⟨B,w,ρ,S,rfl,R,q⟩;exact q σ w R (Fut.refl _)
theorem znP(h1:PS X st (tS cl E own f))(h2:PSs X zcm (tS cl E own g)):PSs X (st::zcm) (tS cl E own (zaj f g)):=by
 refine PSs.imp (zlY h1 h2) ?_;rintro De σ H ⟨B,w,ρ,S,rfl,R,q⟩;refine ⟨B,w,ρ,S,rfl,R,?_⟩;unfold zaj at q
 cases hf:f ρ S with
 | nx ρ' S' =>
  rw [hf] at q;intro σ' w' R' F';exact ⟨B,w',ρ',S',rfl,R',ziX.up F' q⟩
 | bk ρ' S'=>rw [hf] at q;exact q
 | ct ρ' S'=>rw [hf] at q;exact q
 | rt d S'=>rw [hf] at q;exact q
 | ex c ρ' S'=>rw [hf] at q;exact q
 | bad=>rw [hf] at q;exact q
theorem znM:PS X (.Pass pos) (tS cl E own sNx):=by
 refine PS.imp zob ?_;rintro De σ H ⟨B,w,ρ,S,rfl,R,q⟩;exact q σ w R (Fut.refl _)
theorem zpR:PS X (.Break pos) (tS cl E own sBk):=by
 refine PS.imp zl0 ?_;rintro De σ H ⟨B,w,ρ,S,rfl,R,q⟩;exact q σ w R (Fut.refl _)
theorem ztO{i:Nat}{De:Ends}{σ:St}{H:Hp}(q:tS cl E own (zcl i false fe) De σ H):zpm (tE cl E fe) (zk3 i) De σ H:=by
 obtain ⟨B,w,ρ,S,rfl,R,q⟩:=q;refine ⟨B,w,ρ,S,rfl,R,?_⟩;unfold zcl at q
 cases hf:fe ρ S with
 | bad=>rw [hf] at q;exact q
 | exc c S1=>rw [hf] at q;exact fun w' R' F'=>q σ w' R' F'
 | ok d S1 =>
  rw [hf] at q;intro v w' R' F' h';exact q _ w' (R'.put h') F'
theorem zrN{i:Nat}{De:Ends}{σ:St}{H:Hp}(q:tS cl E own (zcl i true fe) De σ H):zpm (tN cl E fe) (zk3 i) De σ H:=by
 obtain ⟨B,w,ρ,S,rfl,R,q⟩:=q;refine ⟨B,w,ρ,S,rfl,R,?_⟩;unfold zcl at q
 cases hf:fe ρ S with
 | bad=>rw [hf] at q;exact q
 | exc c S1=>rw [hf] at q;exact fun w' R' F'=>q σ w' R' F'
 | ok d S1 =>
  rw [hf] at q;intro p o w' R' F' hp t;exact q _ (w'.addAs p o (.slot i)) (R'.own hp t) (F'.trans (zce hp))
theorem zpT{i:Nat}{x:Str}(hN:X.N.Nodup)(hi:X.N[i]?=some x)(hx:Loc X.env.scope x)(he:PE X e (tE cl E fe))(hs:swapsWith e (some (.Name x pos')) pos.line X.env=pure false)(hf:X.fn x=true\/X.env.scope.names.lookup x=some .local):PS X (.Assign [.Name x pos'] e pos) (tS cl E own (zcl i false fe)) :=
 PS.imp (zm1 hN hi hx he hs hf) fun _ _ _ q=>ztO q
theorem zjX{i:Nat}{x:Str}(hN:X.N.Nodup)(hi:X.N[i]?=some x)(hx:Loc X.env.scope x)(he:PE X e (tN cl E fe))(hs:swapsWith e (some (.Name x pos')) pos.line X.env=pure false)(hf:X.fn x=true\/X.env.scope.names.lookup x=some .local):PS X (.Assign [.Name x pos'] e pos) (tS cl E own (zcl i true fe)) :=
 PS.imp (zm1 hN hi hx he hs hf) fun _ _ _ q=>zrN q
theorem zmY(he:PE X e (tE cl E fe))(hs:swapsWith e none pos.line X.env=pure false):PS X (.Expr e pos) (tS cl E own (zlQ fe)):=by
 refine PS.imp (zkg he hs) ?_;rintro De σ H ⟨B,w,ρ,S,rfl,R,q⟩;refine ⟨B,w,ρ,S,rfl,R,?_⟩;unfold zlQ at q
 cases hf:fe ρ S with
 | bad=>rw [hf] at q;exact q
 | exc c S1=>rw [hf] at q;exact fun w' R' F'=>q σ w' R' F'
 | ok d S1=>rw [hf] at q;exact fun v w' R' F' _=>q σ w' R' F'
theorem zpO(he:PE X e (tE cl E fe)):PS X (.Return (some e) pos) (tS cl E false (zbh fe)):=by
 refine PS.imp (zke he) ?_;rintro De σ H ⟨B,w,ρ,S,rfl,R,q⟩;refine ⟨B,w,ρ,S,rfl,R,?_⟩;unfold zbh at q
 cases hf:fe ρ S with
 | bad=>rw [hf] at q;exact q
 | exc c S1=>rw [hf] at q;exact fun w' R' F'=>q σ w' R' F'
 | ok d S1=>rw [hf] at q;exact fun v w' R' F' h'=>q v w' R'.wd F' h'
theorem znJ(he:PE X e (tN cl E fe)):PS X (.Return (some e) pos) (tS cl E true (zbh fe)):=by
 refine PS.imp (zke he) ?_;rintro De σ H ⟨B,w,ρ,S,rfl,R,q⟩;refine ⟨B,w,ρ,S,rfl,R,?_⟩;unfold zbh at q
 cases hf:fe ρ S with
 | bad=>rw [hf] at q;exact q
 | exc c S1=>rw [hf] at q;exact fun w' R' F'=>q σ w' R' F'
 | ok d S1 =>
  rw [hf] at q;intro p o w' R' F' hp t;have ff:=zce (w:=w') (p:=p) (o:=o) (r:=.slot 0) hp;exact q (.ref p) (w'.addAs p o (.slot 0)) (Rel.own (i:=0) R' hp t).wd (F'.trans ff) ⟨p,o,0,rfl,if_pos rfl,zaQ,t.up ff⟩
theorem znI{i:Nat}{x:Str}(hN:X.N[i]?=some x)(hv:Vis X.env.scope x)(hd:(x == ("__debug__":Str))=false)(hcd:(x == ("__classdict__":Str))=false):PS X (.Return (some (.Name x pos')) pos) (tS cl E true (zhp i)):=by
 refine PS.imp (zke (zeQ hN hv hd hcd)) ?_;rintro De σ H ⟨B,w,ρ,S,rfl,R,q⟩;unfold zhp at q;split at q
 ·rename_i d hd;obtain ⟨v,e1,a,o,rfl,h1,h2,t⟩:=R.slots i true d hd;exact ⟨_,e1,q _ w R.wd (Fut.refl _) ⟨a,o,i,rfl,h1,h2,t⟩⟩
 ·exact q.elim
theorem znK:PS X (.Return none pos) (tS cl E false zlP):=by
 refine PS.imp zoa ?_;rintro De σ H ⟨B,w,ρ,S,rfl,R,q⟩;exact q .non w R.wd (Fut.refl _) .non
theorem zsJ{c:Expr}{a b:List Stmt}{fc:Fe}(hc:PT X c (tTr cl E fc))(ha:PSs X a (tS cl E own f))(hb:PSs X b (tS cl E own g)):PS X (.If c a b pos) (tS cl E own (sIf fc f g)):=by
 refine PS.imp (zs0 hc ha hb) ?_;rintro De σ H ⟨B,w,ρ,S,rfl,R,q⟩;refine ⟨B,w,ρ,S,rfl,R,?_⟩;unfold sIf at q
 cases hg:fc ρ S with
 | bad=>rw [hg] at q;exact q
 | exc c S1=>rw [hg] at q;exact fun w' R' F'=>q σ w' R' F'
 | ok d S1 =>
  rw [hg] at q;dsimp only at q ⊢
  cases hb:isB d with
  | none=>rw [hb] at q;exact q.elim
  | some b =>
   rw [hb] at q;intro w1 R1 F1
   cases b with
   | true=>exact znb ⟨B,w1,ρ,S1,rfl,R1,ziX.up F1 q⟩
   | false=>exact znc ⟨B,w1,ρ,S1,rfl,R1,ziX.up F1 q⟩
end
def zj6(i:Nat)(fe:Fe):Fs:=fun ρ S=>match ρ[i]? with
 | some (some (true,.lst l))=>(match fe ρ S with
  | .ok d S'=>if zby l.length then .nx (ρ.set i (some (true,.lst (l++[d])))) S' else .bad
  | .exc c S'=>.ex c ρ S' | .bad=>.bad)
 | _=>.bad
section
variable{X:Cx}{cl:Cf}{E:St->XK}{own:Bool}{e:Expr}{fe:Fe}{pos pos':Pos}
theorem zlM{n:Nat}(h:zby n=true):n<sizeLine:=Nat.lt_of_le_of_lt (of_decide_eq_true h) (by decide)
theorem Rel.list{B:Base}{σ:St}{w:Wd}{ρ:Env}{S:Sto}{i:Nat}{l:List D}(R:Rel cl B σ w ρ S)(h:ρ[i]?=some (some (true,.lst l))):∃a xs,σ[i]?=some (some (.ref a))/\w.ow a=some (.slot i)/\w.H a=some (.lst xs)/\Shds cl w xs l:=by
 obtain ⟨v,e1,a,o,rfl,h1,h2,t⟩:=R.slots i true _ h
 cases t with
 | lst t=>exact ⟨a,_,e1,h1,h2,t⟩
theorem zpU{i:Nat}{x:Str}{ap cp:Pos}(hN:X.N[i]?=some x)(hv:Vis X.env.scope x)(hd:(x == ("__debug__":Str))=false)(hcd:(x == ("__classdict__":Str))=false)(he:PE X e (tE cl E fe))
  (hpl:zcJ e=true) (hln:(ap.endLine == cp.line)=true):PS X (.Expr (.Call (.Attribute (.Name x pos') "append" ap) [e] [] cp) pos) (tS cl E own (zj6 i fe)):=by
 refine PS.imp (zkg (zs3 (es:=[]) PySem.F.plainAttrs_list PySem.F.slot_list_append PySem.F.type_list_append zky (zeQ hN hv hd hcd) (zc6 he zfv (zcc hpl)) (hfew:=zrv (by simp [hpl]) (by simp)) (hline:=hln) (hs:=zcc hpl) (hplain:=rfl))) ?_;rintro De σ H ⟨B,w,ρ,S,rfl,R,q⟩;unfold zj6 at q;split at q
 ·rename_i l hl;obtain ⟨a,xs,e1,h1,h2,t⟩:=R.list hl;refine ⟨_,e1,.inl ⟨rfl,_,SqL.of h2⟩,B,w,ρ,S,rfl,R,?_⟩
  cases hf:fe ρ S with
  | bad=>rw [hf] at q;exact q
  | exc c S1=>rw [hf] at q;exact fun w' R' F'=>q σ w' R' F'
  | ok d S1 =>
   rw [hf] at q;intro v w' R' F' h';dsimp only at q
   cases hz:zby l.length with
   | false=>rw [hz,if_neg (by decide)] at q;exact q.elim
   | true =>
    rw [hz,if_pos rfl] at q;obtain ⟨a',xs',e1',h1',h2',t'⟩:=R'.list hl;rw [e1] at e1';cases e1';refine ⟨a,xs',v,rfl,rfl,h2',by rw [t'.length];exact zlM hz,?_⟩;exact q σ (w'.mut a (.lst (xs'++[v]))) (R'.mut (d0:=.non) e1 h1' (.lst (t'.append (.cons h' .nil)))) (F'.trans (zge (by rw [h1'];exact Option.some_ne_none _)))
 ·exact q.elim
end
end S2
namespace L2
open PySem PySem.Spec PyProof.Rows
section
variable{prog:Program}{w:World}{A:Around}{E:Z5}{s:Shared}
theorem zlI{it t:Addr}{j:Nat}{vs:Array Value}{v:Value}{Q:Z5}(st:s.heap.IsTupleIter it t j)(tp:s.heap.IsTuple t vs)(e:vs[j]?=some v)
  (q:∀h',h'.IsTupleIter it t (j+1)->Heap.SameBut it s.heap h'->Q v { s with heap:=h' }):wpAny (model prog w) A (Builtin.SmallTypes.nextOf (.ref it)) Q E s:=by
 obtain ⟨o1,g1,c1,d1⟩:=id st;obtain ⟨o2,g2,_,n2,d2⟩:=tp;unfold Builtin.SmallTypes.nextOf;refine wpAny_bind (wpAny_callSpecial?_slot (name:=Str.ofString "__next__") st.typeIs F.slot_tuple_iterator_next (wpAny_call_entry F.slot_tuple_iterator_next st.typeIs F.entry_tuple_iterator_next ?_ (F.args_tuple_iterator_next_1 _)));show wpAny _ _ (field (.ref it) 0 >>= _) _ _ s;refine wpAny_bind (wpAny_field g1 d1 (x:=.ref t) rfl ?_);show wpAny _ _ (if (Value.ref t == Value.none)=true then _ else _) _ _ s;rw [if_neg (show ¬ ((Value.ref t == Value.none)=true) from fun z=>Bool.false_ne_true z)];show wpAny _ _ (field (.ref it) 1 >>= _) _ _ s;refine wpAny_bind (wpAny_field g1 d1 (x:=.int j 0) rfl ?_);show wpAny _ _ (seqItems? (.ref t) >>= _) _ _ s;refine wpAny_bind (wpAny_seqItems g2 d2 ?_);simp only [Int.toNat_natCast,e];refine wpAny_bind (wpAny_setField g1 d1 (by simp) (wpAny_pure ⟨v,rfl,wpAny_pure (q _ ?_ (Heap.SameBut.update ..))⟩));refine ⟨_,Heap.get?_update_self _ g1 (Obj.isFreed_of_fields (Obj.data_mapFields d1 _)),(Obj.cls_mapFields ..).trans c1,?_⟩;rw [Obj.data_mapFields d1];simp [rawInt]
theorem znz{it t:Addr}{j:Nat}{vs:Array Value}{Q:Z5}(hh:A.handled=none)(st:s.heap.IsTupleIter it t j)(tp:s.heap.IsTuple t vs)(e:vs[j]?=none)
  (q:∀h' x,Heap.ExtBut it s.heap h'->(∃o,h'.get? x=some o/\o.cls=.type "StopIteration")->E (.ref x) { s with heap:=h' }):wpAny (model prog w) A (Builtin.SmallTypes.nextOf (.ref it)) Q E s:=by
 obtain ⟨o1,g1,c1,d1⟩:=id st;obtain ⟨o2,g2,_,n2,d2⟩:=tp;unfold Builtin.SmallTypes.nextOf;refine wpAny_bind (wpAny_callSpecial?_slot (name:=Str.ofString "__next__") st.typeIs F.slot_tuple_iterator_next (wpAny_call_entry F.slot_tuple_iterator_next st.typeIs F.entry_tuple_iterator_next ?_ (F.args_tuple_iterator_next_1 _)));show wpAny _ _ (field (.ref it) 0 >>= _) _ _ s;refine wpAny_bind (wpAny_field g1 d1 (x:=.ref t) rfl ?_);show wpAny _ _ (if (Value.ref t == Value.none)=true then _ else _) _ _ s;rw [if_neg (show ¬ ((Value.ref t == Value.none)=true) from fun z=>Bool.false_ne_true z)];show wpAny _ _ (field (.ref it) 1 >>= _) _ _ s;refine wpAny_bind (wpAny_field g1 d1 (x:=.int j 0) rfl ?_);show wpAny _ _ (seqItems? (.ref t) >>= _) _ _ s;refine wpAny_bind (wpAny_seqItems g2 d2 ?_);simp only [Int.toNat_natCast,e];refine wpAny_bind (wpAny_rule (wpAny_bind (wpAny_setField g1 d1 (by simp) ?_)));show wpAny _ _ (newExc (.type "StopIteration") [] >>= _) _ _ _;refine wpAny_bind ?_;simp only [newExc,newTuple];refine wpAny_bind (wpAny_newObj_type ?_ (by size_fits));refine wpAny_bind (m:=firstArgMember _ _) (wpAny_of_eq (a:=Value.none) ?_ ?_)
 ·first | rfl | (simp only [firstArgMember];rfl)
 refine wpAny_newObj_type ?_ (by size_fits);simp only [raiseNew];refine wpAny_bind (wpAny_handled ?_)
 first | rw [show A.in1.handled=none from hh] | rw [hh]
 refine wpAny_bind (wpAny_pure (wpAny_throw (q _ _ (((Heap.SameBut.update ..).extBut.push _).push _) ⟨_,Heap.get?_push_size _ rfl,rfl⟩)))
theorem zk9(hh:A.handled=none)(it t:Addr)(ne:t≠it)(vs:Array Value):Draws prog w A it [it,t] vs.size (fun j v=>vs[j]?=some v) (fun j h=>h.IsTupleIter it t j/\h.IsTuple t vs) where
 live:=fun _ _ st=>by obtain ⟨⟨o,ho,_⟩,_⟩:=st;exact ⟨o,ho⟩
 frame:=fun _ _ _ st hk=>⟨st.1.at fun o e=>hk it (by simp) o e,by obtain ⟨o,ho,r⟩:=st.2;exact ⟨o,hk t (by simp) o ho,r⟩⟩
 item:=fun j s Q E hj st hQ=>zlI st.1 st.2 (v:=vs[j]) (by simp [hj]) fun h' st' sb=>hQ _ h' s.toks (by simp [hj]) ⟨st',by obtain ⟨o,ho,r⟩:=st.2;exact ⟨o,(sb.2 t ne).trans ho,r⟩⟩ sb
 done:=fun s Q E st hE=>znz hh st.1 st.2 (by simp) hE
end
section
variable{X:Cx}{pins:Z3}{σ:St}{H:Hp}{s:Shared}
theorem Inv.turnedL{t':Nat}{h':Heap}{ch:List Addr}(I:Inv X pins σ H s)(k:∀b o,b ∉ ch->s.heap.get? b=some o->h'.get? b=some o)(hf:∀b∈ch,zlE X pins H b):Inv X pins σ H { s with heap:=h',toks:=t' }:=by
 have nit:∀b u,H b=some u->b ∉ ch:=fun b u e z=>by rw [(hf b z).1] at e;cases e
 refine I.step (g':=s.gens) (d':=s.drawn) (ch:=ch) (fun b hb=>?_) (fun b o _ _ hc e _=>k b o hc e) (fun b o _ _ hc e _=>⟨o.slots,k b o hc e⟩) (fun _ _ _ _ n=>n) (fun b o hc e=>⟨o,k b o hc e⟩) (fun _ _ e=>e) (fun _ _ _ e=>e) (fun b ps e=>⟨#[],by rw [e];simp⟩) (fun m hm=>?_) (fun b u e=>?_) I.bare
 ·obtain ⟨f0,f1,f2,f3,f4,f5⟩:=hf b hb;exact ⟨f3,f1,f4,f5⟩
 ·obtain ⟨o,es,ep,ho,r⟩:=hm;exact ⟨o,es,ep,k _ o (fun z=>(hf _ z).2.1 rfl) ho,r⟩
 ·refine (I.hok b u e).stay (fun c v hc q=>k c v ?_ q) (fun _ q=>q) fun _ _ q=>q
  rcases hc with z | z
  ·rw [z];exact nit b u e
  ·exact nit c _ z
end
end L2
namespace S2
open PySem PySem.Spec PyProof.Rows L2
structure ItOk(cl:Cf)(w:Wd)(J:It)(ds:List D):Prop where
 go:∀w',Fut w w'->∀i,i<ds.length->J.go i w'.H
 stop:∀w',Fut w w'->J.stop ds.length w'.H
 yld:∀w',Fut w w'->∀i d x H',ds[i]?=some d->J.yld i w'.H x H'->∃w'',w''.H=H'/\Grow w' w''/\Shd cl w'' x d
abbrev Fi:=Env->Sto->Out (List D)
def tI(cl:Cf)(E:St->XK)(f:Fi):TI:=fun σ H R'=>∃B w ρ S,w.H=H/\Rel cl B σ w ρ S/\match f ρ S with
 | .ok ds S'=>∀J w',Rel cl B σ w' ρ S'->Fut w w'->ItOk cl w' J ds->R' J w'.H
 | .exc c S'=>∀w',Rel cl B σ w' ρ S'->Fut w w'->E σ (.ref (cl c)) none w'.H
 | .bad=>False
theorem PI.imp{X:Cx}{tg it:Expr}{t t':TI}(h:PI X tg it t)(i:∀σ H Q,t' σ H Q->t σ H Q):PI X tg it t':=fun pins s σ H Q I q=>h pins s σ H Q I (i _ _ _ q)
inductive Tg where | one (i:Nat) | tup (is:List Nat)
def zel:List Nat->List D->Env->Option Env
 | [],[],ρ=>some ρ
 | i::is,d::ds,ρ=>zel is ds (ρ.set i (some (false,d)))
 | _,_,_=>none
def Tg.put:Tg->Env->D->Option Env
 | .one i,ρ,d=>some (ρ.set i (some (false,d)))
 | .tup is,ρ,.tup ds=>zel is ds ρ
 | .tup _,_,_=>none
def tG(cl:Cf)(n:Nat)(tg:Tg):TG:=fun v σ H Q=>∃B w ρ S d ρ',w.H=H/\Rel cl B σ w ρ S/\Shd cl w v d/\tg.put ρ d=some ρ'/\∀σ',σ'.length=σ.length->σ'.drop n=σ.drop n->Rel cl B σ' w ρ' S->Q σ' w.H
theorem PG.imp{X:Cx}{tg:Expr}{t t':TG}(h:PG X tg t)(i:∀v σ H Q,t' v σ H Q->t v σ H Q):PG X tg t':=fun pins s σ H v u Q I r q=>h pins s σ H v u Q I r (i _ _ _ _ q)
def zfi(tg:Tg)(body:Fs):List D->Env->Sto->Fo
 | [],ρ,S=>.nx ρ S
 | d::ds,ρ,S=>match tg.put ρ d with
  | none=>.bad
  | some ρ1=>match body ρ1 S with
   | .nx ρ' S'=>zfi tg body ds ρ' S'
   | .ct ρ' S'=>zfi tg body ds ρ' S'
   | .bk ρ' S'=>.nx ρ' S'
   | o=>o
def zjz(tg:Tg)(it:Fi)(body:Fs):Fs:=fun ρ S=>match it ρ S with
 | .ok ds S'=>zfi tg body ds ρ S'
 | .exc c S'=>.ex c ρ S'
 | .bad=>.bad
section
variable{X:Cx}{cl:Cf}{E:St->XK}{own:Bool}{e iter tg:Expr}{body:List Stmt}{fb:Fs}{fi:Fi}{fc:Fe}{t:Tg}{pos:Pos}
theorem ziN{α:Type}{n i:Nat}{l:List α}{a:α}(h:i<n):(l.set i a).drop n=l.drop n:=by
 refine List.ext_getElem? fun k=>?_
 rw [List.getElem?_drop,List.getElem?_drop,List.getElem?_set_ne (by omega)]
theorem zp2{n i:Nat}{x:Str}(hin:i<n)(hN:X.N.Nodup)(hi:X.N[i]?=some x)(hx:Loc X.env.scope x)(hf:X.fn x=true\/X.env.scope.names.lookup x=some .local):PG X (.Name x pos) (tG cl n (.one i)):=by
 refine PG.imp (zkl hN hi hx hf) ?_;rintro v σ H Q ⟨B,w,ρ,S,d,ρ',rfl,R,h,hp,q⟩;cases hp;exact q _ (List.length_set ..) (ziN hin) (R.put h)
def tGs(cl:Cf)(n:Nat)(is:List Nat):TGs:=fun vs σ H Q=>∃B w ρ S ds ρ',w.H=H/\Rel cl B σ w ρ S/\Shds cl w vs ds/\zel is ds ρ=some ρ'/\∀σ',σ'.length=σ.length->σ'.drop n=σ.drop n->Rel cl B σ' w ρ' S->Q σ' w.H
theorem znU{n:Nat}:PGs X [] (tGs cl n []):=by
 intro pins s σ H vs us Q I r h;obtain ⟨B,w,ρ,S,ds,ρ',rfl,R,hs,hp,q⟩:=h
 cases hs with
 | nil =>
  cases hp;exact zoi pins s σ w.H [] us Q I r ⟨rfl,q σ rfl rfl R⟩
 | cons _ _=>cases hp
theorem zlN{n i:Nat}{is:List Nat}{x:Str}{es:List Expr}(hin:i<n)(hN:X.N.Nodup)(hi:X.N[i]?=some x)(hx:Loc X.env.scope x)(hf:X.fn x=true\/X.env.scope.names.lookup x=some .local)(h2:PGs X es (tGs cl n is)):PGs X (.Name x pos::es) (tGs cl n (i::is)):=by
 intro pins s σ H vs us Q I r h;obtain ⟨B,w,ρ,S,ds,ρ',rfl,R,hs,hp,q⟩:=h;refine zl2 (zkl hN hi hx hf) h2 rfl pins s σ w.H vs us Q I r ?_
 cases hs with
 | nil=>cases hp
 | cons h t =>
  rename_i v d vs ds;exact ⟨v,vs,rfl,B,w,_,S,ds,ρ',rfl,R.put h,t,hp,fun σ' e1 e2=>q σ' (e1.trans (List.length_set ..)) (e2.trans (ziN hin))⟩
theorem zp1{es:List Expr}{n k:Nat}{is:List Nat}(hc:X.calm=true)(h:PGs X es (tGs cl n is))(hn:(assignEach es X.env).length=is.length)(hst:(assignEach es X.env).findIdx? (·.1)=none):PG X (.Tuple es k pos) (tG cl n (.tup is)):=by
 refine PG.imp (zqu hc h hn hst) ?_;rintro v σ H Q ⟨B,w,ρ,S,d,ρ',rfl,R,h,hp,q⟩
 cases h with
 | tup e k r =>
  have hl:∀(is:List Nat) (ds:List D) (ρ ρ':Env),zel is ds ρ=some ρ'->ds.length=is.length:=by
   intro is
   induction is with
   | nil=>intro ds ρ ρ' h;cases ds with
    | nil=>rfl
    | cons _ _=>cases h
   | cons i is ih=>intro ds ρ ρ' h;cases ds with
    | nil=>cases h
    | cons d ds=>rw [List.length_cons,List.length_cons,ih ds _ _ h]
  rename_i a xs ds;refine ⟨a,xs,rfl,SqT.of e,by rw [r.length];exact hl is ds ρ ρ' hp,B,w,ρ,S,ds,ρ',rfl,R,r,hp,q⟩
 | _=>cases hp
theorem zpQ{n:Nat}(hp:PassesOwn (model X.prog X.w) X.A X.env X.xe)(hc:X.calm=true)(hi:PI X tg iter (tI cl E fi))(hg:PG X tg (tG cl n t))(hb:PSs X body (tS cl E own fb))(hs:∀x,foldedSetIterable iter X.env x=pure x):PS X (.For tg iter body [] pos) (tS cl E own (zjz t fi fb)):=by
 refine PS.imp (zqr hp hc hi hg hb hs) ?_;rintro De σ H ⟨B,w,ρ,S,rfl,R,q⟩;refine ⟨B,w,ρ,S,rfl,R,?_⟩;unfold zjz at q
 cases hf:fi ρ S with
 | bad=>rw [hf] at q;exact q
 | exc c S1=>rw [hf] at q;exact fun w' R' F'=>q σ w' R' F'
 | ok ds S1 =>
  rw [hf] at q;intro J w0 R0 F0 hJ;dsimp only at q;refine ⟨fun i m σ' H'=>m=ds.length-i/\i<=ds.length/\∃w1 ρ1 S2,w1.H=H'/\Fut w0 w1/\Rel cl B σ' w1 ρ1 S2/\ziX cl E own B w1 De (zfi t fb (ds.drop i) ρ1 S2),⟨ds.length,by simp,Nat.zero_le _,w0,ρ,S1,rfl,Fut.refl _,R0,by rw [List.drop_zero];exact ziX.up F0 q⟩,?_⟩;rintro i m σ1 H1 ⟨rfl,hi,w1,ρ1,S2,rfl,F1,R1,q1⟩
  by_cases hlt:i<ds.length
  ·obtain ⟨d,hd⟩:∃d,ds[i]?=some d:=⟨ds[i],List.getElem?_eq_getElem hlt⟩
   have hdr:ds.drop i=d::ds.drop (i+1):=by
    rw [List.drop_eq_getElem_cons hlt];rw [List.getElem?_eq_getElem hlt] at hd;cases hd;rfl
   rw [hdr] at q1;unfold zfi at q1
   cases hp1:t.put ρ1 d with
   | none=>rw [hp1] at q1;exact q1.elim
   | some ρ2 =>
    rw [hp1] at q1;dsimp only at q1;refine .inr ⟨hJ.go w1 F1 i hlt,fun σ' H'=>i+1<=ds.length/\∃w1 ρ1 S2,w1.H=H'/\Fut w0 w1/\Rel cl B σ' w1 ρ1 S2/\ziX cl E own B w1 De (zfi t fb (ds.drop (i+1)) ρ1 S2),fun σ' H' h'=>⟨ds.length-(i+1),by omega,rfl,h'.1,h'.2⟩,fun x H' y=>?_⟩;obtain ⟨w2,rfl,g2,s2⟩:=hJ.yld w1 F1 i d x H' hd y;refine ⟨B,w2,ρ1,S2,d,ρ2,rfl,R1.grow g2,s2,hp1,fun σ2 _ _ R2=>⟨B,w2,ρ2,S2,rfl,R2,?_⟩⟩;have q2:=ziX.up g2.fut q1
    cases hb:fb ρ2 S2 with
    | bad=>rw [hb] at q2;exact q2
    | rt d S3=>rw [hb] at q2;exact q2
    | ex c ρ3 S3=>rw [hb] at q2;exact q2
    | bk ρ3 S3=>rw [hb] at q2;exact fun σ3 w3 R3 F3=>q2 σ3 w3 R3 F3
    | nx ρ3 S3=>rw [hb] at q2;exact fun σ3 w3 R3 F3=>⟨hlt,w3,ρ3,S3,rfl,F1.trans (g2.fut.trans F3),R3,ziX.up F3 q2⟩
    | ct ρ3 S3=>rw [hb] at q2;exact fun σ3 w3 R3 F3=>⟨hlt,w3,ρ3,S3,rfl,F1.trans (g2.fut.trans F3),R3,ziX.up F3 q2⟩
  ·have e:i=ds.length:=by omega
   subst e;rw [List.drop_length] at q1;exact .inl ⟨hJ.stop w1 F1,q1 σ1 w1 R1 (Fut.refl _)⟩
def ziL(f:Fe):Fi:=fun ρ S=>(f ρ S).bind fun d S1=>match d with | .lst l=>.ok l S1 | _=>.bad
def zhO(f:Fe):Fi:=fun ρ S=>(f ρ S).bind fun d S1=>match d with | .tup l=>.ok l S1 | _=>.bad
theorem zjY(he:PE X e (tE cl E fc)):PI X tg e (tI cl E (ziL fc)):=by
 refine PI.imp (zoh he) ?_;rintro σ H Q ⟨B,w,ρ,S,rfl,R,q⟩;refine ⟨B,w,ρ,S,rfl,R,?_⟩;unfold ziL at q
 cases hf:fc ρ S with
 | bad=>rw [hf] at q;exact q
 | exc c S1=>rw [hf] at q;exact q
 | ok d S1 =>
  rw [hf] at q;intro v w' R' F' h';dsimp only [Out.bind] at q
  cases h' with
  | lst e k r =>
   rename_i a xs ds;refine ⟨a,rfl,⟨xs,SqL.of e⟩,q _ w' R' F' ?_⟩;have hl:=r.length;refine ⟨fun w1 F1 i hi=>⟨xs,xs[i]'(by omega),SqL.of (F1.keep _ _ e k).1,List.getElem?_eq_getElem (by omega)⟩,fun w1 F1=>⟨xs,SqL.of (F1.keep _ _ e k).1,by omega⟩,fun w1 F1 i d x H1 hd y=>?_⟩;obtain ⟨rfl,hy⟩:=y;have hx:=hy xs (SqL.of (F1.keep _ _ e k).1);obtain ⟨d',e1,e2⟩:=r.get hx;rw [hd] at e1;cases e1;exact ⟨w1,rfl,Grow.refl _,e2.up F1⟩
  | _=>exact q.elim
theorem zpY(he:PE X e (tE cl E fc)):PI X tg e (tI cl E (zhO fc)):=by
 refine PI.imp (zqt he) ?_;rintro σ H Q ⟨B,w,ρ,S,rfl,R,q⟩;refine ⟨B,w,ρ,S,rfl,R,?_⟩;unfold zhO at q
 cases hf:fc ρ S with
 | bad=>rw [hf] at q;exact q
 | exc c S1=>rw [hf] at q;exact q
 | ok d S1 =>
  rw [hf] at q;intro v w' R' F' h';dsimp only [Out.bind] at q
  cases h' with
  | tup e k r =>
   rename_i a xs ds;refine ⟨a,rfl,⟨xs,SqT.of e⟩,q _ w' R' F' ?_⟩;have hl:=r.length;refine ⟨fun w1 F1 i hi=>⟨xs,xs[i]'(by omega),SqT.of (F1.keep _ _ e k).1,List.getElem?_eq_getElem (by omega)⟩,fun w1 F1=>⟨xs,SqT.of (F1.keep _ _ e k).1,by omega⟩,fun w1 F1 i d x H1 hd y=>?_⟩;obtain ⟨rfl,hy⟩:=y;have hx:=hy xs (SqT.of (F1.keep _ _ e k).1);obtain ⟨d',e1,e2⟩:=r.get hx;rw [hd] at e1;cases e1;exact ⟨w1,rfl,Grow.refl _,e2.up F1⟩
  | _=>exact q.elim
def zaP(lo hi:Int):List D:=(List.range (hi-lo).toNat).map fun (i:Nat)=>.int (lo+i)
def zfn(f:Fe):Fi:=fun ρ S=>(zaq [f] ρ S).bind fun ds S1=>match ds with | [.int j]=>if -1000000<=j/\j<=1000000 then .ok (zaP 0 j) S1 else .bad | _=>.bad
def zk8(f g:Fe):Fi:=fun ρ S=>(zaq [f,g] ρ S).bind fun ds S1=>match ds with | [.int i,.int j]=>if (-1000000<=i/\i<=1000000)/\-1000000<=j/\j<=1000000 then .ok (zaP i j) S1 else .bad | _=>.bad
theorem zna{w:Wd}{lo hi:Int}{n:Nat}(hn:n=(hi-lo).toNat):ItOk cl w (Itr lo n) (zaP lo hi):=by
 subst hn
 have hl:(zaP lo hi).length=(hi-lo).toNat:=by unfold zaP;rw [List.length_map,List.length_range]
 refine ⟨fun w1 F1 i h=>by rw [hl] at h;exact h,fun w1 F1=>by rw [hl];exact Nat.le_refl _,fun w1 F1 i d x H1 hd y=>?_⟩;obtain ⟨rfl,rfl⟩:=y;unfold zaP at hd;rw [List.getElem?_map] at hd
 cases hr:(List.range (hi-lo).toNat)[i]? with
 | none=>rw [hr] at hd;cases hd
 | some j =>
  rw [hr] at hd;have:=(List.getElem?_eq_some_iff.mp hr).2;rw [List.getElem_range] at this;subst this;cases hd;exact ⟨w1,rfl,Grow.refl _,.int _⟩
theorem znS{p:Pos}(hg:Gl X "range")(hm:X.mg "range" = none)(ha:PA X [e] (tAs cl E [fc]))(hs:starEach [e] X.env=[(false,eval e X.env)]):PI X tg (.Call (.Name "range" p) [e] [] pos) (tI cl E (zfn fc)):=by
 refine PI.imp (zkk hg hm ha hs) ?_;rintro σ H Q ⟨B,w,ρ,S,rfl,R,q⟩;refine ⟨B,w,ρ,S,rfl,R,?_⟩;unfold zfn at q
 cases hf:zaq [fc] ρ S with
 | bad=>rw [hf] at q;exact q
 | exc c S1=>rw [hf] at q;exact q
 | ok ds S1 =>
  rw [hf] at q;intro vs w' R' F' h';dsimp only [Out.bind] at q;split at q
  ·rename_i ds' S' hm';split at hm'
   ·rename_i j;split at hm'
    ·rename_i hb;cases hm'
     cases h' with
     | cons h1 h2 =>
      cases h1;cases h2;exact ⟨j,rfl,by omega,by omega,q _ w' R' F' (zna (by omega))⟩
    ·cases hm'
   ·cases hm'
  ·rename_i hm';split at hm'<;>first | (split at hm'<;>cases hm') | cases hm'
  ·exact q.elim
theorem znR{a:Expr}{fa:Fe}{p:Pos}(hg:Gl X "range")(hm:X.mg "range" = none)(ha:PA X [a,e] (tAs cl E [fa,fc]))(hs:starEach [a,e] X.env=[(false,eval a X.env),(false,eval e X.env)])(hs2:starEach [e] X.env=[(false,eval e X.env)]):PI X tg (.Call (.Name "range" p) [a,e] [] pos) (tI cl E (zk8 fa fc)):=by
 refine PI.imp (zkj hg hm ha hs hs2) ?_;rintro σ H Q ⟨B,w,ρ,S,rfl,R,q⟩;refine ⟨B,w,ρ,S,rfl,R,?_⟩;unfold zk8 at q
 cases hf:zaq [fa,fc] ρ S with
 | bad=>rw [hf] at q;exact q
 | exc c S1=>rw [hf] at q;exact q
 | ok ds S1 =>
  rw [hf] at q;intro vs w' R' F' h';dsimp only [Out.bind] at q;split at q
  ·rename_i ds' S' hm';split at hm'
   ·rename_i i j;split at hm'
    ·rename_i hb;cases hm'
     cases h' with
     | cons h1 h2 =>
      cases h1
      cases h2 with
      | cons h2 h3 =>
       cases h2;cases h3;exact ⟨i,j,rfl,by omega,q _ w' R' F' (zna rfl)⟩
    ·cases hm'
   ·cases hm'
  ·rename_i hm';split at hm'<;>first | (split at hm'<;>cases hm') | cases hm'
  ·exact q.elim
end
end S2
namespace S2
open PySem PySem.Spec PyProof.Rows L2
def zrG(ρ:Env)(i:Nat):Option (Bool×D):=match ρ[i]? with | some (some (false,d))=>some (false,d) | _=>none
def zb3(n:Nat)(caps:List Nat)(ρ:Env):Env:=List.replicate n none++caps.map (zrG ρ)
def zfk:Fe:=zak (.bl true)
def zb4(tg:Tg)(c elt:Fe)(ρ0:Env):List D->Sto->Out (List D)
 | [],S=>.ok [] S
 | d::ds,S=>match tg.put ρ0 d with
  | none=>.bad
  | some ρ1=>(c ρ1 S).bind fun b S1=>match isB b with
   | some true=>(elt ρ1 S1).bind fun y S2=>(zb4 tg c elt ρ0 ds S2).bind fun ys S3=>.ok (y::ys) S3
   | some false=>zb4 tg c elt ρ0 ds S1
   | none=>.bad
def zcX(n:Nat)(tg:Tg)(it:Fi)(c elt:Fe)(caps:List Nat):Fe:=fun ρ S=>(it ρ S).bind fun ds S1=>match zb4 tg c elt (zb3 n caps ρ) ds S1 with
 | .ok ys S2=>if zby ys.length then .ok (.lst ys) S2 else .bad
 | _=>.bad
abbrev noE:St->XK:=fun _ _ _ _=>False
section
variable{cl:Cf}
theorem zkZ{B:Base}{σ:St}{w w1:Wd}{ρ:Env}{S S1:Sto}{n:Nat}{caps:List (Str×Nat)}(R:Rel cl B σ w ρ S){B1:Base}(W1:World' cl B1 w1 S1)(F1:Fut w w1){σ':St}(hσ:σ'.length=n+caps.length)(hc:σ'.drop n=caps.map fun p=>(σ[p.2]?).join) :
  Rel cl B1 σ' w1 (zb3 n (caps.map (·.2)) ρ) S1 where
 wd:=W1
 len:=by unfold zb3;rw [hσ,List.length_append,List.length_replicate,List.length_map,List.length_map]
 slots:=fun i o d h=>by
  unfold zb3 at h
  by_cases hi:i<n
  ·rw [List.getElem?_append_left (by rw [List.length_replicate];exact hi),List.getElem?_replicate] at h
   split at h<;>cases h
  ·rw [List.getElem?_append_right (by rw [List.length_replicate];omega),List.length_replicate,List.map_map,List.getElem?_map] at h
   cases hp:caps[i-n]? with
   | none=>rw [hp] at h;cases h
   | some p =>
    rw [hp] at h;have h':zrG ρ p.2=some (o,d):=Option.some.inj h;unfold zrG at h';split at h'
    ·rename_i d' hd;cases h';obtain ⟨v,e,x⟩:=R.slots p.2 false d hd;refine ⟨v,?_,Shd.up F1 x⟩;have:=congrArg (fun l=>l[i-n]?) hc;rw [List.getElem?_drop,List.getElem?_map,hp] at this;rw [show n+(i-n)=i by omega] at this;rw [this];show some ((σ[p.2]?).join)=_;rw [e];rfl
    ·cases h'
end
section
variable{X:Cx}{cl:Cf}{E:St->XK}
theorem znq{fi:Fi}{t:Tg}{fc fe:Fe}{n:Nat}{caps:List (Str×Nat)}{σ:St}{H:Hp}{Q:VK}(q:tN cl E (zcX n t fi fc fe (caps.map (·.2))) σ H Q) :
  zia (tI cl E fi) (tG cl n t) (tTr cl noE fc) (tE cl noE fe) n caps σ H Q:=by
 obtain ⟨B,w,ρ,S,rfl,R,q⟩:=q;refine ⟨B,w,ρ,S,rfl,R,?_⟩;unfold zcX at q
 cases hf:fi ρ S with
 | bad=>rw [hf] at q;exact q
 | exc c S1=>rw [hf] at q;exact q
 | ok ds S1 =>
  rw [hf] at q;dsimp only [Out.bind] at q;intro J w0 R0 F0 hJ
  cases hcd:zb4 t fc fe (zb3 n (caps.map (·.2)) ρ) ds S1 with
  | bad=>rw [hcd] at q;exact q.elim
  | exc _ _=>rw [hcd] at q;exact q.elim
  | ok all Sf =>
   rw [hcd] at q;dsimp only at q
   cases hz:zby all.length with
   | false=>rw [hz,if_neg (by decide)] at q;exact q.elim
   | true =>
    rw [hz,if_pos rfl] at q;dsimp only at q;refine ⟨fun i m ys σ' H'=>m=ds.length-i/\i<=ds.length/\σ'.length=n+caps.length/\σ'.drop n=(caps.map fun p=>(σ[p.2]?).join)/\∃w1 S2 es zcm,w1.H=H'/\Fut w0.inn w1/\World' cl w0.base w1 S2/\Shds cl w1 ys es/\zb4 t fc fe (zb3 n (caps.map (·.2)) ρ) (ds.drop i) S2=.ok zcm Sf/\es++zcm=all,⟨ds.length,by simp,Nat.zero_le _,by simp [capσ],by simp [capσ],w0.inn,S1,[],all,rfl,Fut.refl _,R0.wd.enter,.nil,by rw [List.drop_zero];exact hcd,rfl⟩,?_⟩;rintro i m ys σ1 H1 ⟨rfl,hi,hl1,hd1,w1,S2,es,zcm,rfl,F1,W1,sh,hrest,hall⟩;refine ⟨?_,?_⟩
    ·rw [sh.length];refine Nat.le_trans ?_ (zbu hz);rw [<-hall,List.length_append];omega
    have F1':Fut w0 w1:=(zcz w0).trans F1
    by_cases hlt:i<ds.length
    ·obtain ⟨d,hdi⟩:∃d,ds[i]?=some d:=⟨ds[i],List.getElem?_eq_getElem hlt⟩
     have hdr:ds.drop i=d::ds.drop (i+1):=by
      rw [List.drop_eq_getElem_cons hlt];rw [List.getElem?_eq_getElem hlt] at hdi;cases hdi;rfl
     rw [hdr] at hrest;unfold zb4 at hrest;refine .inr ⟨hJ.go w1 F1' i hlt,fun x H' y=>?_⟩;obtain ⟨w2,rfl,g2,s2⟩:=hJ.yld w1 F1' i d x H' hdi y;have R1:Rel cl w0.base σ1 w2 (zb3 n (caps.map (·.2)) ρ) S2:=zkZ R0 (W1.grow g2) (F1'.trans g2.fut) hl1 hd1
     cases hp:t.put (zb3 n (caps.map (·.2)) ρ) d with
     | none=>rw [hp] at hrest;cases hrest
     | some ρ1 =>
      rw [hp] at hrest;dsimp only at hrest;refine ⟨w0.base,w2,_,S2,d,ρ1,rfl,R1,s2,hp,fun σ2 hk1 hk2 R2=>⟨w0.base,w2,ρ1,S2,rfl,R2,?_⟩⟩
      cases hc:fc ρ1 S2 with
      | bad=>rw [hc] at hrest;cases hrest
      | exc _ _=>rw [hc] at hrest;cases hrest
      | ok b S3 =>
       rw [hc] at hrest;dsimp only [Out.bind] at hrest ⊢
       cases hb:isB b with
       | none=>rw [hb] at hrest;cases hrest
       | some bb =>
        rw [hb] at hrest;intro w3 R3 F3
        cases bb with
        | false=>exact znc ⟨ds.length-(i+1),by omega,rfl,hlt,hk1.trans hl1,hk2.trans hd1,w3,S3,es,zcm,rfl,F1.trans (g2.fut.trans F3),R3.wd,sh.up (g2.fut.trans F3),hrest,hall⟩
        | true =>
         refine znb ⟨w0.base,w3,ρ1,S3,rfl,R3,?_⟩;dsimp only at hrest
         cases he:fe ρ1 S3 with
         | bad=>rw [he] at hrest;cases hrest
         | exc _ _=>rw [he] at hrest;cases hrest
         | ok yv S4 =>
          rw [he] at hrest;dsimp only at hrest
          cases hr:zb4 t fc fe (zb3 n (caps.map (·.2)) ρ) (ds.drop (i+1)) S4 with
          | bad=>rw [hr] at hrest;cases hrest
          | exc _ _=>rw [hr] at hrest;cases hrest
          | ok zs S5 =>
           rw [hr] at hrest;cases hrest;intro v w4 R4 F4 h4;have ff:=g2.fut.trans (F3.trans F4);exact ⟨ds.length-(i+1),by omega,rfl,hlt,hk1.trans hl1,hk2.trans hd1,w4,S4,es++[yv],zs,rfl,F1.trans ff,R4.wd,(sh.up ff).append (.cons h4 .nil),hr,by rw [<-hall,List.append_assoc];rfl⟩
    ·have e:i=ds.length:=by omega
     subst e;rw [List.drop_length] at hrest;cases hrest;rw [List.append_nil] at hall;subst hall;refine .inl ⟨hJ.stop w1 F1',fun p hp=>?_⟩;obtain ⟨Rb,Fb⟩:=R0.leave W1 F1;exact q p (.lst ys) (w0.back w1) Rb (F0.trans Fb) hp (.lst (sh.up (zdk W1)))
end
end S2
namespace L2
open PySem PySem.Spec PyProof.Rows
section
variable{X:Cx}
end
end L2
namespace L2
open PySem PySem.Spec PyProof.Rows
def CXE(P:Program)(w:World):CXT:=fun outer H s E e s'=>∃(a:Addr) (cls a0:Value) (H':Hp) (B:Heap),e=.ref a/\Heap.FlyingW B outer a cls a0 s'.heap ∧
 (∀b o,s'.heap.get? b=some o->H' b≠none->B.get? b=some o)/\(∀b o,s.heap.get? b=some o->H b=none->b ∉ frs outer->B.get? b=some o) ∧
 (∀b o,s.heap.get? b=some o->b ∉ frs outer->∃o',B.get? b=some o') ∧
 s'.os=s.os/\AllBare s'.gens/\Un (frs outer) [] H H' s.heap s'.heap/\HOk P w H' s'.heap/\E cls none H'
theorem zb5.has{P:Program}{w:World}{H:Hp}{h:Heap}{a:Addr}{o:HO}(x:zb5 P w H h a o):∃ob,h.get? a=some ob:=by
 cases o with
 | lst xs=>obtain ⟨_,_,_,_,e⟩:=x;exact ⟨_,e⟩
 | tup xs=>obtain ⟨_,_,_,ob,e,_⟩:=x;exact ⟨_,e⟩
 | dK kvs=>obtain ⟨_,_,_,_,o,_,_,e,_⟩:=x;exact ⟨_,e⟩
 | dT kvs=>obtain ⟨_,_,_,_,o,_,_,e,_⟩:=x;exact ⟨_,e⟩
 | set S n=>obtain ⟨o,_,_,_,e,_⟩:=x;exact ⟨_,e⟩
 | ins C dx fs=>obtain ⟨_,_,_,e,_⟩:=x;exact ⟨_,e⟩
 | own y=>exact x
 | xd fs=>obtain ⟨_,⟨_,_,_,e,_⟩,_⟩:=x;exact ⟨_,e⟩
 | rng lo hi=>obtain ⟨_,_,_,e⟩:=x;exact ⟨_,e⟩
 | frz ob u=>obtain ⟨e,_⟩:=x;exact ⟨_,e⟩
 | tbl ps=>exact ⟨_,(show h.get? a=some _ from x)⟩
 | met f y=>exact ⟨_,(show h.get? a=some _ from x)⟩
 | ext φ=>obtain ⟨_,e,_⟩:=x;exact e
theorem HOk.same{P:Program}{w:World}{H:Hp}{h h':Heap}(x:HOk P w H h)(k:∀b u,h.get? b=some u->H b≠none->h'.get? b=some u):HOk P w H h':=fun a o e =>
 (x a o e).stay (fun b u hb q=>k b u q (hb.elim (fun z=>by rw [z,e];exact Option.some_ne_none _) (fun z=>by rw [z];exact Option.some_ne_none _))) (fun _ q=>q) fun _ _ q=>q
section
variable{X:Cx}{pins:Z3}{σ:St}{H:Hp}{s:Shared}{M:Model}
theorem zmy(l:List Env):∀env∈l,∀b,env.frame=some b->b∈frs l:=fun env he b hb=>List.mem_filterMap.mpr ⟨env,he,hb⟩
theorem zji{h':Heap}{e:Addr}{cls:Value}{vs:List Value}{E:XK}{Er:Z5}(I:Inv X pins σ H s)(hx:X.ex=[])(hs:X.stack=X.env::X.outer)(hf:X.env.frame=some X.env.locals)(mk:Heap.MadeExcOf s.heap h' e cls vs)(q:E cls none H) :
  wpAny M X.A (leaving X.env (.ref e)) (fun _ s''=>CXE X.prog X.w X.outer X.H₀ X.s₀ E (.ref e) s'') Er { s with heap:=h' }:=by
 have hfr:X.A.frames=some (X.env::X.outer):=by rw [<-hs];exact I.ok.frames
 have hst:s.heap.FunFrames X.base (X.env::X.outer):=by rw [<-hs];exact I.stack
 refine wpAny_leaves_madeW (base:=PySem.W.hideAll s.heap (frs (X.env::X.outer))) hfr hf (fun b o z=>PySem.W.of_hideAll _ z) (PySem.W.funFrames_hide hst (zmy _)) mk fun h2 t fl tup _ up=>?_
 have inB:∀b o,s.heap.get? b=some o->b ∉ frs (X.env::X.outer)->(PySem.W.hideAll s.heap (frs (X.env::X.outer))).get? b=some o:=fun b o z n=>PySem.W.hideAll_get _ z n
 have sub:∀b,b∈frs (X.env::X.outer)->b=X.env.locals\/b∈X.fs:=fun b hb=>by
  rw [<-hs] at hb;exact List.mem_cons.mp (I.stkSub b hb)
 have fre:∀b,b∈frs (X.env::X.outer)->H b=none:=fun b hb=>by rw [<-hs] at hb;exact I.stkFree b hb
 have old:∀b o,X.s₀.heap.get? b=some o->b ∉ frs X.outer->b ∉ frs (X.env::X.outer):=fun b o z n hb=>by
  rcases sub b hb with r | r
  ·exact absurd (Nat.lt_of_lt_of_le (Heap.lt_size z) I.ok.above) (by rw [r];exact Nat.lt_irrefl _)
  ·exact n r
 have nx:∀b:Addr,b ∉ X.ex:=fun b z=>by rw [hx] at z;cases z
 have trk:∀b o,s.heap.get? b=some o->H b≠none->h2.get? b=some o:=fun b o z n=>fl.1 b o (inB b o z fun hb=>n (fre b hb))
 have hok2:HOk X.prog X.w H h2:=I.hok.same trk
 have slt:∀b o,s.heap.get? b=some o->b∈frs X.stack->∃sl,h2.get? b=some { o with slots:=sl }:=fun b o z hb=>by
  obtain ⟨_,o',z',hd⟩:=I.stack.mem hb;rw [z] at z';cases z';exact up b o (mk.keeps b o z) hd
 have un2:Un (frs X.stack) [] H H s.heap h2:=⟨fun b o z n hb _=>fl.1 b o (inB b o z (by rw [<-hs];exact hb)),fun b o z n hb _=>slt b o z hb,fun b o z n _=>n,
  fun b o z _=>by
   by_cases hb:b∈frs X.stack
   ·obtain ⟨sl,r⟩:=slt b o z hb;exact ⟨_,r⟩
   ·exact ⟨o,fl.1 b o (inB b o z (by rw [<-hs];exact hb))⟩,
  fun _ _ z=>z,fun _ _ _ z=>z,fun _ ps z=>⟨#[],by rw [z,Array.append_empty]⟩⟩
 have J:=I.call (g':=s.gens) (t':=s.toks) (d':=s.drawn) (ch:=[]) un2 hok2 I.bare (fun b z=>absurd z (by simp));refine ⟨e,cls,.ref t,H,_,rfl,fl,fun b o z n=>?_,fun b o z n hb=>?_,fun b o z hb=>?_,J.os,J.bare,?_,J.hok,q⟩
 ·cases k:H b with
  | none=>exact absurd k n
  | some u =>
   obtain ⟨o',z'⟩:=(I.hok b u k).has;have:=trk b o' z' n;rw [show h2.get? b=some o from z] at this;cases this;exact inB b o z' fun hb=>n (fre b hb)
 ·exact inB b o (I.base.keep b o z n hb (nx b)) (old b o z hb)
 ·obtain ⟨o',z'⟩:=I.base.there b o z (nx b);exact ⟨o',inB b o' z' (old b o z hb)⟩
 ·have:=J.base;rw [hx] at this;exact this
theorem zmm{e:Value}{s':Shared}{E:XK}{Er:Z5}(I:Inv X pins σ H s)(hx:X.ex=[])(hs:X.stack=X.env::X.outer)(hf:X.env.frame=some X.env.locals)(q:CXE X.prog X.w X.stack H s E e s') :
  wpAny M X.A (leaving X.env e) (fun _ s''=>CXE X.prog X.w X.outer X.H₀ X.s₀ E e s'') Er s':=by
 have hfr:X.A.frames=some (X.env::X.outer):=by rw [<-hs];exact I.ok.frames
 obtain ⟨a,cls,a0,H',B,rfl,fl,c1,c2,c3,os,bare,un,hok,q⟩:=q
 have fl':Heap.FlyingW B (X.env::X.outer) a cls a0 s'.heap:=by rw [<-hs];exact fl
 refine wpAny_leaves_onW hfr hf fl' fun h2 fl2 up=>?_
 have sub:∀b,b∈frs X.stack->b=X.env.locals\/b∈X.fs:=fun b hb=>List.mem_cons.mp (I.stkSub b hb)
 have old:∀b o,X.s₀.heap.get? b=some o->b ∉ frs X.outer->b ∉ frs X.stack:=fun b o z n hb=>by
  rcases sub b hb with r | r
  ·exact absurd (Nat.lt_of_lt_of_le (Heap.lt_size z) I.ok.above) (by rw [r];exact Nat.lt_irrefl _)
  ·exact n r
 have nx:∀b:Addr,b ∉ X.ex:=fun b z=>by rw [hx] at z;cases z
 have trk:∀b o,s'.heap.get? b=some o->H' b≠none->h2.get? b=some o:=fun b o z n=>fl2.1 b o (c1 b o z n)
 have hok2:HOk X.prog X.w H' h2:=hok.same trk
 have slt:∀b o,s.heap.get? b=some o->H b=none->b∈frs X.stack->∃sl,h2.get? b=some { o with slots:=sl }:=fun b o z n hb=>by
  obtain ⟨_,o',z',hd⟩:=I.stack.mem hb;rw [z] at z';cases z';obtain ⟨sl,r⟩:=un.slot b o z n hb (by simp);obtain ⟨sl',r'⟩:=up b ({ o with slots:=sl }:Obj) r hd;exact ⟨sl',r'⟩
 have un2:Un (frs X.stack) [] H H' s.heap h2:=⟨fun b o z n hb _=>fl2.1 b o (c2 b o z n hb),fun b o z n hb _=>slt b o z n hb,un.free,
  fun b o z _=>by
   by_cases hb:b∈frs X.stack
   ·obtain ⟨sl,r⟩:=slt b o z (I.stkFree b hb) hb;exact ⟨_,r⟩
   ·obtain ⟨o',r⟩:=c3 b o z hb
    exact ⟨o',fl2.1 b o' r⟩,
  un.tups,un.frzs,un.tbls⟩
 have J:=I.call (g':=s'.gens) (t':=s'.toks) (d':=s'.drawn) (ch:=[]) un2 hok2 bare (fun b z=>absurd z (by simp));refine ⟨a,cls,a0,H',B,rfl,fl2,fun b o z n=>?_,fun b o z n hb=>?_,fun b o z hb=>?_,os.trans I.os,bare,?_,J.hok,q⟩
 ·cases k:H' b with
  | none=>exact absurd k n
  | some u =>
   obtain ⟨o',z'⟩:=(hok b u k).has;have:=trk b o' z' n;rw [show h2.get? b=some o from z] at this;cases this;exact c1 b o z' n
 ·exact c2 b o (I.base.keep b o z n hb (nx b)) (I.base.free b o z n (nx b)) (old b o z hb)
 ·obtain ⟨o',z'⟩:=I.base.there b o z (nx b);exact c3 b o' z' (old b o z hb)
 ·have:=J.base;rw [hx] at this;exact this
end
theorem zqH{P:Program}{w:World}{K:PySem.W.Frag}{mg:Z6}{base:Heap}{N:List Str}{qual:Str}{scope:Scope}{f:Addr}{cd:Value}{A:Around}{outer:List Env}{s:Shared}{H:Hp}{E:XK} :
  zrQ (CXE P w) (zla (CXE P w) P w K mg base N qual scope f cd A outer s H E) E:=fun pins σ H1 s1 e s' I q =>
 zmm (X:=zla (CXE P w) P w K mg base N qual scope f cd A outer s H E) I rfl rfl rfl q
theorem zoS{K:PySem.W.Frag}{h:Heap}{C:Addr}{bmB:List Value}{nid:String}(k:K.In h)(z:PySem.W.excIn K C bmB nid=true) :
  ∃bm N nm qn bs hd sn sub ab col dd c0 c1 c2 c3 c5 mN,h.get? C=some (excClassObj nm qn C N bs bm hd sn sub ab col dd c0 c1 c2 c3 c5 nid)/\h.Ns N mN/\mN "__init__" = none/\OwnTail h bmB bm:=by
 unfold PySem.W.excIn at z;split at z
 case h_2=>cases z
 case h_1 dd cd sl ho =>
  split at z
  case h_2=>cases z
  case h_1 D bm c0 c1 c2 c3 n c5 e1 e2 =>
   simp only [Bool.and_eq_true,beq_iff_eq,Bool.not_eq_true'] at z;obtain ⟨⟨⟨⟨⟨z1,z2⟩,z3⟩,z4⟩,z5⟩,z6⟩:=z;subst z1 z2
   have hsl:sl=#[c0,c1,c2,c3,some (.builtin n),c5]:=by
    cases sl with
    | mk l=>exact congrArg Array.mk e2
   have hcd:cd={ cd with mro:=.ref D::bm,hasDel:=false }:=by
    cases cd;simp only at e1 z3;simp only [e1,z3]
   rw [hsl,hcd] at ho;exact ⟨bm,cd.ns,cd.name,_,cd.bases,_,_,_,_,_,dd,c0,c1,c2,c3,c5,_,k _ _ ho,.of_isNs (PySem.W.isNs_of_in k z5),PySem.W.nsMap_none_of_in k z5 z6,PySem.W.tail_of_in k z4⟩
def zrP(X:Cx)(E:XK):Prop:=∀(C:Addr) (pins:Z3) (σ:St) (H:Hp) (s:Shared) (e:Addr) (h':Heap) (vs:List Value),Inv X pins σ H s->Heap.MadeExcOf s.heap h' e (.ref C) vs->E (.ref C) none H->X.xe (.ref e) { s with heap:=h' }
theorem zkc{P:Program}{w:World}{K:PySem.W.Frag}{mg:Z6}{base:Heap}{N:List Str}{qual:Str}{scope:Scope}{f:Addr}{cd:Value}{A:Around}{outer:List Env}{s:Shared}{H:Hp}{E:XK} :
  zrP (zla (CXE P w) P w K mg base N qual scope f cd A outer s H E) E:=fun C pins σ H1 s1 e h' vs I mk q =>
 zji (X:=zla (CXE P w) P w K mg base N qual scope f cd A outer s H E) I rfl rfl rfl mk q
end L2
namespace L2
open PySem PySem.Spec PyProof.Rows
def XP(X:Cx)(pins:Z3)(σ:St)(E:XK)(e:Value)(s':Shared):Prop:=∃H1 s1,Inv X pins σ H1 s1/\CXE X.prog X.w X.stack H1 s1 E e s'
section
variable{X:Cx}{k:Nat}{f C:Addr}{fd:FuncData}{ps:List Str}{sp:Sp}{dvs:List V}{ds:List Value}{x m:Str}{p pos apos:Pos}{e o:Expr}{es:List Expr}{ta:TE}{t:TA}
end
end L2
namespace L2
open PySem PySem.Spec PyProof.Rows
section
variable{X:Cx}{pins:Z3}{σ:St}{H:Hp}{s:Shared}
end
end L2
namespace L2
open PySem PySem.Spec PyProof.Rows
section
variable{X:Cx}{pins:Z3}{σ:St}{H H':Hp}{s s':Shared}{B h2:Heap}{a:Addr}{cls a0:Value}
abbrev Cx.inH(X:Cx)(a:Addr):Cx:={ X with A:=X.A.mark (some (.ref a)),calm:=false,xe:=fun _ _=>False }
end
def zpj(K:PySem.W.Frag)(C D:Addr):Prop:=(∃bC iC,PySem.W.excIn K C bC iC=true)/\∃cd d cl sl,K.lookup C=some ⟨cl,d,.cls cd,sl⟩/\cd.mro.contains (.ref D)=true
def Ends.goes(D:Ends)(i:Nat):Ends:={ nx:=fun σ H=>D.nx (σ.set i none) H,rt:=D.rt,bk:=fun σ H=>D.bk (σ.set i none) H,ct:=fun σ H=>D.ct (σ.set i none) H }
end L2
namespace PySem.W
open PySem
structure ExcCls(K:Frag)(C:Addr):Prop where
 ga:findIn K (.ref C) "__getattribute__" = some (some (.builtin "BaseException.__getattribute__"))
 gt:findIn K (.ref C) "__getattr__" = some none
 cl:findIn K (.ref C) "__class__" = some (some (.builtin "object.__class__"))
 ob:subIn K (.ref C) (.type "object")=some true
 be:subIn K (.ref C) (.type "BaseException")=some true
 is:∃c d cd sl,K.lookup C=some ⟨c,d,.cls cd,sl⟩
section
variable{prog:Program}{w:World}{A:Around}{E:Z5}{h:Heap}{g:Array GenState}{d:Drawn}{t:Nat}{os:OsState}{a C:Addr}{o:Obj}{K:Frag}
end
end PySem.W
namespace PySem.W
open PySem
section
variable{prog:Program}{w:World}{A:Around}{E:Z5}{h:Heap}{g:Array GenState}{d:Drawn}{t:Nat}{os:OsState}{a C:Addr}{o:Obj}{K:Frag}
end
end PySem.W
namespace L2
open PySem PySem.Spec PyProof.Rows
end L2
namespace L2
open PySem PySem.Spec PyProof.Rows PySem.SeqAt
section
variable{X:Cx}
end
end L2
namespace L2
open PySem PySem.Spec PyProof.Rows
theorem zim(ns:List Int):∀j,j<=ns.length->preSum (fun i=>ns.getD i 0) j=(ns.take j).sum
 | 0,_=>by rw [List.take_zero];rfl
 | j+1,h=>by
  have ih:=zim ns j (by omega);show preSum _ j+ns.getD j 0=_
  have e:ns.take (j+1)=ns.take j++[ns[j]]:=by rw [List.take_add_one,List.getElem?_eq_getElem (by omega)];rfl
  have e2:ns.getD j 0=ns[j]:=by simp [List.getD,show j<ns.length by omega]
  rw [ih,e,e2,List.sum_append];simp
theorem zgM(ns:List Int)(h:∀n∈ns,0<=n/\n<=1000000):∀j,j<=ns.length->0<=preSum (fun i=>ns.getD i 0) j/\preSum (fun i=>ns.getD i 0) j<=1000000*(j:Int)
 | 0,_=>⟨Int.le_refl _,Int.le_refl _⟩
 | j+1,hj=>by
  have ih:=zgM ns h j (by omega)
  have e:ns.getD j 0=ns[j]:=by simp [List.getD,show j<ns.length by omega]
  have hb:=h ns[j] (List.getElem_mem (by omega));show 0<=preSum _ j+ns.getD j 0/\preSum _ j+ns.getD j 0<=_;rw [e]
  push_cast
  omega
section
variable{X:Cx}
theorem zmJ(hc:X.calm=true):zd1 X (.builtin "sum") (fun xs H Q=>∃(p:Addr) (ns:List Int),xs=[.ref p]/\SqL X.K H p (ns.map V.int)/\ns.length<=1000/\(∀n∈ns,0<=n/\n<=1000000)/\Q (.int ns.sum) H):=by
 intro pins s σ H xs us Q I r h;obtain ⟨p,ns,rfl,hq,hl1000,hb,q⟩:=h;obtain ⟨u,rfl,rx⟩:=zgs r;cases rx;obtain ⟨its,rv,pl,hz⟩:=I.list hq;have hl:=pl.isList
 have hlt:p<s.heap.objs.size:=by obtain ⟨_,e,_⟩:=hl;exact Heap.lt_size e
 have hn:its.length=ns.length:=by have:=rv.length;rw [List.length_map] at this;exact this.symm
 refine call_sum_walk (wpAny_pyIter_list hl ?_);refine ⟨s.heap.objs.size,[s.heap.objs.size,p],[s.heap.objs.size],its.toArray.size,_,_,fun i=>ns.getD i 0,rfl,Walks.list (A:=X.A.in1) (I.ok.hd hc) _ p (Nat.ne_of_lt hlt) its.toArray,⟨⟨_,Heap.get?_push_size _ rfl,rfl,rfl⟩,hl.push _⟩,fun b hm=>?_,fun i v hP=>?_,fun j hj=>?_,fun h' tk t' hk=>?_⟩
 ·show b<(s.heap.push _).objs.size;rw [Heap.size_push];simp only [List.mem_cons,List.not_mem_nil,or_false] at hm
  rcases hm with z | z
  ·rw [z];exact Nat.lt_succ_self _
  ·rw [z];exact Nat.lt_succ_of_lt hlt
 ·have hv:its[i]?=some v:=by simpa using hP
  have hi:i<ns.length:=by rw [<-hn];exact (List.getElem?_eq_some_iff.mp hv).1
  obtain ⟨u,hu,ru⟩:=rv.get (i:=i) (x:=.int ns[i]) (by rw [List.getElem?_map,List.getElem?_eq_getElem hi];rfl);rw [hv] at hu;cases hu;obtain ⟨t,rfl⟩:=ru;exact ⟨t,by simp [List.getD,hi]⟩
 ·rw [List.size_toArray,hn] at hj;have h1:=zgM ns hb (j+1) hj
  have e:ns.getD j 0=ns[j]:=by simp [List.getD,hj]
  have h2:=hb ns[j] (List.getElem_mem hj);refine ⟨?_,?_⟩
  ·show InLong (ns.getD j 0);rw [e];exact ⟨by omega,by omega⟩
  ·have:((j+1:Nat):Int)<=1000:=by omega
   exact ⟨by omega,by omega⟩
 ·rw [List.size_toArray,hn,zim ns ns.length (Nat.le_refl _),List.take_length];refine ⟨.int _,H,I.kept (t':=tk) fun b o e=>?_,⟨t',rfl⟩,q⟩;exact hk b o (fun hm=>by rw [List.mem_singleton.mp hm] at e;exact Nat.lt_irrefl _ (Heap.lt_size e)) (Heap.get?_push_of_some _ e)
end
end L2
namespace S2
open PySem PySem.Spec PyProof.Rows L2
mutual
def D.py:D->PyData
 | .non=>.none
 | .bl b=>.bool b
 | .int i=>.int i
 | .str x=>.str x
 | .tup l=>.tuple (D.pys l)
 | .lst l=>.list (D.pys l)
 | .scr l=>.list (l.map PyData.int)
 | .dic _=>.none
 | .ref _=>.none
 | .exc _=>.none
def D.pys:List D->List PyData
 | []=>[]
 | d::l=>d.py::D.pys l
end
mutual
def D.fit:Nat->D->Bool
 | _,.non=>true
 | _,.bl _=>true
 | _,.int _=>true
 | _,.str x=>PyData.strOk x
 | 0,.tup _=>false
 | n+1,.tup l=>D.fits n l
 | 0,.lst _=>false
 | n+1,.lst l=>D.fits n l
 | 0,.scr _=>false
 | _+1,.scr _=>true
 | _,.dic _=>false
 | _,.ref _=>false
 | _,.exc _=>false
def D.fits:Nat->List D->Bool
 | _,[]=>true
 | n,d::l=>d.fit n&&D.fits n l
end
theorem ziD:∀(l:List Int),PyData.canLayAll0 (l.map PyData.int)=true/\PyData.depthAll (l.map PyData.int)=0
 | []=>⟨rfl,rfl⟩
 | i::l=>by
  obtain ⟨a,b⟩:=ziD l;exact ⟨by simp [PyData.canLayAll0,PyData.canLay0,a],by simp [PyData.depthAll,PyData.depth,b]⟩
mutual
theorem D.lay:∀{n:Nat} {d:D},d.fit n=true->d.py.canLay0=true/\d.py.depth<=n
 | _,.non,_=>⟨rfl,Nat.zero_le _⟩
 | _,.bl _,h=>⟨rfl,Nat.zero_le _⟩
 | _,.int _,_=>⟨rfl,Nat.zero_le _⟩
 | _,.str x,h=>⟨by simpa [D.fit,D.py,PyData.canLay0] using h,Nat.zero_le _⟩
 | 0,.tup _,h=>by simp [D.fit] at h
 | 0,.lst _,h=>by simp [D.fit] at h
 | 0,.scr _,h=>by simp [D.fit] at h
 | n+1,.scr l,h=>by
  obtain ⟨a,b⟩:=ziD l;exact ⟨by simpa [D.py,PyData.canLay0] using a,by simp only [D.py,PyData.depth];omega⟩
 | _,.dic _,h=>by simp [D.fit] at h
 | _,.ref _,h=>by simp [D.fit] at h
 | _,.exc _,h=>by simp [D.fit] at h
 | n+1,.tup l,h=>by
  have h':D.fits n l=true:=by simpa [D.fit] using h
  obtain ⟨a,b⟩:=D.lays h';exact ⟨by simpa [D.py,PyData.canLay0] using a,by simp only [D.py,PyData.depth];omega⟩
 | n+1,.lst l,h=>by
  have h':D.fits n l=true:=by simpa [D.fit] using h
  obtain ⟨a,b⟩:=D.lays h';exact ⟨by simpa [D.py,PyData.canLay0] using a,by simp only [D.py,PyData.depth];omega⟩
theorem D.lays:∀{n:Nat} {l:List D},D.fits n l=true->PyData.canLayAll0 (D.pys l)=true/\PyData.depthAll (D.pys l)<=n
 | _,[],_=>⟨rfl,Nat.zero_le _⟩
 | n,d::l,h=>by
  simp only [D.fits,Bool.and_eq_true] at h;obtain ⟨a,b⟩:=D.lay h.1;obtain ⟨c,e⟩:=D.lays h.2;exact ⟨by simp [D.pys,PyData.canLayAll0,a,c],by simp only [D.pys,PyData.depthAll];omega⟩
end
section
variable{X:Cx}{cl:Cf}{w:Wd}
theorem TopV.lstI{v:V}{ds:List D}(h:TopV cl w v (.lst ds)):∃a xs,v=.ref a/\w.H a=some (.lst xs)/\Shds cl w xs ds:=by
 cases h with
 | sh h=>cases h with
  | lst e k r=>exact ⟨_,_,rfl,e,r⟩
 | ow e t=>cases t with
  | lst r=>exact ⟨_,_,rfl,e,r⟩
theorem TopV.tupI{v:V}{ds:List D}(h:TopV cl w v (.tup ds)):∃a xs,v=.ref a/\w.H a=some (.tup xs)/\w.ow a=none/\Shds cl w xs ds:=by
 cases h with
 | sh h=>cases h with
  | tup e k r=>exact ⟨_,_,rfl,e,k,r⟩
 | ow e t=>cases t
theorem TopV.intI{v:V}{i:Int}(h:TopV cl w v (.int i)):v=.int i:=by
 cases h with
 | sh h=>cases h;rfl
 | ow e t=>cases t
theorem TopV.strI{v:V}{i:Str}(h:TopV cl w v (.str i)):v=.str i:=by
 cases h with
 | sh h=>cases h;rfl
 | ow e t=>cases t
theorem TopV.blI{v:V}{i:Bool}(h:TopV cl w v (.bl i)):v=.bl i:=by
 cases h with
 | sh h=>cases h;rfl
 | ow e t=>cases t
theorem TopV.nonI{v:V}(h:TopV cl w v .non):v=.non:=by
 cases h with
 | sh h=>cases h;rfl
 | ow e t=>cases t
theorem Shd.scrI{v:V}{l:List Int}(hK:X.K=cl.K)(h:Shd cl w v (.scr l)):∃a,v=.ref a/\SqL X.K w.H a (l.map V.int):=by
 cases h with
 | scr e k=>exact ⟨_,rfl,.inl (.inr ⟨_,e⟩)⟩
 | scrK h=>exact ⟨_,rfl,by rw [hK];exact h _⟩
theorem TopV.scrI{v:V}{l:List Int}(hK:X.K=cl.K)(h:TopV cl w v (.scr l)):∃a,v=.ref a/\SqL X.K w.H a (l.map V.int):=by
 cases h with
 | sh h=>exact h.scrI hK
 | ow e t=>cases t
theorem zij{pins:Z3}{σ:St}{s:Shared}(I:Inv X pins σ w.H s)(hK:X.K=cl.K){v:V}{l:List Int}(h:Shd cl w v (.scr l)){u:Value}(r:zbt v u):∃as,Reads s.heap u (D.scr l).py as:=by
  obtain ⟨a,rfl,hq⟩:=h.scrI hK;cases r;obtain ⟨its,rv,p,_⟩:=I.list hq;obtain ⟨o,ho,hc,n,hd⟩:=id p.isList
  have go:∀{l:List Int} {us:List Value},Vals (l.map V.int) us->∃as,ReadsAll s.heap us (l.map PyData.int) as:=by
   intro l
   induction l with
   | nil=>intro us h;cases h;exact ⟨_,.nil⟩
   | cons i l ih =>
    intro us h
    cases h with
    | cons h1 h2 =>
     obtain ⟨t,rfl⟩:=h1;obtain ⟨as,ra⟩:=ih h2;exact ⟨_,.cons (.int i t) ra⟩
  obtain ⟨as,ra⟩:=go rv;exact ⟨_,.list ho hc hd (by simpa using ra)⟩
mutual
theorem zqj{pins:Z3}{σ:St}{s:Shared}(I:Inv X pins σ w.H s)(hK:X.K=cl.K):∀{v:V} {d:D} {n:Nat},Shd cl w v d->d.fit n=true->∀{u:Value},zbt v u->∃as,Reads s.heap u d.py as
 | _,_,_,.non,_,_,r=>by cases r;exact ⟨_,.none⟩
 | _,_,_,.bl b,_,_,r=>by cases r;exact ⟨_,.bool b⟩
 | _,_,_,.int i,_,_,r=>by obtain ⟨t,rfl⟩:=r;exact ⟨_,.int i t⟩
 | _,_,_,.str x,_,_,r=>by obtain ⟨t,rfl⟩:=r;exact ⟨_,.str x t⟩
 | _,_,0,.tup _ _ _,h,_,_=>by simp [D.fit] at h
 | _,_,0,.lst _ _ _,h,_,_=>by simp [D.fit] at h
 | _,_,n+1,.tup (a:=a) e _ rs,h,_,r=>by
  cases r;obtain ⟨its,rv,p,_⟩:=I.tuple (SqT.of (K:=X.K) e);obtain ⟨o,ho,hc,n,hd⟩:=id p;obtain ⟨as,ra⟩:=zek I hK rs (by simpa [D.fit] using h) rv;exact ⟨_,.tuple ho hc hd (by simpa using ra)⟩
 | _,_,n+1,.lst (a:=a) e _ rs,h,_,r=>by
  cases r;obtain ⟨its,rv,p,_⟩:=I.list (SqL.of (K:=X.K) e);obtain ⟨o,ho,hc,n,hd⟩:=id p.isList;obtain ⟨as,ra⟩:=zek I hK rs (by simpa [D.fit] using h) rv;exact ⟨_,.list ho hc hd (by simpa using ra)⟩
 | _,_,n,.scr e k,h,_,r=>zij I hK (.scr e k) r
 | _,_,n,.scrK e,h,_,r=>zij I hK (.scrK e) r
 | _,_,n,.dicK _ _ _,h,_,_=>by simp [D.fit] at h
 | _,_,n,.ref _,h,_,_=>by simp [D.fit] at h
 | _,_,n,.exc _ _ _,h,_,_=>by simp [D.fit] at h
theorem zek{pins:Z3}{σ:St}{s:Shared}(I:Inv X pins σ w.H s)(hK:X.K=cl.K):∀{vs:List V} {ds:List D} {n:Nat},Shds cl w vs ds->D.fits n ds=true->∀{us:List Value},Vals vs us->∃as,ReadsAll s.heap us (D.pys ds) as
 | _,_,_,.nil,_,_,r=>by cases r;exact ⟨_,.nil⟩
 | _,_,n,.cons h t,f,_,r=>by
  simp only [D.fits,Bool.and_eq_true] at f
  cases r with
  | cons r1 r2 =>
   obtain ⟨as,a⟩:=zqj I hK h f.1 r1;obtain ⟨bs,b⟩:=zek I hK t f.2 r2;exact ⟨_,.cons a b⟩
end
theorem zi8{pins:Z3}{σ:St}{s:Shared}(I:Inv X pins σ w.H s)(hK:X.K=cl.K){v:V}{d:D}{n:Nat}(h:TopV cl w v d)(f:d.fit n=true){u:Value}(r:zbt v u):∃as,Reads s.heap u d.py as:=by
 cases h with
 | sh h=>exact zqj I hK h f r
 | ow e t =>
  cases t with
  | lst rs =>
   cases n with
   | zero=>simp [D.fit] at f
   | succ n =>
    cases r;obtain ⟨its,rv,p,_⟩:=I.list (SqL.of (K:=X.K) e);obtain ⟨o,ho,hc,n,hd⟩:=id p.isList;obtain ⟨as,ra⟩:=zek I hK rs (by simpa [D.fit] using f) rv;exact ⟨_,.list ho hc hd (by simpa using ra)⟩
  | dicK _=>simp [D.fit] at f
def zjA(d e:D):Bool:=d.py.eqv e.py
def eqD(d e:D):Option D:=if d.fit 9&&e.fit 9 then some (.bl (zjA d e)) else none
def neD(d e:D):Option D:=if d.fit 9&&e.fit 9 then some (.bl (!zjA d e)) else none
theorem ztb(hK:X.K=cl.K)(hu:X.A.units+64<cLine):OpD X cl (compareOp .Eq) eqD:=by
 intro pins s σ H x y v u Q I rx ry h;obtain ⟨w,d,e,r,rfl,hx,hy,hg,q⟩:=h;unfold eqD at hg;split at hg
 ·rename_i hf;cases hg;rw [Bool.and_eq_true] at hf;obtain ⟨as,ra⟩:=zi8 I hK hx hf.1 rx;obtain ⟨bs,rb⟩:=zi8 I hK hy hf.2 ry;obtain ⟨l1,d1⟩:=D.lay hf.1;obtain ⟨l2,d2⟩:=D.lay hf.2;exact SeqAt.compareEq_reads ra rb l1 l2 (by omega) ⟨.bl _,w.H,I,rfl,q _ w (Grow.refl _) (.bl _)⟩
 ·cases hg
theorem zs9(hK:X.K=cl.K)(hu:X.A.units+64<cLine):OpD X cl (compareOp .NotEq) neD:=by
 intro pins s σ H x y v u Q I rx ry h;obtain ⟨w,d,e,r,rfl,hx,hy,hg,q⟩:=h;unfold neD at hg;split at hg
 ·rename_i hf;cases hg;rw [Bool.and_eq_true] at hf;obtain ⟨as,ra⟩:=zi8 I hK hx hf.1 rx;obtain ⟨bs,rb⟩:=zi8 I hK hy hf.2 ry;obtain ⟨l1,d1⟩:=D.lay hf.1;obtain ⟨l2,d2⟩:=D.lay hf.2;exact SeqAt.compareNe_reads ra rb l1 l2 (by omega) ⟨.bl _,w.H,I,rfl,q _ w (Grow.refl _) (.bl _)⟩
 ·cases hg
def zj1:D->Option (List D) | .lst l=>some l | .tup l=>some l | _=>none
def zoA(d:D)(l:List D):Bool:=l.any fun e=>zjA e d
def inD(d e:D):Option D:=match zj1 e with | some l=>if d.fit 8&&D.fits 8 l then some (.bl (zoA d l)) else none | none=>none
def zq2(d e:D):Option D:=match zj1 e with | some l=>if d.fit 8&&D.fits 8 l then some (.bl (!zoA d l)) else none | none=>none
theorem zdo{s:Shared}{its:List Value}{ds:List D}{as:List Addr}{d:D}(ra:ReadsAll s.heap its (D.pys ds) as)(f:D.fits 8 ds=true):(its.toArray.any fun y=>(SeqAt.readOf s.heap y).eqv d.py)=zoA d ds:=by
 rw [SeqAt.any_by_data (vs:=its.toArray) (xs:=D.pys ds) (as:=as) (by simpa using ra) (D.lays f).1]
 have:∀{l:List D},((D.pys l).any fun y=>y.eqv d.py)=zoA d l:=by
  intro l
  induction l with
  | nil=>rfl
  | cons e l ih =>
   show (e.py.eqv d.py||(D.pys l).any fun y=>y.eqv d.py)=(zjA e d||zoA d l);rw [ih];rfl
 exact this
theorem zc8{A:Around}{s:Shared}{x:Value}{d:D}{bs:List Addr}(hu:A.units+64<cLine)(rx:Reads s.heap x d.py bs)(fd:d.fit 8=true):∀{its:List Value} {ds:List D} {as:List Addr},ReadsAll s.heap its (D.pys ds) as->D.fits 8 ds=true->∀y,y∈its.toArray->SeqAt.EqAt A.in1 s y x ((SeqAt.readOf s.heap y).eqv d.py)
 | [],[],_,_,_,y,hy=>by simp at hy
 | [],_::_,_,h,_,_,_=>by cases h
 | _::_,[],_,h,_,_,_=>by cases h
 | v::its,e::ds,_,h,f,y,hy=>by
  simp only [D.fits,Bool.and_eq_true] at f
  cases h with
  | cons h1 h2 =>
   simp at hy
   rcases hy with rfl | hy
   ·rw [zn6 (D.lay f.1).1 h1];refine SeqAt.eqAt_reads _ _ _ _ _ _ _ _ h1 rx (D.lay f.1).1 (D.lay fd).1 ?_;have:=(D.lay f.1).2;show A.units+1+_<cLine;omega
   ·exact zc8 hu rx fd h2 f.2 y (by simpa using hy)
theorem zj0{e:D}{l:List D}(h:zj1 e=some l):e=.lst l\/e=.tup l:=by
 cases e<;>simp [zj1] at h
 ·exact .inr (by rw [h])
 ·exact .inl (by rw [h])
theorem zta(hK:X.K=cl.K)(hu:X.A.units+64<cLine):OpD X cl (compareOp .In) inD:=by
 intro pins s σ H x y v u Q I rx ry h;obtain ⟨w,d,e,r,rfl,hx,hy,hg,q⟩:=h;unfold inD at hg;split at hg
 ·rename_i l hl;split at hg
  ·rename_i hf;cases hg;rw [Bool.and_eq_true] at hf;obtain ⟨bs,rb⟩:=zi8 I hK hx hf.1 rx
   rcases zj0 hl with rfl | rfl
   ·obtain ⟨a,xs,rfl,e,rs⟩:=hy.lstI;cases ry;obtain ⟨its,rv,p,_⟩:=I.list (SqL.of (K:=X.K) e);obtain ⟨as,ra⟩:=zek I hK rs hf.2 rv;refine SeqAt.in_listAt _ p.isList (zc8 hu rb hf.1 ra hf.2) ?_;rw [zdo ra hf.2];exact ⟨.bl _,w.H,I,rfl,q _ w (Grow.refl _) (.bl _)⟩
   ·obtain ⟨a,xs,rfl,e,_,rs⟩:=hy.tupI;cases ry;obtain ⟨its,rv,p,_⟩:=I.tuple (SqT.of (K:=X.K) e);obtain ⟨as,ra⟩:=zek I hK rs hf.2 rv;refine SeqAt.in_tupleAt _ p (zc8 hu rb hf.1 ra hf.2) ?_;rw [zdo ra hf.2];exact ⟨.bl _,w.H,I,rfl,q _ w (Grow.refl _) (.bl _)⟩
  ·cases hg
 ·cases hg
theorem zqS(hK:X.K=cl.K)(hu:X.A.units+64<cLine):OpD X cl (compareOp .NotIn) zq2:=by
 intro pins s σ H x y v u Q I rx ry h;obtain ⟨w,d,e,r,rfl,hx,hy,hg,q⟩:=h;unfold zq2 at hg;split at hg
 ·rename_i l hl;split at hg
  ·rename_i hf;cases hg;rw [Bool.and_eq_true] at hf;obtain ⟨bs,rb⟩:=zi8 I hK hx hf.1 rx
   rcases zj0 hl with rfl | rfl
   ·obtain ⟨a,xs,rfl,e,rs⟩:=hy.lstI;cases ry;obtain ⟨its,rv,p,_⟩:=I.list (SqL.of (K:=X.K) e);obtain ⟨as,ra⟩:=zek I hK rs hf.2 rv;refine SeqAt.notIn_listAt _ p.isList (zc8 hu rb hf.1 ra hf.2) ?_;rw [zdo ra hf.2];exact ⟨.bl _,w.H,I,rfl,q _ w (Grow.refl _) (.bl _)⟩
   ·obtain ⟨a,xs,rfl,e,_,rs⟩:=hy.tupI;cases ry;obtain ⟨its,rv,p,_⟩:=I.tuple (SqT.of (K:=X.K) e);obtain ⟨as,ra⟩:=zek I hK rs hf.2 rv;refine SeqAt.notIn_tupleAt _ p (zc8 hu rb hf.1 ra hf.2) ?_;rw [zdo ra hf.2];exact ⟨.bl _,w.H,I,rfl,q _ w (Grow.refl _) (.bl _)⟩
  ·cases hg
 ·cases hg
def zer:D->D->Option D
 | .int i,.int j=>some (.int (i+j))
 | .tup a,.tup b=>if zby (a.length+b.length) then some (.tup (a++b)) else none
 | .lst a,.lst b=>if zby (a.length+b.length) then some (.lst (a++b)) else none
 | .str a,.str b=>if zby (a.length+b.length) then some (.str (a++b)) else none
 | _,_=>none
theorem zqY:OpD X cl (binaryOp .Add) zer:=by
 intro pins s σ H x y v u Q I rx ry h;obtain ⟨w,d,e,r,rfl,hx,hy,hg,q⟩:=h;unfold zer at hg;split at hg
 ·cases hg;rename_i i j;obtain rfl:=hx.intI;obtain rfl:=hy.intI;exact zqO pins s σ w.H _ _ v u Q I rx ry ⟨i,j,rfl,rfl,q _ w (Grow.refl _) (.int _)⟩
 ·rename_i a b;split at hg
  ·rename_i hz;cases hg;obtain ⟨p,xs,rfl,ep,kp,rs⟩:=hx.tupI;obtain ⟨p2,ys,rfl,ep2,kp2,rs2⟩:=hy.tupI
   by_cases hxe:xs=[]
   ·subst hxe;cases rs;exact zme pins s σ w.H _ _ v u Q I rx ry ⟨p,p2,ys,rfl,rfl,SqT.of ep,SqT.of ep2,q _ w (Grow.refl _) (.tup ep2 kp2 rs2)⟩
   ·refine zop pins s σ w.H _ _ v u Q I rx ry ⟨p,p2,xs,ys,rfl,rfl,SqT.of ep,SqT.of ep2,hxe,by rw [rs.length,rs2.length];exact zbu hz,fun z=>?_,fun z l hl=>?_⟩
    ·subst z;cases rs2;rw [List.append_nil] at q;exact q _ w (Grow.refl _) (.tup ep kp rs)
    ·exact q _ (w.add l _) (zaL hl _) (Shd.newT hl (rs.append rs2))
  ·cases hg
 ·rename_i a b;split at hg
  ·rename_i hz;cases hg;obtain ⟨p,xs,rfl,ep,rs⟩:=hx.lstI;obtain ⟨p2,ys,rfl,ep2,rs2⟩:=hy.lstI;exact zqN pins s σ w.H _ _ v u Q I rx ry ⟨p,p2,xs,ys,rfl,rfl,ep,ep2,by rw [rs.length,rs2.length];exact zbu hz,fun l hl=>q _ (w.add l _) (zaL hl _) (Shd.newL hl (rs.append rs2))⟩
  ·cases hg
 ·rename_i a b;split at hg
  ·rename_i hz;cases hg;obtain rfl:=hx.strI;obtain rfl:=hy.strI;exact zjb pins s σ w.H _ _ v u Q I rx ry ⟨a,b,rfl,rfl,zbu hz,q _ w (Grow.refl _) (.str _)⟩
  ·cases hg
 ·cases hg
def zrY:D->D->Option D | .int i,.int j=>some (.int (i-j)) | _,_=>none
theorem zqR:OpD X cl (binaryOp .Sub) zrY:=by
 intro pins s σ H x y v u Q I rx ry h;obtain ⟨w,d,e,r,rfl,hx,hy,hg,q⟩:=h;unfold zrY at hg;split at hg
 ·cases hg;rename_i i j;obtain rfl:=hx.intI;obtain rfl:=hy.intI;exact zqJ pins s σ w.H _ _ v u Q I rx ry ⟨i,j,rfl,rfl,q _ w (Grow.refl _) (.int _)⟩
 ·cases hg
def zcs(i:Int):Bool:=decide (-(2 ^ 64)<i/\i<2 ^ 64)
def zfy:D->D->Option D
 | .int i,.int j=>if zcs i||zcs j then some (.int (i*j)) else none
 | .tup a,.int j=>if decide (1<=j/\j<=1000/\a≠[]/\a.length<=1000) then some (.tup (List.replicate j.toNat a).flatten) else none
 | .lst a,.int j=>if decide (0<=j/\j<=1000/\a.length<=1000) then some (.lst (List.replicate j.toNat a).flatten) else none
 | _,_=>none
theorem zqT:OpD X cl (binaryOp .Mult) zfy:=by
 intro pins s σ H x y v u Q I rx ry h;obtain ⟨w,d,e,r,rfl,hx,hy,hg,q⟩:=h;unfold zfy at hg;split at hg
 ·rename_i i j;split at hg
  ·rename_i hz;cases hg;obtain rfl:=hx.intI;obtain rfl:=hy.intI;refine zqK pins s σ w.H _ _ v u Q I rx ry ⟨i,j,rfl,rfl,?_,q _ w (Grow.refl _) (.int _)⟩;rw [Bool.or_eq_true] at hz;exact hz.imp (fun z=>of_decide_eq_true z) fun z=>of_decide_eq_true z
  ·cases hg
 ·rename_i a j;split at hg
  ·rename_i hz;cases hg;have hz':=of_decide_eq_true hz;obtain ⟨p,xs,rfl,ep,kp,rs⟩:=hx.tupI;obtain rfl:=hy.intI;have hl:=rs.length;obtain ⟨k,rfl⟩:∃k:Nat,j=(k:Int):=⟨j.toNat,by omega⟩;have hne:xs≠[]:=fun z=>hz'.2.2.1 (by cases a with | nil=>rfl | cons _ _=>rw [z] at hl;cases hl)
   by_cases hk:k=1
   ·subst hk;cases rx;obtain ⟨t,rfl⟩:=ry;obtain ⟨its,rv,⟨o,ho,hc,n,hd⟩,_⟩:=I.tuple (SqT.of (K:=X.K) ep);refine PySem.zmh ho hc hd ⟨.ref p,w.H,I,rfl,q _ w (Grow.refl _) (.tup ep kp ?_)⟩;simpa using rs
   ·refine zom pins s σ w.H _ _ v u Q I rx ry ⟨p,k,xs,rfl,rfl,SqT.of ep,hne,by omega,by omega,by omega,fun l hl=>q _ (w.add l _) (zaL hl _) (Shd.newT hl (rs.flat _))⟩
  ·cases hg
 ·rename_i a j;split at hg
  ·rename_i hz;cases hg;have hz':=of_decide_eq_true hz;obtain ⟨p,xs,rfl,ep,rs⟩:=hx.lstI;obtain rfl:=hy.intI;have hl:=rs.length;refine zm4 pins s σ w.H _ _ v u Q I rx ry ⟨p,j,xs,rfl,rfl,ep,by omega,by omega,?_,fun l hl=>q _ (w.add l _) (zaL hl _) (Shd.newL hl (rs.flat _))⟩;refine Nat.le_trans (Nat.mul_le_mul (show xs.length<=1000 by omega) (show j.toNat<=1000 by omega)) (by decide)
  ·cases hg
 ·cases hg
def zkz:D->D->Option D | .int i,.int j=>if 0<j then some (.int (i % j)) else none | _,_=>none
def zrx:D->D->Option D | .int i,.int j=>if 0<j/\j<1073741824 then some (.int (i / j)) else none | _,_=>none
theorem zqU:OpD X cl (binaryOp .Mod) zkz:=by
 intro pins s σ H x y v u Q I rx ry h;obtain ⟨w,d,e,r,rfl,hx,hy,hg,q⟩:=h;unfold zkz at hg;split at hg
 ·rename_i i j;split at hg
  ·rename_i hz;cases hg;obtain rfl:=hx.intI;obtain rfl:=hy.intI;exact zqL pins s σ w.H _ _ v u Q I rx ry ⟨i,j,rfl,rfl,hz,q _ w (Grow.refl _) (.int _)⟩
  ·cases hg
 ·cases hg
theorem zqX:OpD X cl (binaryOp .FloorDiv) zrx:=by
 intro pins s σ H x y v u Q I rx ry h;obtain ⟨w,d,e,r,rfl,hx,hy,hg,q⟩:=h;unfold zrx at hg;split at hg
 ·rename_i i j;split at hg
  ·rename_i hz;cases hg;obtain rfl:=hx.intI;obtain rfl:=hy.intI;exact zoo pins s σ w.H _ _ v u Q I rx ry ⟨i,j,rfl,rfl,hz,q _ w (Grow.refl _) (.int _)⟩
  ·cases hg
 ·cases hg
def zow:D->Option D | .int i=>some (.int (-i)) | _=>none
theorem zpv:UnD X cl (unaryOp .USub) zow:=by
 intro pins s σ H x v Q I rx h;obtain ⟨w,d,r,rfl,hx,hg,q⟩:=h;unfold zow at hg;split at hg
 ·cases hg;rename_i i;obtain rfl:=hx.intI;exact zpu pins s σ w.H _ v Q I rx ⟨i,rfl,q _ w (Grow.refl _) (.int _)⟩
 ·cases hg
def zpo(p:Int->Int->Bool):D->D->Option D | .int i,.int j=>some (.bl (p i j)) | _,_=>none
theorem zf4{op:CmpOp}{p:Int->Int->Bool}(ho:OpR X (compareOp op) (rI0 fun i j=>.bl (p i j))):OpD X cl (compareOp op) (zpo p):=by
 intro pins s σ H x y v u Q I rx ry h;obtain ⟨w,d,e,r,rfl,hx,hy,hg,q⟩:=h;unfold zpo at hg;split at hg
 ·cases hg;rename_i i j;obtain rfl:=hx.intI;obtain rfl:=hy.intI;exact ho pins s σ w.H _ _ v u Q I rx ry ⟨i,j,rfl,rfl,q _ w (Grow.refl _) (.bl _)⟩
 ·cases hg
def zc9:D->Bool | .non=>true | _=>false
def zne(d e:D):Option D:=if zc9 e then some (.bl (zc9 d)) else none
def zhB(d e:D):Option D:=if zc9 e then some (.bl (!zc9 d)) else none
theorem TopV.non_iff{v:V}{d:D}(h:TopV cl w v d):decide (v=.non)=zc9 d:=by
 cases h with
 | sh h=>cases h<;>simp [zc9]
 | ow e t=>cases t<;>simp [zc9]
theorem zg2{d:D}(h:zc9 d=true):d=.non:=by cases d<;>simp [zc9] at h;rfl
theorem zqV:OpD X cl (compareOp .Is) zne:=by
 intro pins s σ H x y v u Q I rx ry h;obtain ⟨w,d,e,r,rfl,hx,hy,hg,q⟩:=h;unfold zne at hg;split at hg
 ·rename_i hz;cases hg;rw [zg2 hz] at hy;obtain rfl:=hy.nonI;refine zqM pins s σ w.H _ _ v u Q I rx ry ⟨rfl,?_⟩;rw [hx.non_iff];exact q _ w (Grow.refl _) (.bl _)
 ·cases hg
theorem zot:OpD X cl (compareOp .IsNot) zhB:=by
 intro pins s σ H x y v u Q I rx ry h;obtain ⟨w,d,e,r,rfl,hx,hy,hg,q⟩:=h;unfold zhB at hg;split at hg
 ·rename_i hz;cases hg;rw [zg2 hz] at hy;obtain rfl:=hy.nonI;refine zon pins s σ w.H _ _ v u Q I rx ry ⟨rfl,?_⟩;rw [hx.non_iff];exact q _ w (Grow.refl _) (.bl _)
 ·cases hg
def zkv:D->D->Option D | .bl a,.bl b=>some (.bl (!decide (a=b))) | _,_=>none
theorem zou:OpD X cl (compareOp .IsNot) zkv:=by
 intro pins s σ H x y v u Q I rx ry h;obtain ⟨w,d,e,r,rfl,hx,hy,hg,q⟩:=h;unfold zkv at hg;split at hg
 ·cases hg;obtain rfl:=hx.blI;obtain rfl:=hy.blI;exact zhA pins s σ w.H _ _ v u Q I rx ry ⟨_,_,rfl,rfl,q _ w (Grow.refl _) (.bl _)⟩
 ·cases hg
def ixD:D->D->Option D
 | .lst l,.int i=>atI l i
 | .tup l,.int i=>atI l i
 | .scr l,.int i=>(atI l i).map D.int
 | _,_=>none
theorem zid{xs:List V}{ds:List D}(r:Shds cl w xs ds){i:Int}{d:D}(h:atI ds i=some d):∃v,atI xs i=some v/\Shd cl w v d:=by
 unfold atI at h ⊢;rw [r.length]
 cases e:ixN ds.length i with
 | none=>rw [e] at h;cases h
 | some j =>
  rw [e] at h;exact r.at h
theorem ztw(hK:X.K=cl.K):IxD X cl ixD:=by
 intro value slice pins s σ H x y v u Q I rx ry h hsub;obtain ⟨w,d,e,r,rfl,hx,hy,hg,q⟩:=h;unfold ixD at hg;split at hg
 ·rename_i l i;obtain ⟨p,xs,rfl,ep,rs⟩:=hx.lstI;obtain rfl:=hy.intI;obtain ⟨z,e1,e2⟩:=zid rs hg;exact zkS value slice pins s σ w.H _ _ v u Q I rx ry ⟨p,xs,i,z,rfl,rfl,SqL.of ep,e1,q _ w (Grow.refl _) e2⟩ hsub
 ·rename_i l i;obtain ⟨p,xs,rfl,ep,_,rs⟩:=hx.tupI;obtain rfl:=hy.intI;obtain ⟨z,e1,e2⟩:=zid rs hg;exact zri value slice pins s σ w.H _ _ v u Q I rx ry ⟨p,xs,i,z,rfl,rfl,SqT.of ep,e1,q _ w (Grow.refl _) e2⟩ hsub
 ·rename_i l i;obtain ⟨p,rfl,ep⟩:=hx.scrI hK;obtain rfl:=hy.intI
  cases hl:atI l i with
  | none=>rw [hl] at hg;cases hg
  | some k =>
   rw [hl] at hg;cases hg
   have e1:atI (l.map V.int) i=some (.int k):=by
    unfold atI at hl ⊢;rw [List.length_map]
    cases e:ixN l.length i with
    | none=>rw [e] at hl;cases hl
    | some j =>
     rw [e] at hl;have hl':l[j]?=some k:=hl;show (l.map V.int)[j]?=_;rw [List.getElem?_map,hl'];rfl
   exact zkS value slice pins s σ w.H _ _ v u Q I rx ry ⟨p,_,i,_,rfl,rfl,ep,e1,q _ w (Grow.refl _) (.int _)⟩ hsub
 ·cases hg
def zew:List D->Option D
 | [.lst l]=>some (.int l.length)
 | [.tup l]=>some (.int l.length)
 | [.scr l]=>some (.int l.length)
 | [.str x]=>if zby x.length then some (.int x.length) else none
 | _=>none
theorem zrE(hK:X.K=cl.K):zhm X cl (.builtin "len") zew:=by
 intro pins s σ H xs us Q I r h;obtain ⟨w,ds,d,rfl,hx,hg,q⟩:=h;unfold zew at hg;split at hg
 ·rename_i l;cases hg
  cases hx with
  | cons h1 h2 =>
   cases h2;obtain ⟨p,ys,rfl,ep,rs⟩:=h1.lstI;refine zde pins s σ w.H _ us Q I r ⟨p,ys,rfl,.inl (SqL.of ep),?_⟩;rw [rs.length];exact q _ w (Grow.refl _) (.int _)
 ·rename_i l;cases hg
  cases hx with
  | cons h1 h2 =>
   cases h2;obtain ⟨p,ys,rfl,ep,_,rs⟩:=h1.tupI;refine zde pins s σ w.H _ us Q I r ⟨p,ys,rfl,.inr (SqT.of ep),?_⟩;rw [rs.length];exact q _ w (Grow.refl _) (.int _)
 ·rename_i l;cases hg
  cases hx with
  | cons h1 h2 =>
   cases h2;obtain ⟨p,rfl,ep⟩:=h1.scrI hK;refine zde pins s σ w.H _ us Q I r ⟨p,l.map V.int,rfl,.inl ep,?_⟩;rw [List.length_map];exact q _ w (Grow.refl _) (.int _)
 ·rename_i x;split at hg
  ·rename_i hz;cases hg
   cases hx with
   | cons h1 h2 =>
    cases h2;obtain rfl:=h1.strI;exact zhe pins s σ w.H _ us Q I r ⟨x,rfl,zbu hz,q _ w (Grow.refl _) (.int _)⟩
  ·cases hg
 ·cases hg
def zdK:List D->Option D
 | [.lst l]=>some (.tup l)
 | [.tup l]=>some (.tup l)
 | _=>none
theorem zmI:zhm X cl (.type "tuple") zdK:=by
 intro pins s σ H xs us Q I r h;obtain ⟨w,ds,d,rfl,hx,hg,q⟩:=h;unfold zdK at hg;split at hg
 ·rename_i l;cases hg
  cases hx with
  | cons h1 h2 =>
   cases h2;obtain ⟨p,ys,rfl,ep,rs⟩:=h1.lstI;exact zdY pins s σ w.H _ us Q I r ⟨p,ys,rfl,.inl ⟨SqL.of ep,fun l hl=>q _ (w.add l _) (zaL hl _) (Shd.newT hl rs)⟩⟩
 ·rename_i l;cases hg
  cases hx with
  | cons h1 h2 =>
   cases h2;obtain ⟨p,ys,rfl,ep,kp,rs⟩:=h1.tupI;exact zdY pins s σ w.H _ us Q I r ⟨p,ys,rfl,.inr ⟨SqT.of ep,q _ w (Grow.refl _) (.tup ep kp rs)⟩⟩
 ·cases hg
def zkI:List D->Option D
 | [.lst l]=>some (.lst l)
 | [.tup l]=>some (.lst l)
 | _=>none
theorem zo1:zrS X cl (.type "list") zkI:=by
 intro pins s σ H xs us Q I r h;obtain ⟨w,ds,d,rfl,hx,hg,q⟩:=h;unfold zkI at hg;split at hg
 ·rename_i l;cases hg
  cases hx with
  | cons h1 h2 =>
   cases h2;obtain ⟨p,ys,rfl,ep,rs⟩:=h1.lstI;exact zeq pins s σ w.H _ us Q I r ⟨p,ys,rfl,.inl (SqL.of ep),fun l hl=>q _ _ w (Grow.refl _) hl (.lst rs)⟩
 ·rename_i l;cases hg
  cases hx with
  | cons h1 h2 =>
   cases h2;obtain ⟨p,ys,rfl,ep,_,rs⟩:=h1.tupI;exact zeq pins s σ w.H _ us Q I r ⟨p,ys,rfl,.inr (SqT.of ep),fun l hl=>q _ _ w (Grow.refl _) hl (.lst rs)⟩
 ·cases hg
def zgm:List D->Option (List Bool)
 | []=>some []
 | .bl b::l=>(zgm l).map (b::·)
 | _=>none
theorem zmP{bs:List Bool}{ds:List D}:∀{xs:List V},Shds cl w xs ds->zgm ds=some bs->xs=bs.map V.bl:=by
 induction ds generalizing bs with
 | nil=>intro xs r h;cases r;cases h;rfl
 | cons d ds ih =>
  intro xs r e
  cases r with
  | cons h t =>
   cases d with
   | bl b =>
    cases h;unfold zgm at e
    cases hr:zgm ds with
    | none=>rw [hr] at e;cases e
    | some cs=>rw [hr] at e;cases e;rw [ih t hr];rfl
   | _=>cases e
def znv:List D->Option D
 | [.lst l]=>(zgm l).map fun bs=>.bl (bs.all id)
 | _=>none
theorem zrF(hc:X.calm=true):zhm X cl (.builtin "all") znv:=by
 intro pins s σ H xs us Q I r h;obtain ⟨w,ds,d,rfl,hx,hg,q⟩:=h;unfold znv at hg;split at hg
 ·rename_i l
  cases hb:zgm l with
  | none=>rw [hb] at hg;cases hg
  | some bs =>
   rw [hb] at hg;cases hg
   cases hx with
   | cons h1 h2 =>
    cases h2;obtain ⟨p,ys,rfl,ep,rs⟩:=h1.lstI;obtain rfl:=zmP rs hb;exact zhW hc pins s σ w.H _ us Q I r ⟨p,bs,rfl,SqL.of ep,q _ w (Grow.refl _) (.bl _)⟩
 ·cases hg
def zbL:List D->Option (List Int)
 | []=>some []
 | .int b::l=>(zbL l).map (b::·)
 | _=>none
theorem zg4{bs:List Int}{ds:List D}:∀{xs:List V},Shds cl w xs ds->zbL ds=some bs->xs=bs.map V.int:=by
 induction ds generalizing bs with
 | nil=>intro xs r h;cases r;cases h;rfl
 | cons d ds ih =>
  intro xs r e
  cases r with
  | cons h t =>
   cases d with
   | int b =>
    cases h;unfold zbL at e
    cases hr:zbL ds with
    | none=>rw [hr] at e;cases e
    | some cs=>rw [hr] at e;cases e;rw [ih t hr];rfl
   | _=>cases e
def zlJ:List D->Option D
 | [.lst l]=>(zbL l).bind fun ns=>if decide (ns.length<=1000)&&ns.all (fun n=>decide (0<=n/\n<=1000000)) then some (.int ns.sum) else none
 | _=>none
theorem zrC(hc:X.calm=true):zhm X cl (.builtin "sum") zlJ:=by
 intro pins s σ H xs us Q I r h;obtain ⟨w,ds,d,rfl,hx,hg,q⟩:=h;unfold zlJ at hg;split at hg
 ·rename_i l
  cases hb:zbL l with
  | none=>rw [hb] at hg;cases hg
  | some ns =>
   rw [hb] at hg;dsimp only [Option.bind] at hg;split at hg
   ·rename_i hz;cases hg;rw [Bool.and_eq_true,List.all_eq_true] at hz
    cases hx with
    | cons h1 h2 =>
     cases h2;obtain ⟨p,ys,rfl,ep,rs⟩:=h1.lstI;obtain rfl:=zg4 rs hb;exact zmJ hc pins s σ w.H _ us Q I r ⟨p,ns,rfl,SqL.of ep,of_decide_eq_true hz.1,fun n hn=>of_decide_eq_true (hz.2 n hn),q _ w (Grow.refl _) (.int _)⟩
   ·cases hg
 ·cases hg
end
end S2
namespace L2
open PySem PySem.Spec PyProof.Rows
section
variable{X:Cx}{e st:Expr}{te ts:TE}{pos p2:Pos}
end
end L2
namespace S2
open PySem PySem.Spec PyProof.Rows L2
def zdu(g g':D->D->Option D)(f h k:Fe):Fe:=fun ρ S=>(f ρ S).bind fun a S1=>(h ρ S1).bind fun b S2=>match (g a b).bind isB with
 | some true=>(k ρ S2).bind fun c S3=>Out.of (g' b c) S3
 | some false=>.ok (.bl false) S2
 | none=>.bad
section
variable{X:Cx}{cl:Cf}{E:St->XK}{a b c e:Expr}{f h k:Fe}{pos:Pos}
theorem zh9{g g':D->D->Option D}{r r':R2}(hr:∀x y H Q,(∃w d e r,w.H=H/\TopV cl w x d/\TopV cl w y e/\g d e=some r/\∀v w',Grow w w'->Shd cl w' v r->Q v w'.H)->r x y H Q)
  (hr':∀x y H Q,(∃w d e r,w.H=H/\TopV cl w x d/\TopV cl w y e/\g' d e=some r/\∀v w',Grow w w'->Shd cl w' v r->Q v w'.H)->r' x y H Q) {σ:St} {H:Hp} {Q:VK} (q:tE cl E (zdu g g' f h k) σ H Q):zjW r r' (tH cl E f) (tH cl E h) (tH cl E k) σ H Q:=by
 obtain ⟨B,w,ρ,S,rfl,R,q⟩:=q;refine ⟨B,w,ρ,S,rfl,R,?_⟩;unfold zdu at q
 cases hf:f ρ S with
 | bad=>rw [hf] at q;exact q
 | exc c S1=>rw [hf] at q;exact q
 | ok d S1 =>
  rw [hf] at q;intro v w1 R1 F1 h1;refine ⟨B,w1,ρ,S1,rfl,R1,?_⟩;dsimp only [Out.bind] at q
  cases hh:h ρ S1 with
  | bad=>rw [hh] at q;exact q
  | exc c S2=>rw [hh] at q;exact fun w2 R2 F2=>q w2 R2 (F1.trans F2)
  | ok e S2 =>
   rw [hh] at q;intro y w2 R2 F2 h2;dsimp only at q
   cases hg:g d e with
   | none=>rw [hg] at q;exact q.elim
   | some z =>
    rw [hg] at q;dsimp only [Option.bind] at q
    cases hb:isB z with
    | none=>rw [hb] at q;exact q.elim
    | some bb =>
     rw [hb] at q;rw [zdj hb] at hg;refine hr _ _ _ _ ⟨w2,d,e,_,rfl,(h1.up F2).top R2,h2.top R2,hg,fun v' w3 gr sh=>⟨bb,zgB sh,?_⟩⟩;have R3:=R2.grow gr
     cases bb with
     | false=>exact znc (q _ w3 R3 (F1.trans (F2.trans gr.fut)) (.bl _))
     | true =>
      refine znb ⟨B,w3,ρ,S2,rfl,R3,?_⟩;dsimp only at q
      cases hk:k ρ S2 with
      | bad=>rw [hk] at q;exact q
      | exc c S3=>rw [hk] at q;exact fun w4 R4 F4=>q w4 R4 (F1.trans (F2.trans (gr.fut.trans F4)))
      | ok c S3 =>
       rw [hk] at q;intro z' w4 R4 F4 h4;dsimp only at q
       cases hg':g' e c with
       | none=>rw [hg'] at q;exact q.elim
       | some r2 =>
        rw [hg'] at q;exact hr' _ _ _ _ ⟨w4,e,c,r2,rfl,(h2.up (gr.fut.trans F4)).top R4,h4.top R4,hg',fun v' w5 gr5 sh5=>q v' w5 (R4.grow gr5) (F1.trans (F2.trans (gr.fut.trans (F4.trans gr5.fut)))) sh5⟩
theorem zlO{op op':CmpOp}{g g':D->D->Option D}(ho:OpD X cl (compareOp op) g)(ho':OpD X cl (compareOp op') g')(ha:PE X a (tH cl E f))(hb:PE X b (tH cl E h))(hc:PE X c (tH cl E k))(hm:lastMarks [op,op'] [b,c]=false):PE X (.Compare a [op,op'] [b,c] pos) (tE cl E (zdu g g' f h k)) :=
 PE.imp (zl7 ho ho' ha hb hc hm) fun _ _ _ q=>zh9 (fun _ _ _ _ z=>z) (fun _ _ _ _ z=>z) q
theorem zlK{op op':CmpOp}{g g':D->D->Option D}(ho:OpD X cl (compareOp op) g)(ho':OpD X cl (compareOp op') g')(ha:PE X a (tH cl E f))(hb:PE X b (tH cl E h))(hc:PE X c (tH cl E k))(hm:lastMarks [op,op'] [b,c]=false):PT X (.Compare a [op,op'] [b,c] pos) (tTr cl E (zdu g g' f h k)) :=
 PT.imp (zlX ho ho' ha hb hc hm) fun _ _ _ q=>zh9 (fun _ _ _ _ z=>z) (fun _ _ _ _ z=>z) (zh8 q)
def zjq{α:Type}(l:List α)(lo hi:Option Int):List α:=(l.drop (HT.sIx l.length 0 lo)).take (HT.sIx l.length l.length hi-HT.sIx l.length 0 lo)
def slD(d:D)(lo hi:Option Int):Option D:=match d with
 | .lst l=>some (.lst (zjq l lo hi))
 | .tup l=>some (.tup (zjq l lo hi))
 | _=>none
def zc3(o:Option Fe)(ρ:Env)(S:Sto):Out (Option Int):=match o with
 | none=>.ok none S
 | some f=>(f ρ S).bind fun d S1=>match d with | .int i=>.ok (some i) S1 | _=>.bad
def eSl(f:Fe)(lo hi:Option Fe):Fe:=fun ρ S=>(f ρ S).bind fun d S1=>(zc3 lo ρ S1).bind fun l S2=>(zc3 hi ρ S2).bind fun u S3=>Out.of (slD d l u) S3
theorem zhb{w:Wd}{xs:List V}{ds:List D}(r:Shds cl w xs ds)(lo hi:Option Int):Shds cl w (zno xs lo hi) (zjq ds lo hi):=by
 unfold zno zjq;rw [r.length];exact (r.drop _).take _
def SlD(X:Cx)(cl:Cf):Prop:=SlR X fun x lo hi H Q=>∃w d r,w.H=H/\TopV cl w x d/\slD d lo hi=some r/\∀v w',Grow w w'->Shd cl w' v r->Q v w'.H
theorem zsT:SlD X cl:=by
 intro pins s σ H x v vl vu lo hi sl Q I rx hs pl pu h;obtain ⟨w,d,r,rfl,hx,hg,q⟩:=h;unfold slD at hg;split at hg
 ·rename_i l;cases hg;obtain ⟨p,xs,rfl,ep,rs⟩:=hx.lstI;exact znQ pins s σ w.H _ v vl vu lo hi sl Q I rx hs pl pu ⟨p,xs,rfl,SqL.of ep,fun p' hp=>q _ (w.add p' _) (zaL hp _) (Shd.newL hp (zhb rs lo hi))⟩
 ·rename_i l;cases hg;obtain ⟨p,xs,rfl,ep,kp,rs⟩:=hx.tupI
  by_cases hw:HT.sIx xs.length 0 lo=0/\HT.sIx xs.length xs.length hi=xs.length
  ·refine zi5 pins s σ w.H _ v vl vu lo hi sl Q I rx hs pl pu ⟨p,xs,rfl,SqT.of ep,hw.1,hw.2,q _ w (Grow.refl _) (.tup ep kp ?_)⟩
   have:zjq l lo hi=l:=by
    unfold zjq;rw [<-rs.length,hw.1,hw.2,List.drop_zero,Nat.sub_zero,List.take_of_length_le (by rw [rs.length];exact Nat.le_refl _)]
   rw [this];exact rs
  ·exact zpW pins s σ w.H _ v vl vu lo hi sl Q I rx hs pl pu ⟨p,xs,rfl,SqT.of ep,hw,fun p' hp=>q _ (w.add p' _) (zaL hp _) (Shd.newT hp (zhb rs lo hi))⟩
 ·cases hg
def zrW(cl:Cf)(E:St->XK)(o:Option Fe):TO:=match o with | none=>zjV | some f=>zpC (tH cl E f)
theorem zp6{lo hi:Option Expr}{fl fh:Option Fe}{p2:Pos}(he:PE X e (tH cl E f))(hl:PO X lo (zrW cl E fl))(hu:PO X hi (zrW cl E fh)):PE X (.Subscript e (.Slice lo hi none p2) pos) (tE cl E (eSl f fl fh)):=by
 refine PE.imp (zl3 (zsT (cl:=cl)) he hl hu) ?_;rintro σ H Q ⟨B,w,ρ,S,rfl,R,q⟩;refine ⟨B,w,ρ,S,rfl,R,?_⟩;unfold eSl at q
 cases hf:f ρ S with
 | bad=>rw [hf] at q;exact q
 | exc c S1=>rw [hf] at q;exact q
 | ok d S1 =>
  rw [hf] at q;intro v w1 R1 F1 h1;dsimp only [Out.bind] at q
  have last:∀(l u:Option Int) (w3:Wd) (S3:Sto),Rel cl B σ w3 ρ S3->Fut w1 w3->(match Out.of (slD d l u) S3 with
    | .ok d S'=>∀v w',Rel cl B σ w' ρ S'->Fut w w'->Shd cl w' v d->Q v w'.H
    | .exc c S'=>∀w',Rel cl B σ w' ρ S'->Fut w w'->E σ (.ref (cl c)) none w'.H
    | .bad=>False)->∃w d r,w.H=w3.H/\TopV cl w v d/\slD d l u=some r/\∀v w',Grow w w'->Shd cl w' v r->Q v w'.H:=by
   intro l u w3 S3 R3 F3 q3
   cases hg:slD d l u with
   | none=>rw [hg] at q3;exact q3.elim
   | some r =>
    rw [hg] at q3;exact ⟨w3,d,r,rfl,(h1.up F3).top R3,hg,fun v' w' gr sh=>q3 v' w' (R3.grow gr) (F1.trans (F3.trans gr.fut)) sh⟩
  have second:∀(l:Option Int) (w2:Wd) (S2:Sto),Rel cl B σ w2 ρ S2->Fut w1 w2->(match (zc3 fh ρ S2).bind fun u S3=>Out.of (slD d l u) S3 with
    | .ok d S'=>∀v w',Rel cl B σ w' ρ S'->Fut w w'->Shd cl w' v d->Q v w'.H
    | .exc c S'=>∀w',Rel cl B σ w' ρ S'->Fut w w'->E σ (.ref (cl c)) none w'.H
    | .bad=>False)->zrW cl E fh σ w2.H fun u H3=>∃w d r,w.H=H3/\TopV cl w v d/\slD d l u=some r/\∀v w',Grow w w'->Shd cl w' v r->Q v w'.H:=by
   intro l w2 S2 R2 F2 q2
   cases fh with
   | none=>exact last l none w2 S2 R2 F2 q2
   | some fh =>
    refine ⟨B,w2,ρ,S2,rfl,R2,?_⟩;unfold zc3 at q2;dsimp only at q2
    cases hh:fh ρ S2 with
    | bad=>rw [hh] at q2;exact q2
    | exc c S3=>rw [hh] at q2;exact fun w3 R3 F3=>q2 w3 R3 (F1.trans (F2.trans F3))
    | ok dh S3 =>
     rw [hh] at q2;intro y w3 R3 F3 h3;dsimp only [Out.bind] at q2
     cases dh with
     | int i =>
      refine ⟨i,(h3.top R3).intI,?_⟩;exact last l (some i) w3 S3 R3 (F2.trans F3) q2
     | _=>exact q2.elim
  cases fl with
  | none=>exact second none w1 S1 R1 (Fut.refl _) q
  | some fl =>
   refine ⟨B,w1,ρ,S1,rfl,R1,?_⟩;unfold zc3 at q;dsimp only at q
   cases hh:fl ρ S1 with
   | bad=>rw [hh] at q;exact q
   | exc c S3=>rw [hh] at q;exact fun w3 R3 F3=>q w3 R3 (F1.trans F3)
   | ok dl S2 =>
    rw [hh] at q;intro y w2 R2 F2 h2;dsimp only [Out.bind] at q
    cases dl with
    | int i =>
     refine ⟨i,(h2.top R2).intI,?_⟩;exact second (some i) w2 S2 R2 F2 q
    | _=>exact q.elim
def zes(T:String)(d:D):Option D :=
 if T = "int" then (match d with | .int _=>some (.bl true) | .bl _=>some (.bl true) | .non=>some (.bl false) | .str _=>some (.bl false) | .tup _=>some (.bl false) | .lst _=>some (.bl false) | _=>none)
 else if T = "bool" then (match d with | .int _=>some (.bl false) | .bl _=>some (.bl true) | .non=>some (.bl false) | .str _=>some (.bl false) | .tup _=>some (.bl false) | .lst _=>some (.bl false) | _=>none)
 else if T = "tuple" then (match d with | .int _=>some (.bl false) | .bl _=>some (.bl false) | .non=>some (.bl false) | .str _=>some (.bl false) | .tup _=>some (.bl true) | .lst _=>some (.bl false) | _=>none)
 else if T = "str" then (match d with | .int _=>some (.bl false) | .bl _=>some (.bl false) | .non=>some (.bl false) | .str _=>some (.bl true) | .tup _=>some (.bl false) | .lst _=>some (.bl false) | _=>none)
 else if T = "list" then (match d with | .int _=>some (.bl false) | .bl _=>some (.bl false) | .non=>some (.bl false) | .str _=>some (.bl false) | .tup _=>some (.bl false) | .lst _=>some (.bl true) | _=>none)
 else none
theorem zoM{K:PySem.W.Frag}{w:Wd}{v:V}{d r:D}{T:String}(h:TopV cl w v d)(hg:zes T d=some r):∃t b,TyOf K w.H v t/\PySem.W.kitOne K t (.type T)=some b/\r=.bl b:=by
 unfold zes at hg;split at hg
 ·rename_i hT;subst hT
  split at hg<;>cases hg
  ·obtain rfl:=h.intI;exact ⟨_,_,.int _,by with_unfolding_all rfl,rfl⟩
  ·obtain rfl:=h.blI;exact ⟨_,_,.bl _,by with_unfolding_all rfl,rfl⟩
  ·obtain rfl:=h.nonI;exact ⟨_,_,.non,by with_unfolding_all rfl,rfl⟩
  ·obtain rfl:=h.strI;exact ⟨_,_,.str _,by with_unfolding_all rfl,rfl⟩
  ·obtain ⟨_,_,rfl,e,_⟩:=h.tupI;exact ⟨_,_,.tup e,by with_unfolding_all rfl,rfl⟩
  ·obtain ⟨_,_,rfl,e,_⟩:=h.lstI;exact ⟨_,_,.lst e,by with_unfolding_all rfl,rfl⟩
 split at hg
 ·rename_i hT;subst hT
  split at hg<;>cases hg
  ·obtain rfl:=h.intI;exact ⟨_,_,.int _,by with_unfolding_all rfl,rfl⟩
  ·obtain rfl:=h.blI;exact ⟨_,_,.bl _,by with_unfolding_all rfl,rfl⟩
  ·obtain rfl:=h.nonI;exact ⟨_,_,.non,by with_unfolding_all rfl,rfl⟩
  ·obtain rfl:=h.strI;exact ⟨_,_,.str _,by with_unfolding_all rfl,rfl⟩
  ·obtain ⟨_,_,rfl,e,_⟩:=h.tupI;exact ⟨_,_,.tup e,by with_unfolding_all rfl,rfl⟩
  ·obtain ⟨_,_,rfl,e,_⟩:=h.lstI;exact ⟨_,_,.lst e,by with_unfolding_all rfl,rfl⟩
 split at hg
 ·rename_i hT;subst hT
  split at hg<;>cases hg
  ·obtain rfl:=h.intI;exact ⟨_,_,.int _,by with_unfolding_all rfl,rfl⟩
  ·obtain rfl:=h.blI;exact ⟨_,_,.bl _,by with_unfolding_all rfl,rfl⟩
  ·obtain rfl:=h.nonI;exact ⟨_,_,.non,by with_unfolding_all rfl,rfl⟩
  ·obtain rfl:=h.strI;exact ⟨_,_,.str _,by with_unfolding_all rfl,rfl⟩
  ·obtain ⟨_,_,rfl,e,_⟩:=h.tupI;exact ⟨_,_,.tup e,by with_unfolding_all rfl,rfl⟩
  ·obtain ⟨_,_,rfl,e,_⟩:=h.lstI;exact ⟨_,_,.lst e,by with_unfolding_all rfl,rfl⟩
 split at hg
 ·rename_i hT;subst hT
  split at hg<;>cases hg
  ·obtain rfl:=h.intI;exact ⟨_,_,.int _,by with_unfolding_all rfl,rfl⟩
  ·obtain rfl:=h.blI;exact ⟨_,_,.bl _,by with_unfolding_all rfl,rfl⟩
  ·obtain rfl:=h.nonI;exact ⟨_,_,.non,by with_unfolding_all rfl,rfl⟩
  ·obtain rfl:=h.strI;exact ⟨_,_,.str _,by with_unfolding_all rfl,rfl⟩
  ·obtain ⟨_,_,rfl,e,_⟩:=h.tupI;exact ⟨_,_,.tup e,by with_unfolding_all rfl,rfl⟩
  ·obtain ⟨_,_,rfl,e,_⟩:=h.lstI;exact ⟨_,_,.lst e,by with_unfolding_all rfl,rfl⟩
 split at hg
 ·rename_i hT;subst hT
  split at hg<;>cases hg
  ·obtain rfl:=h.intI;exact ⟨_,_,.int _,by with_unfolding_all rfl,rfl⟩
  ·obtain rfl:=h.blI;exact ⟨_,_,.bl _,by with_unfolding_all rfl,rfl⟩
  ·obtain rfl:=h.nonI;exact ⟨_,_,.non,by with_unfolding_all rfl,rfl⟩
  ·obtain rfl:=h.strI;exact ⟨_,_,.str _,by with_unfolding_all rfl,rfl⟩
  ·obtain ⟨_,_,rfl,e,_⟩:=h.tupI;exact ⟨_,_,.tup e,by with_unfolding_all rfl,rfl⟩
  ·obtain ⟨_,_,rfl,e,_⟩:=h.lstI;exact ⟨_,_,.lst e,by with_unfolding_all rfl,rfl⟩
 ·cases hg
theorem zll:bootBuiltins "isinstance" = some (.builtin "isinstance"):=by decide +kernel
theorem znY{T:String}{x:Str}{p p2:Pos}(hg:Gl X "isinstance")(hm:X.mg "isinstance" = none)(hgT:Gl X x)(hmT:X.mg x=none)(hvT:bootBuiltins x=some (.type T))(hn:x ≠ "__name__")(hdb:(x == ("__debug__":Str))=false)(hp:zcJ e=true)(he:PE X e (tH cl E f)) :
  PE X (.Call (.Name "isinstance" p) [e,.Name x p2] [] pos) (tE cl E (eUn (zes T) f)):=by
 refine PE.imp (zio zhV hg hm zll (zc6 he (zc6 (zol (v:=.ty T) hgT hmT hvT rfl hn hdb) zfv rfl) (zcc hp)) (he:=zcc hp) (hpl:=rfl)) ?_;rintro σ H Q ⟨B,w,ρ,S,rfl,R,q⟩;refine ⟨B,w,ρ,S,rfl,R,?_⟩;unfold eUn at q
 cases hf:f ρ S with
 | bad=>rw [hf] at q;exact q
 | exc c S1=>rw [hf] at q;exact q
 | ok d S1 =>
  rw [hf] at q;intro v w1 R1 F1 h1;dsimp only [Out.bind] at q
  cases hg:zes T d with
  | none=>rw [hg] at q;exact q.elim
  | some r =>
   rw [hg] at q;obtain ⟨t,b,h2,h3,rfl⟩:=zoM (K:=X.K) (h1.top R1) hg;exact ⟨v,t,T,b,rfl,h2,h3,q _ w1 R1 F1 (.bl _)⟩
def zaV(f:Fe):Fi:=fun ρ S=>(f ρ S).bind fun d S1=>match d with | .lst l=>.ok l S1 | .tup l=>.ok l S1 | _=>.bad
theorem zpZ{tg:Expr}(hK:X.K=cl.K)(he:PE X e (tE cl E f)):PI X tg e (tI cl E (zaV f)):=by
 intro pins s σ H R' I q;obtain ⟨B,w,ρ,S,rfl,R,q⟩:=q;unfold zaV at q
 cases hf:f ρ S with
 | bad=>rw [hf] at q;exact q.elim
 | exc c S1 =>
  refine zjY he pins s σ w.H R' I ⟨B,w,ρ,S,rfl,R,?_⟩;unfold ziL;rw [hf] at q ⊢;exact q
 | ok d S1 =>
  rw [hf] at q;dsimp only [Out.bind] at q
  cases d with
  | lst l =>
   refine zjY he pins s σ w.H R' I ⟨B,w,ρ,S,rfl,R,?_⟩;unfold ziL;rw [hf];exact q
  | tup l =>
   refine zpY he pins s σ w.H R' I ⟨B,w,ρ,S,rfl,R,?_⟩;unfold zhO;rw [hf];exact q
  | _=>exact q.elim
end
end S2
namespace L2
open PySem PySem.Spec PyProof.Rows
def zjC(b:Bool)(h:Heap)(a:Addr)(vs:Array Value):Prop:=match b with | true=>h.IsList a vs | false=>h.IsTuple a vs
def zlz(b:Bool)(h:Heap)(it a:Addr)(j:Nat):Prop:=match b with | true=>h.IsListIter it a j | false=>h.IsTupleIter it a j
def itN(b:Bool):String:=match b with | true=>"list_iterator" | false=>"tuple_iterator"
theorem zjC.keep{b:Bool}{h h':Heap}{a:Addr}{vs:Array Value}(p:zjC b h a vs)(k:∀o,h.get? a=some o->h'.get? a=some o):zjC b h' a vs:=by
 cases b with
 | true=>exact Heap.IsList.at p k
 | false=>obtain ⟨o,ho,r⟩:=p;exact ⟨o,k o ho,r⟩
theorem zlz.keep{b:Bool}{h h':Heap}{it a:Addr}{j:Nat}(p:zlz b h it a j)(k:∀o,h.get? it=some o->h'.get? it=some o):zlz b h' it a j:=by
 cases b with
 | true=>exact Heap.IsListIter.at p k
 | false=>exact Heap.IsTupleIter.at p k
theorem zlz.live{b:Bool}{h:Heap}{it a:Addr}{j:Nat}(p:zlz b h it a j):∃o,h.get? it=some o/\∀v,o.data≠.cell v:=by
 cases b with
 | true=>obtain ⟨o,ho,c,d⟩:=p;exact ⟨o,ho,fun v z=>by rw [d] at z;cases z⟩
 | false=>obtain ⟨o,ho,c,d⟩:=p;exact ⟨o,ho,fun v z=>by rw [d] at z;cases z⟩
section
variable{prog:Program}{w:World}{A:Around}{E:Z5}{s:Shared}
theorem zeB(hh:A.handled=none)(b:Bool)(it t:Addr)(ne:t≠it)(vs:Array Value):Draws prog w A it [it,t] vs.size (fun j v=>vs[j]?=some v) (fun j h=>zlz b h it t j/\zjC b h t vs):=by
 cases b with
 | false=>exact zk9 hh it t ne vs
 | true =>
  exact {
   live:=fun _ _ st=>by obtain ⟨⟨o,ho,_⟩,_⟩:=st;exact ⟨o,ho⟩
   frame:=fun _ _ _ st hk=>⟨st.1.keep fun o e=>hk it (by simp) o e,st.2.keep fun o e=>hk t (by simp) o e⟩
   item:=fun j s Q E hj st hQ=>wpAny_nextOf_list_item (x:=vs[j]) st.1 st.2 (by simp [hj]) fun h' st' sb=>hQ _ h' s.toks (by simp [hj]) ⟨st',st.2.keep fun o e=>(sb.2 t ne).trans e⟩ sb
   done:=fun s Q E st hE=>wpAny_nextOf_list_end hh st.1 st.2 (by simp) fun h' e sb he=>hE h' e sb he }
theorem zgK{b:Bool}{l:Addr}{vs:Array Value}{Q:Z5}(p:zjC b s.heap l vs)(h:Q (.ref s.heap.objs.size) { s with heap:=s.heap.push { cls:=.type (itN b),data:=.fields #[.ref l,.int 0 0] } }):wpAny (model prog w) A (pyIter (.ref l)) Q E s:=by
 cases b with
 | true=>exact wpAny_pyIter_list p h
 | false=>exact wpAny_pyIter_tuple p h
structure ZipD(z TI TO i1 i2:Addr)(f1 f2:List Addr):Prop where
 TIz:TI≠z
 TOz:TO≠z
 i1z:i1≠z
 i2z:i2≠z
 TITO:TI≠TO
 TIi1:TI≠i1
 TIi2:TI≠i2
 TOi1:TO≠i1
 TOi2:TO≠i2
 i12:i1≠i2
 z1:z ∉ f1
 z2:z ∉ f2
 O1:TO ∉ f1
 O2:TO ∉ f2
 i1f:i1 ∉ f2
 i2f:i2 ∉ f1
theorem nin{a:Addr}{f:List Addr}{b:Addr}(h:a ∉ f)(hb:b∈f):b≠a:=fun z=>h (z ▸ hb)
theorem zfl{z TI TO i1 i2:Addr}{f1 f2:List Addr}{n1 n2:Nat}{P1 P2:Nat->Value->Prop}{S1 S2:Nat->Heap->Prop}{k1 k2:Nat}{a b:Value}{Q:Z5}(D:ZipD z TI TO i1 i2 f1 f2)
  (D1:Draws prog w A i1 f1 n1 P1 S1) (D2:Draws prog w A i2 f2 n2 P2 S2)
  (hz:IsZip s.heap z TI TO .none) (hTI:IsPair s.heap TI (.ref i1) (.ref i2)) (hTO:IsPair s.heap TO a b)
  (h1:S1 k1 s.heap) (h2:S2 k2 s.heap) (hx:k1<n1) (hy:k2<n2)
  (hQ:∀x y h' tk,P1 k1 x->P2 k2 y->IsZip h' z TI TO (rawInt s.heap.objs.size)->IsPair h' TO x y->S1 (k1+1) h'->S2 (k2+1) h'->IsPair h' s.heap.objs.size x y->h'.objs.size=s.heap.objs.size+1 →
   (∀c o,c≠z->c≠TO->c≠i1->c≠i2->s.heap.get? c=some o->h'.get? c=some o)->Q (.ref s.heap.objs.size) { s with heap:=h',toks:=tk }) :
  wpAny (model prog w) A (Builtin.«zip.__next__» ⟨[.ref z],[]⟩) (fun fin s'=>∃v,fin=.done (.ret v)/\Q v s') E s:=by
 show wpAny _ _ (field (.ref z) 2 >>= _) _ _ _;refine wpAny_bind (wpAny_field hz rfl (x:=.bool false) rfl ?_);show wpAny _ _ (field (.ref z) 3 >>= _) _ _ _;refine wpAny_bind (wpAny_field hz rfl (x:=.ref TI) rfl ?_);refine wpAny_bind (wpAny_seqItems hTI rfl ?_);show wpAny _ _ (Builtin.SmallTypes.ownedTupleIsFree (.ref z) >>= _) _ _ _;refine wpAny_bind ?_;unfold Builtin.SmallTypes.ownedTupleIsFree;refine wpAny_bind (wpAny_field hz rfl (x:=.none) rfl (wpAny_pure ?_));simp only [if_true];refine wpAny_bind (wpAny_rule ?_);refine wpAny_bind (wpAny_field hz rfl (x:=.ref TO) rfl ?_);refine wpAny_bind (wpAny_setField_rec hz (by simp) fun h₁ hz₁ hs₁=>?_);replace hz₁:IsZip h₁ z TI TO .ellipsis:=hz₁;refine wpAny_bind ?_;simp only [List.zipIdx_cons,List.zipIdx_nil,List.forIn_cons,List.forIn_nil];refine wpAny_bind (wpAny_bind (wpAny_onRaise ?_));show wpAny _ _ (Builtin.SmallTypes.nextOf (.ref i1) >>= _) _ _ _;refine wpAny_bind (D1.item k1 _ _ _ hx (D1.frame _ _ _ h1 fun c hc o e=>hs₁.extBut _ _ (nin D.z1 hc) e) fun x h₂ tk₂ px h1₂ hs₂=>wpAny_pure ?_);have hTO₂:IsPair h₂ TO a b:=hs₂.extBut _ _ D.TOi1 (hs₁.extBut _ _ D.TOz hTO);refine wpAny_bind (wpAny_seqItems hTO₂ rfl ?_);refine wpAny_bind (wpAny_updateSeq_pair hTO₂ fun h₃ hTO₃ hs₃=>?_);replace hTO₃:IsPair h₃ TO x b:=hTO₃;refine wpAny_bind (wpAny_letGo (wpAny_pure ?_));refine wpAny_bind (wpAny_bind (wpAny_onRaise ?_));show wpAny _ _ (Builtin.SmallTypes.nextOf (.ref i2) >>= _) _ _ _;refine wpAny_bind (D2.item k2 _ _ _ hy (D2.frame _ _ _ h2 fun c hc o e=>hs₃.extBut _ _ (nin D.O2 hc) (hs₂.extBut _ _ (nin D.i1f hc) (hs₁.extBut _ _ (nin D.z2 hc) e))) fun y h₄ tk₄ py h2₄ hs₄=>wpAny_pure ?_);have hTO₄:IsPair h₄ TO x b:=hs₄.extBut _ _ D.TOi2 hTO₃;refine wpAny_bind (wpAny_seqItems hTO₄ rfl ?_);refine wpAny_bind (wpAny_updateSeq_pair hTO₄ fun h₅ hTO₅ hs₅=>?_);replace hTO₅:IsPair h₅ TO x y:=hTO₅;refine wpAny_bind (wpAny_letGo (wpAny_pure (wpAny_pure ?_)));refine wpAny_bind (wpAny_seqItems hTO₅ rfl ?_);refine wpAny_bind (wpAny_newTuple ?_)
 have hsz:h₅.objs.size=s.heap.objs.size:=by rw [hs₅.1,hs₄.1,hs₃.1,hs₂.1,hs₁.1]
 have hz₅:IsZip h₅ z TI TO .ellipsis:=hs₅.extBut _ _ D.TOz.symm (hs₄.extBut _ _ D.i2z.symm (hs₃.extBut _ _ D.TOz.symm (hs₂.extBut _ _ D.i1z.symm hz₁)))
 have hk₅:∀c o,c≠z->c≠TO->c≠i1->c≠i2->s.heap.get? c=some o->h₅.get? c=some o:=fun c o c1 c2 c3 c4 e =>
  hs₅.extBut _ _ c2 (hs₄.extBut _ _ c4 (hs₃.extBut _ _ c2 (hs₂.extBut _ _ c3 (hs₁.extBut _ _ c1 e))))
 have h1₅:S1 (k1+1) h₅:=D1.frame _ _ _ h1₂ fun c hc o e=>hs₅.extBut _ _ (nin D.O1 hc) (hs₄.extBut _ _ (nin D.i2f hc) (hs₃.extBut _ _ (nin D.O1 hc) e))
 have h2₅:S2 (k2+1) h₅:=D2.frame _ _ _ h2₄ fun c hc o e=>hs₅.extBut _ _ (nin D.O2 hc) e
 have hzlt:z<h₅.objs.size:=Heap.lt_size hz₅;have hTOlt:TO<h₅.objs.size:=Heap.lt_size hTO₅;show wpAny _ _ (Builtin.SmallTypes.ownedTupleHandOut (.ref z) (.ref h₅.objs.size) >>= _) _ _ _;refine wpAny_bind ?_;unfold Builtin.SmallTypes.ownedTupleHandOut;have hz₆:IsZip (h₅.push { cls:=.type "tuple",data:=.seq #[x,y] }) z TI TO .ellipsis:=Heap.get?_push_of_some _ hz₅;refine wpAny_bind (wpAny_setField_rec hz₆ (by simp) fun h₇ hz₇ hs₇=>?_);replace hz₇:IsZip h₇ z TI TO (rawInt h₅.objs.size):=hz₇;refine wpAny_setField_rec hz₇ (by simp) fun h₈ hz₈ hs₈=>?_
 replace hz₈:IsZip h₈ z TI TO (rawInt h₅.objs.size):=hz₈;have up:∀c o,c≠z->h₅.get? c=some o->h₈.get? c=some o:=fun c o c1 e=>hs₈.extBut _ _ c1 (hs₇.extBut _ _ c1 (Heap.get?_push_of_some _ e))
 have hT₈:IsPair h₈ h₅.objs.size x y:=hs₈.extBut _ _ (Nat.ne_of_gt hzlt) (hs₇.extBut _ _ (Nat.ne_of_gt hzlt) (Heap.get?_push_size _ rfl))
 have hz8:h₈.objs.size=h₅.objs.size+1:=by rw [hs₈.1,hs₇.1,Heap.size_push]
 rw [hsz] at hz₈ hT₈ hz8;refine wpAny_pure ⟨_,rfl,?_⟩;show Q (.ref h₅.objs.size) _;rw [hsz];exact hQ x y h₈ tk₄ px py hz₈ (up _ _ D.TOz hTO₅) (D1.frame _ _ _ h1₅ fun c hc o e=>up _ o (nin D.z1 hc) e) (D2.frame _ _ _ h2₅ fun c hc o e=>up _ o (nin D.z2 hc) e) hT₈ hz8 fun c o c1 c2 c3 c4 e=>up c o c1 (hk₅ c o c1 c2 c3 c4 e)
theorem zfQ{z TI TO i1 i2:Addr}{f1 f2:List Addr}{n1 n2:Nat}{P1 P2:Nat->Value->Prop}{S1 S2:Nat->Heap->Prop}{k1 k2:Nat}{a b:Value}{Q:Fin->Shared->Prop}(D:ZipD z TI TO i1 i2 f1 f2)
  (D1:Draws prog w A i1 f1 n1 P1 S1) (D2:Draws prog w A i2 f2 n2 P2 S2)
  (hz:IsZip s.heap z TI TO .none) (hTI:IsPair s.heap TI (.ref i1) (.ref i2)) (hTO:IsPair s.heap TO a b)
  (h1:S1 k1 s.heap) (h2:S2 k2 s.heap) (hend:k1=n1\/(k1<n1/\k2=n2))
  (hE:∀h' e tk,(∀c o,c≠z->c≠TO->c≠i1->c≠i2->s.heap.get? c=some o->h'.get? c=some o)->(∃o,h'.get? e=some o/\o.cls=.type "StopIteration")->E (.ref e) { s with heap:=h',toks:=tk }) :
  wpAny (model prog w) A (Builtin.«zip.__next__» ⟨[.ref z],[]⟩) Q E s:=by
 show wpAny _ _ (field (.ref z) 2 >>= _) _ _ _;refine wpAny_bind (wpAny_field hz rfl (x:=.bool false) rfl ?_);show wpAny _ _ (field (.ref z) 3 >>= _) _ _ _;refine wpAny_bind (wpAny_field hz rfl (x:=.ref TI) rfl ?_);refine wpAny_bind (wpAny_seqItems hTI rfl ?_);show wpAny _ _ (Builtin.SmallTypes.ownedTupleIsFree (.ref z) >>= _) _ _ _;refine wpAny_bind ?_;unfold Builtin.SmallTypes.ownedTupleIsFree;refine wpAny_bind (wpAny_field hz rfl (x:=.none) rfl (wpAny_pure ?_));simp only [if_true];refine wpAny_bind (wpAny_rule ?_);refine wpAny_bind (wpAny_field hz rfl (x:=.ref TO) rfl ?_);refine wpAny_bind (wpAny_setField_rec hz (by simp) fun h₁ hz₁ hs₁=>?_);replace hz₁:IsZip h₁ z TI TO .ellipsis:=hz₁;refine wpAny_bind ?_;simp only [List.zipIdx_cons,List.zipIdx_nil,List.forIn_cons,List.forIn_nil];refine wpAny_bind (wpAny_bind (wpAny_onRaise ?_));show wpAny _ _ (Builtin.SmallTypes.nextOf (.ref i1) >>= _) _ _ _;have h1₁:S1 k1 h₁:=D1.frame _ _ _ h1 fun c hc o e=>hs₁.extBut _ _ (nin D.z1 hc) e
 rcases hend with rfl | ⟨hx,rfl⟩
 ·refine wpAny_bind (D1.done _ _ _ h1₁ fun h₂ e hs₂ he=>?_);obtain ⟨oe,hoe,hce⟩:=he;have hz₂:IsZip h₂ z TI TO .ellipsis:=hs₂ _ _ D.i1z.symm hz₁
  have hez:e≠z:=fun x=>by subst x;rw [hz₂] at hoe;cases hoe;simp at hce
  refine wpAny_setField_rec hz₂ (by simp) fun h₃ _ hs₃=>hE h₃ e _ (fun c o c1 _ c3 _ x=>hs₃.extBut _ _ c1 (hs₂ _ _ c3 (hs₁.extBut _ _ c1 x))) ⟨oe,hs₃.extBut _ _ hez hoe,hce⟩
 ·refine wpAny_bind (D1.item k1 _ _ _ hx h1₁ fun x h₂ tk₂ px h1₂ hs₂=>wpAny_pure ?_);have hTO₂:IsPair h₂ TO a b:=hs₂.extBut _ _ D.TOi1 (hs₁.extBut _ _ D.TOz hTO);refine wpAny_bind (wpAny_seqItems hTO₂ rfl ?_);refine wpAny_bind (wpAny_updateSeq_pair hTO₂ fun h₃ hTO₃ hs₃=>?_);refine wpAny_bind (wpAny_letGo (wpAny_pure ?_));refine wpAny_bind (wpAny_bind (wpAny_onRaise ?_));show wpAny _ _ (Builtin.SmallTypes.nextOf (.ref i2) >>= _) _ _ _;refine wpAny_bind (D2.done _ _ _ (D2.frame _ _ _ h2 fun c hc o e=>hs₃.extBut _ _ (nin D.O2 hc) (hs₂.extBut _ _ (nin D.i1f hc) (hs₁.extBut _ _ (nin D.z2 hc) e))) fun h₄ e hs₄ he=>?_);obtain ⟨oe,hoe,hce⟩:=he;have hz₄:IsZip h₄ z TI TO .ellipsis:=hs₄ _ _ D.i2z.symm (hs₃.extBut _ _ D.TOz.symm (hs₂.extBut _ _ D.i1z.symm hz₁))
  have hez:e≠z:=fun x=>by subst x;rw [hz₄] at hoe;cases hoe;simp at hce
  refine wpAny_setField_rec hz₄ (by simp) fun h₅ _ hs₅=>hE h₅ e _ (fun c o c1 c2 c3 c4 x=>hs₅.extBut _ _ c1 (hs₄ _ _ c4 (hs₃.extBut _ _ c2 (hs₂.extBut _ _ c3 (hs₁.extBut _ _ c1 x))))) ⟨oe,hs₅.extBut _ _ hez hoe,hce⟩
abbrev zG1(b1:Bool)(h:Heap)(l1:Addr):Heap:=h.push { cls:=.type (itN b1),data:=.fields #[.ref l1,.int 0 0] }
abbrev zG2(b1 b2:Bool)(h:Heap)(l1 l2:Addr):Heap:=(zG1 b1 h l1).push { cls:=.type (itN b2),data:=.fields #[.ref l2,.int 0 0] }
abbrev zG3(b1 b2:Bool)(h:Heap)(l1 l2:Addr):Heap:=(zG2 b1 b2 h l1 l2).push { cls:=.type "tuple",data:=.seq #[.ref h.objs.size,.ref (zG1 b1 h l1).objs.size] }
abbrev zG4(b1 b2:Bool)(h:Heap)(l1 l2:Addr):Heap:=(zG3 b1 b2 h l1 l2).push { cls:=.type "tuple",data:=.seq #[.none,.none] }
abbrev zG5(b1 b2:Bool)(h:Heap)(l1 l2:Addr):Heap:=(zG4 b1 b2 h l1 l2).push { cls:=.type "zip",data:=.fields #[.none,.bool false,.bool false,.ref (zG2 b1 b2 h l1 l2).objs.size,.ref (zG3 b1 b2 h l1 l2).objs.size] }
theorem zfm(b1 b2:Bool)(l1 l2:Addr)(xs ys:Array Value) :
  Meets (Builtin.«zip.__new__» ⟨[.type "zip",.ref l1,.ref l2],[]⟩) (fun _ R s=>zjC b1 s.heap l1 xs/\zjC b2 s.heap l2 ys ∧
   R (.ok (.ret (.ref (zG4 b1 b2 s.heap l1 l2).objs.size))) { s with heap:=zG5 b1 b2 s.heap l1 l2 }) :=
 .of_wp fun prog w A R s h=>by
  obtain ⟨hp,g,d,tk,os⟩:=s;obtain ⟨hl1,hl2,h⟩:=h;have hsub:=sub_zip;have hL1:zjC b1 (Shared.heap ⟨hp,g,d,tk,os⟩) l1 xs:=hl1;have hL2:zjC b2 (Shared.heap ⟨hp.push { cls:=.type (itN b1),data:=.fields #[.ref l1,.int 0 0] },g,d,tk,os⟩) l2 ys:=hl2.keep fun o e=>Heap.get?_push_of_some _ e
  wp_walk using zgK hL1,zgK hL2
  exact ⟨_,rfl,h⟩
theorem znd{b:Bool}{h:Heap}{it a:Addr}(g:h.get? it=some { cls:=.type (itN b),data:=.fields #[.ref a,.int 0 0] }):zlz b h it a 0:=by
 cases b with
 | true=>exact ⟨_,g,rfl,rfl⟩
 | false=>exact ⟨_,g,rfl,rfl⟩
theorem zli{b1 b2:Bool}{l1 l2:Addr}{xs ys:Array Value}{Q:Z5}(hl1:zjC b1 s.heap l1 xs)(hl2:zjC b2 s.heap l2 ys)
  (h:∀h',IsZip h' (s.heap.objs.size+4) (s.heap.objs.size+2) (s.heap.objs.size+3) .none->IsPair h' (s.heap.objs.size+2) (.ref s.heap.objs.size) (.ref (s.heap.objs.size+1)) →
   IsPair h' (s.heap.objs.size+3) .none .none->zlz b1 h' s.heap.objs.size l1 0->zlz b2 h' (s.heap.objs.size+1) l2 0->h'.objs.size=s.heap.objs.size+5 →
   (∀c o,s.heap.get? c=some o->h'.get? c=some o)->Q (.ref (s.heap.objs.size+4)) { s with heap:=h' }) :
  wpAny (model prog w) A (call (.type "zip") [.ref l1,.ref l2]) Q E s:=by
 refine callType_new F.called_zip (by decide) (F.typeCall_zip_2 _ _) (F.newCall_zip_2 _ _) (fun obj=>F.args_object_init_3 obj _ _) F.entry_zip_new
  (zfm b1 b2 l1 l2 xs ys) ⟨hl1,hl2,?_⟩
 have z1:(zG1 b1 s.heap l1).objs.size=s.heap.objs.size+1:=Heap.size_push ..
 have z2:(zG2 b1 b2 s.heap l1 l2).objs.size=s.heap.objs.size+2:=by rw [Heap.size_push,z1]
 have z3:(zG3 b1 b2 s.heap l1 l2).objs.size=s.heap.objs.size+3:=by rw [Heap.size_push,z2]
 have z4:(zG4 b1 b2 s.heap l1 l2).objs.size=s.heap.objs.size+4:=by rw [Heap.size_push,z3]
 have z5:(zG5 b1 b2 s.heap l1 l2).objs.size=s.heap.objs.size+5:=by rw [Heap.size_push,z4]
 have g5:(zG5 b1 b2 s.heap l1 l2).get? (zG4 b1 b2 s.heap l1 l2).objs.size=some _:=Heap.get?_push_size _ rfl;have g4:(zG5 b1 b2 s.heap l1 l2).get? (zG3 b1 b2 s.heap l1 l2).objs.size=some _:=Heap.get?_push_of_some _ (Heap.get?_push_size _ rfl);have g3:(zG5 b1 b2 s.heap l1 l2).get? (zG2 b1 b2 s.heap l1 l2).objs.size=some _:=Heap.get?_push_of_some _ (Heap.get?_push_of_some _ (Heap.get?_push_size _ rfl));have g2:(zG5 b1 b2 s.heap l1 l2).get? (zG1 b1 s.heap l1).objs.size=some { cls:=.type (itN b2),data:=.fields #[.ref l2,.int 0 0] }:=Heap.get?_push_of_some _ (Heap.get?_push_of_some _ (Heap.get?_push_of_some _ (Heap.get?_push_size _ rfl)));have g1:(zG5 b1 b2 s.heap l1 l2).get? s.heap.objs.size=some { cls:=.type (itN b1),data:=.fields #[.ref l1,.int 0 0] }:=Heap.get?_push_of_some _ (Heap.get?_push_of_some _ (Heap.get?_push_of_some _ (Heap.get?_push_of_some _ (Heap.get?_push_size _ rfl))));show _/\_;rw [z2,z3,z4] at g5;rw [z1,z2] at g3;rw [z3] at g4;rw [z1] at g2;rw [z4]
 exact ⟨⟨_,g5,rfl⟩,h _ g5 g3 g4 (znd g1) (znd g2) z5 fun c o x =>
  Heap.get?_push_of_some _ (Heap.get?_push_of_some _ (Heap.get?_push_of_some _ (Heap.get?_push_of_some _ (Heap.get?_push_of_some _ x))))⟩
end
end L2
namespace L2
open PySem PySem.Spec PyProof.Rows
section
variable{X:Cx}{pins:Z3}{σ:St}{H:Hp}{s:Shared}
def SqB(b:Bool)(H:Hp)(a:Addr)(xs:List V):Prop:=match b with | true=>H a=some (.lst xs) | false=>H a=some (.tup xs)
theorem Inv.sq{b:Bool}{a:Addr}{xs:List V}(I:Inv X pins σ H s)(h:SqB b H a xs):∃its:List Value,Vals xs its/\zjC b s.heap a its.toArray:=by
 cases b with
 | true=>obtain ⟨its,rv,p,_⟩:=I.list (SqL.of h);exact ⟨its,rv,p.isList⟩
 | false=>obtain ⟨its,rv,p,_⟩:=I.tuple (SqT.of h);exact ⟨its,rv,p⟩
theorem Inv.sq_inj{b:Bool}{a:Addr}{xs ys:List V}(I:Inv X pins σ H s)(h:SqB b H a xs)(h':SqB b H a ys):xs=ys:=by
 cases b with
 | true=>exact I.list_inj (SqL.of h) (SqL.of h')
 | false=>exact I.tuple_inj (SqT.of h) (SqT.of h')
def ItZ(b1 b2:Bool)(l1 l2:Addr):It :=
 ⟨fun i H=>∃xs ys x y,SqB b1 H l1 xs/\SqB b2 H l2 ys/\xs[i]?=some x/\ys[i]?=some y,
  fun i H v H'=>∃t x y,v=.ref t/\H t=none/\H'=upd H t (.tup [x,y])/\(∀xs,SqB b1 H l1 xs->xs[i]?=some x)/\∀ys,SqB b2 H l2 ys->ys[i]?=some y,
  fun i H=>∃xs ys,SqB b1 H l1 xs/\SqB b2 H l2 ys/\(i=xs.length\/(i<xs.length/\i=ys.length))⟩
theorem znw{z TI TO i1 i2 T:Addr}{h1 h2:Heap}{tk:Nat}{u1 u2:Value}{y1 y2:V}(I:Inv X pins σ H s)(hf:∀b∈[z,TI,TO,i1,i2],zlE X pins H b)(hT:T=s.heap.objs.size)(te:h1.get? T=some { cls:=.type "tuple",data:=.seq #[u1,u2] })
  (k:∀b o,b≠z->b≠TO->b≠i1->b≠i2->s.heap.get? b=some o->h1.get? b=some o) (sb:Heap.SameBut z h1 h2) (ne:T≠z) (r1:zbt y1 u1) (r2:zbt y2 u2):Inv X pins σ (upd H T (.tup [y1,y2])) { s with heap:=h2,toks:=tk }/\H T=none:=by
 have fr:H T=none:=by rw [hT];exact I.hok.fresh (Nat.le_refl _)
 refine ⟨?_,fr⟩
 have I1:Inv X pins σ H { s with heap:=h2,toks:=tk }:=I.turnedL (ch:=[z,TI,TO,i1,i2]) (fun b o hb q=>by
  simp only [List.mem_cons,List.not_mem_nil,or_false,not_or] at hb
  exact (sb.2 b hb.1).trans (k b o hb.1 hb.2.2.1 hb.2.2.2.1 hb.2.2.2.2 q)) hf
 refine I1.track fr (by rw [hT];exact I.sz) (by rw [hT];exact Nat.ne_of_gt I.lt) (fun z c q=>?_) (fun p hp=>?_) ?_
 ·obtain ⟨v,cq⟩:=I.cell z c q;rw [hT];exact Nat.ne_of_lt cq.lt
 ·rw [hT];exact Nat.ne_of_lt (Heap.lt_size (I.pin p hp).1)
 ·refine ⟨by show 2<=sizeLine;decide,[u1,u2],.cons r1 (.cons r2 .nil),?_⟩;exact ⟨_,(sb.2 T ne).trans te,rfl,_,rfl⟩
structure ZipI(z TI TO i1 i2:Addr):Prop where
 TIz:TI≠z
 TOz:TO≠z
 i1z:i1≠z
 i2z:i2≠z
 TITO:TI≠TO
 TIi1:TI≠i1
 TIi2:TI≠i2
 TOi1:TO≠i1
 TOi2:TO≠i2
 i12:i1≠i2
theorem SqB.ne{b:Bool}{a c:Addr}{xs:List V}(h:SqB b H a xs)(n:H c=none):a≠c:=by
 rintro rfl
 cases b with
 | true=>rw [show H a=_ from h] at n;cases n
 | false=>rw [show H a=_ from h] at n;cases n
theorem zlH{P:Program}{w:World}{K:PySem.W.Frag}{elts:List Expr}{x1:Nat}{pos:Pos}(b1 b2:Bool)(l1 l2 z TI TO i1 i2:Addr)(D:ZipI z TI TO i1 i2):Turn P w K (.Tuple elts x1 pos) (ItZ b1 b2 l1 l2) [z,TI,TO,i1,i2] z (fun i h=>IsZip h z TI TO .none/\IsPair h TI (.ref i1) (.ref i2)/\(∃a b,IsPair h TO a b)/\zlz b1 h i1 l1 i/\zlz b2 h i2 l2 i) where
 mem:=by simp
 obj:=fun i h st b hb=>by
  obtain ⟨hz,hI,⟨a,c,hO⟩,h1,h2⟩:=st;simp only [List.mem_cons,List.not_mem_nil,or_false] at hb
  rcases hb with rfl | rfl | rfl | rfl | rfl
  ·exact ⟨_,hz,fun v e=>by cases e⟩
  ·exact ⟨_,hI,fun v e=>by cases e⟩
  ·exact ⟨_,hO,fun v e=>by cases e⟩
  ·exact h1.live
  ·exact h2.live
 keep:=fun i h h' st k=>by
  obtain ⟨hz,hI,⟨a,c,hO⟩,h1,h2⟩:=st;exact ⟨k _ (by simp) _ hz,k _ (by simp) _ hI,⟨a,c,k _ (by simp) _ hO⟩,h1.keep fun o e=>k _ (by simp) o e,h2.keep fun o e=>k _ (by simp) o e⟩
 item:=by
  intro X hP hw hK hc i pins s σ H E I hf st hg;subst hP hw hK;obtain ⟨xs,ys,x,y,q1,q2,e1,e2⟩:=hg;obtain ⟨hz,hI,⟨a,c,hO⟩,h1,h2⟩:=st;obtain ⟨its,rv1,p1⟩:=I.sq q1;obtain ⟨jts,rv2,p2⟩:=I.sq q2;obtain ⟨u1,hu1,ru1⟩:=rv1.get e1;obtain ⟨u2,hu2,ru2⟩:=rv2.get e2
  have hlt1:i<its.toArray.size:=by simpa using (List.getElem?_eq_some_iff.mp hu1).1
  have hlt2:i<jts.toArray.size:=by simpa using (List.getElem?_eq_some_iff.mp hu2).1
  have n1:∀b∈[z,TI,TO,i1,i2],l1≠b:=fun b hb=>q1.ne (hf b hb).1
  have n2:∀b∈[z,TI,TO,i1,i2],l2≠b:=fun b hb=>q2.ne (hf b hb).1
  have D':ZipD z TI TO i1 i2 [i1,l1] [i2,l2]:=⟨D.TIz,D.TOz,D.i1z,D.i2z,D.TITO,D.TIi1,D.TIi2,D.TOi1,D.TOi2,D.i12,
   by simp [D.i1z.symm,(n1 z (by simp)).symm],by simp [D.i2z.symm,(n2 z (by simp)).symm],by simp [D.TOi1,(n1 TO (by simp)).symm],by simp [D.TOi2,(n2 TO (by simp)).symm],
   by simp [D.i12,(n2 i1 (by simp)).symm],by simp [D.i12.symm,(n1 i2 (by simp)).symm]⟩
  have hT:s.TypeIs (.ref z) "zip":=⟨_,hz,rfl⟩;unfold pyNext
  refine wpAny_bind (wpAny_attempt (wpAny_callSpecial?_slot (name:=Str.ofString "__next__") hT F.slot_zip_next (wpAny_call_entry F.slot_zip_next hT F.entry_zip_next
   (zfl D' (zeB (A:=X.A.in1) (I.ok.hd hc) b1 i1 l1 (n1 i1 (by simp)) its.toArray) (zeB (A:=X.A.in1) (I.ok.hd hc) b2 i2 l2 (n2 i2 (by simp)) jts.toArray) hz hI hO ⟨h1,p1⟩ ⟨h2,p2⟩ hlt1 hlt2 fun v1 v2 h' tk pv1 pv2 a1 a2 a3 a4 a5 a6 a7=>wpAny_pure ?_) (F.args_zip_next_1 _))))
  have ev1:v1=u1:=by
   have:its[i]?=some v1:=by simpa using pv1
   rw [hu1] at this;exact (Option.some.inj this).symm
  have ev2:v2=u2:=by
   have:jts[i]?=some v2:=by simpa using pv2
   rw [hu2] at this;exact (Option.some.inj this).symm
  subst ev1 ev2;have neT:s.heap.objs.size≠z:=Nat.ne_of_gt (Heap.lt_size hz);refine ⟨_,rfl,wpAny_letOwnedTupleGo_zip a1 fun h2' hz2 sb=>?_⟩;obtain ⟨I2,fr⟩:=znw (tk:=tk) (h2:=h2') I hf rfl a5 a7 sb neT ru1 ru2;refine ⟨.ref s.heap.objs.size,_,I2,rfl,⟨_,x,y,rfl,fr,rfl,fun xs' hx'=>by rw [I.sq_inj hx' q1];exact e1,fun ys' hy'=>by rw [I.sq_inj hy' q2];exact e2⟩,⟨hz2,(sb.2 _ D.TIz).trans (a7 _ _ D.TIz D.TITO D.TIi1 D.TIi2 hI),⟨_,_,(sb.2 _ D.TOz).trans a2⟩,a3.1.keep fun o e=>(sb.2 _ D.i1z).trans e,a4.1.keep fun o e=>(sb.2 _ D.i2z).trans e⟩,fun b hb=>?_⟩;rw [zau]
  ·exact (hf b hb).1
  ·rintro rfl
   have hlive:∃o,s.heap.get? s.heap.objs.size=some o:=by
    simp only [List.mem_cons,List.not_mem_nil,or_false] at hb
    rcases hb with e | e | e | e | e
    ·exact absurd e neT
    ·rw [e];exact ⟨_,hI⟩
    ·rw [e];exact ⟨_,hO⟩
    ·rw [e];obtain ⟨o,q,_⟩:=h1.live;exact ⟨o,q⟩
    ·rw [e];obtain ⟨o,q,_⟩:=h2.live;exact ⟨o,q⟩
   obtain ⟨o,q⟩:=hlive;exact absurd (Heap.lt_size q) (Nat.lt_irrefl _)
 done:=by
  intro X hP hw hK hc i pins s σ H E I hf st hg;subst hP hw hK;obtain ⟨xs,ys,q1,q2,he⟩:=hg;obtain ⟨hz,hI,⟨a,c,hO⟩,h1,h2⟩:=st;obtain ⟨its,rv1,p1⟩:=I.sq q1;obtain ⟨jts,rv2,p2⟩:=I.sq q2;have hl1:=rv1.length;have hl2:=rv2.length;have n1:∀b∈[z,TI,TO,i1,i2],l1≠b:=fun b hb=>q1.ne (hf b hb).1
  have n2:∀b∈[z,TI,TO,i1,i2],l2≠b:=fun b hb=>q2.ne (hf b hb).1
  have D':ZipD z TI TO i1 i2 [i1,l1] [i2,l2]:=⟨D.TIz,D.TOz,D.i1z,D.i2z,D.TITO,D.TIi1,D.TIi2,D.TOi1,D.TOi2,D.i12,
   by simp [D.i1z.symm,(n1 z (by simp)).symm],by simp [D.i2z.symm,(n2 z (by simp)).symm],by simp [D.TOi1,(n1 TO (by simp)).symm],by simp [D.TOi2,(n2 TO (by simp)).symm],
   by simp [D.i12,(n2 i1 (by simp)).symm],by simp [D.i12.symm,(n1 i2 (by simp)).symm]⟩
  have hT:s.TypeIs (.ref z) "zip":=⟨_,hz,rfl⟩;unfold pyNext
  refine wpAny_bind (wpAny_attempt (wpAny_callSpecial?_slot (name:=Str.ofString "__next__") hT F.slot_zip_next (wpAny_call_entry F.slot_zip_next hT F.entry_zip_next
   (zfQ D' (zeB (A:=X.A.in1) (I.ok.hd hc) b1 i1 l1 (n1 i1 (by simp)) its.toArray) (zeB (A:=X.A.in1) (I.ok.hd hc) b2 i2 l2 (n2 i2 (by simp)) jts.toArray) hz hI hO ⟨h1,p1⟩ ⟨h2,p2⟩ (by simp;omega) fun h' e tk hk he'=>?_) (F.args_zip_next_1 _))))
  obtain ⟨o,ho,hcl⟩:=he';refine wpAny_bind (wpAny_isInstance (T:="StopIteration") (b:=true) ⟨o,ho,hcl⟩ isSubtype_stop ?_);refine wpAny_pure ⟨rfl,I.turnedL (ch:=[z,TI,TO,i1,i2]) (fun b o hb q=>?_) hf⟩;simp only [List.mem_cons,List.not_mem_nil,or_false,not_or] at hb;exact hk b o hb.1 hb.2.2.1 hb.2.2.2.1 hb.2.2.2.2 q
 self:=fun _ _ _ _ _ st h=>wpAny_pyIter_zip st.1 h
theorem zmK:bootBuiltins "zip" = some (.type "zip"):=by decide +kernel
theorem zpr{b1 b2:Bool}{elts:List Expr}{x1:Nat}{tp:Pos}{s1:Shared}{H1:Hp}{l1 l2:Addr}{xs ys:List V}{R:It->Hp->Prop}(I1:Inv X pins σ H1 s1)(q1:SqB b1 H1 l1 xs)(q2:SqB b2 H1 l2 ys)(q:R (ItZ b1 b2 l1 l2) H1) :
  wpAny (model X.prog X.w) X.A (call (.type "zip") [.ref l1,.ref l2]) (fun v s2=>wpAny (model X.prog X.w) X.A (pyIter v) (PIE X pins σ (.Tuple elts x1 tp) R) X.xe s2) X.xe s1:=by
 obtain ⟨its,rv1,p1⟩:=I1.sq q1;obtain ⟨jts,rv2,p2⟩:=I1.sq q2;refine zli p1 p2 fun h' hz hI hO hi1 hi2 hsz hk=>wpAny_pyIter_zip hz ?_
 refine ⟨s1.heap.objs.size+4,[s1.heap.objs.size+4,s1.heap.objs.size+2,s1.heap.objs.size+3,s1.heap.objs.size,s1.heap.objs.size+1],_,_,H1,rfl,I1.kept (t':=s1.toks) hk,zlH b1 b2 l1 l2 _ _ _ _ _ ⟨?_,?_,?_,?_,?_,?_,?_,?_,?_,?_⟩,⟨hz,hI,⟨_,_,hO⟩,hi1,hi2⟩,fun c hb=>?_,q⟩
 all_goals try (first | omega | exact Nat.ne_of_lt (by omega) | exact Nat.ne_of_gt (by omega))
 simp only [List.mem_cons,List.not_mem_nil,or_false] at hb
 have hc:s1.heap.objs.size<=c:=by rcases hb with rfl | rfl | rfl | rfl | rfl<;>omega
 exact I1.fpOk hc (I1.hok.fresh hc)
end
end L2
namespace PySem.F
end PySem.F
namespace L2
open PySem PySem.Spec PyProof.Rows
section
variable{prog:Program}{w:World}{A:Around}{E:Z5}{s:Shared}
end
section
variable{X:Cx}{pins:Z3}{σ:St}{H:Hp}{s:Shared}
end
end L2
namespace S2
open PySem PySem.Spec PyProof.Rows L2
section
variable{X:Cx}{cl:Cf}{E:St->XK}{e tg:Expr}{f:Fe}{own:Bool}{pos pos':Pos}
def zr2:List D->Option D | [.int i,.int j]=>some (.int (if j<i then j else i)) | _=>none
theorem zrD(hc:X.calm=true):zhm X cl (.builtin "min") zr2:=by
 intro pins s σ H xs us Q I r h;obtain ⟨w,ds,d,rfl,hx,hg,q⟩:=h;unfold zr2 at hg;split at hg
 ·rename_i i j;cases hg
  cases hx with
  | cons h1 h2=>cases h2 with
   | cons h2 h3 =>
    cases h3;obtain rfl:=h1.intI;obtain rfl:=h2.intI;exact zlk hc pins s σ w.H _ us Q I r ⟨i,j,rfl,q _ w (Grow.refl _) (.int _)⟩
 ·cases hg
def zfo:List D->List D->List D
 | x::xs,y::ys=>.tup [x,y]::zfo xs ys
 | _,_=>[]
theorem zet:∀(xs ys:List D),(zfo xs ys).length=min xs.length ys.length
 | [],_=>by simp [zfo]
 | _::_,[]=>by simp [zfo]
 | _::xs,_::ys=>by simp [zfo,zet xs ys]
theorem zfR:∀{xs ys:List D} {i:Nat} {d:D},(zfo xs ys)[i]?=some d->∃x y,xs[i]?=some x/\ys[i]?=some y/\d=.tup [x,y]
 | [],_,_,_,h=>by simp [zfo] at h
 | _::_,[],_,_,h=>by simp [zfo] at h
 | x::xs,y::ys,0,d,h=>by
  simp only [zfo,List.getElem?_cons_zero,Option.some.injEq] at h;exact ⟨x,y,rfl,rfl,h.symm⟩
 | x::xs,y::ys,i+1,d,h=>by
  simp only [zfo,List.getElem?_cons_succ] at h ⊢;exact zfR h
def zp3:D->Option (List D) | .lst l=>some l | .tup l=>some l | _=>none
def zpn(f g:Fe):Fi:=fun ρ S=>(zaq [f,g] ρ S).bind fun ds S1=>match ds with | [x,y]=>(match zp3 x,zp3 y with | some l,some k=>.ok (zfo l k) S1 | _,_=>.bad) | _=>.bad
theorem zrk{b1 b2:Bool}{w:Wd}{l1 l2:Addr}{xs ys:List V}{ds es:List D}(h1:∀w',Fut w w'->SqB b1 w'.H l1 xs)(h2:∀w',Fut w w'->SqB b2 w'.H l2 ys)(r1:Shds cl w xs ds)(r2:Shds cl w ys es):ItOk cl w (ItZ b1 b2 l1 l2) (zfo ds es):=by
 have e1:=r1.length;have e2:=r2.length;have el:=zet ds es;refine ⟨fun w1 F1 i hi=>⟨xs,ys,xs[i]'(by omega),ys[i]'(by omega),h1 w1 F1,h2 w1 F1,List.getElem?_eq_getElem (by omega),List.getElem?_eq_getElem (by omega)⟩,fun w1 F1=>⟨xs,ys,h1 w1 F1,h2 w1 F1,by omega⟩,fun w1 F1 i d x H1 hd y=>?_⟩;obtain ⟨t,v1,v2,rfl,ht,rfl,hx,hy⟩:=y;obtain ⟨z1,z2,hz1,hz2,rfl⟩:=zfR hd;obtain ⟨d1,q1,s1⟩:=r1.get (hx xs (h1 w1 F1));obtain ⟨d2,q2,s2⟩:=r2.get (hy ys (h2 w1 F1));rw [hz1] at q1;cases q1;rw [hz2] at q2;cases q2;exact ⟨w1.add t _,rfl,zaL ht _,Shd.newT ht (.cons (s1.up F1) (.cons (s2.up F1) .nil))⟩
theorem zie{w:Wd}{v:V}{d:D}{l:List D}(h:Shd cl w v d)(e:zp3 d=some l):∃(b:Bool) (a:Addr) (xs:List V),v=.ref a/\(∀w',Fut w w'->SqB b w'.H a xs)/\Shds cl w xs l:=by
 cases h with
 | lst ep k r=>cases e;exact ⟨true,_,_,rfl,fun w1 F1=>(F1.keep _ _ ep k).1,r⟩
 | tup ep k r=>cases e;exact ⟨false,_,_,rfl,fun w1 F1=>(F1.keep _ _ ep k).1,r⟩
 | _=>cases e
theorem zpX{a:Expr}{fa:Fe}{es:List Expr}{kk:Nat}{tp p:Pos}(hg:Gl X "zip")(hm:X.mg "zip" = none)(ha:PA X [a,e] (tAs cl E [fa,f]))(hs:starEach [a,e] X.env=(false,eval a X.env)::starEach [e] X.env)(hs2:(backTo pos (starEach [e] X.env)).any (·.1)=false):PI X (.Tuple es kk tp) (.Call (.Name "zip" p) [a,e] [] pos) (tI cl E (zpn fa f)):=by
 have ha':PA X [a,e] (fun σ H R=>tAs cl E [fa,f] σ H R):=ha;intro pins s σ H R' I q;refine Call_ (ze0 I hg hm L2.zmK (PyProof.Rows.callWith_type1 (thn (ha pos pins s σ H (fun vs H1=>∃b1 b2,∃l1 l2,vs=[.ref l1,.ref l2]/\(∃xs,SqB b1 H1 l1 xs)/\(∃ys,SqB b2 H1 l2 ys)/\R' (ItZ b1 b2 l1 l2) H1) I ?_) fun us s1 ⟨vs,H1,I1,r1,q1⟩=>?_) hs hs2))
 ·obtain ⟨B,w,ρ,S,rfl,R,q⟩:=q;refine ⟨B,w,ρ,S,rfl,R,?_⟩;unfold zpn at q
  cases hf:zaq [fa,f] ρ S with
  | bad=>rw [hf] at q;exact q.elim
  | exc c S1=>rw [hf] at q;exact q
  | ok ds S1 =>
   rw [hf] at q;dsimp only [Out.bind] at q;intro vs w' R2 F2 sh;split at q
   ·rename_i l' S' hm';split at hm'
    ·rename_i x y;split at hm'
     ·rename_i l k hl hk;cases hm'
      cases sh with
      | cons h1 h2 =>
       cases h2 with
       | cons h2 h3 =>
        cases h3;obtain ⟨b1,a1,xs,rfl,p1,r1⟩:=zie h1 hl;obtain ⟨b2,a2,ys,rfl,p2,r2⟩:=zie h2 hk;exact ⟨b1,b2,a1,a2,rfl,⟨xs,p1 _ (Fut.refl _)⟩,⟨ys,p2 _ (Fut.refl _)⟩,q _ w' R2 F2 (zrk p1 p2 r1 r2)⟩
     ·cases hm'
    ·cases hm'
   ·rename_i hm';split at hm'
    ·split at hm'<;>cases hm'
    ·cases hm'
   ·exact q.elim
 ·obtain ⟨b1,b2,l1,l2,e,⟨xs,q1⟩,⟨ys,q2⟩,q⟩:=q1;subst e
  cases r1 with
  | cons r rr =>
   cases rr with
   | cons r' rr =>
    cases rr;cases r;cases r';exact zpr I1 q1 q2 q
end
end S2
namespace S2
open PySem PySem.Spec PyProof.Rows L2
section
variable{X:Cx}{cl:Cf}{E:St->XK}{e:Expr}{f:Fe}{pos':Pos}
def znp(l:List D)(d:D):Option D:=if d.fit 8&&D.fits 8 l then some (.int ((l.countP (zjA · d):Nat):Int)) else none
def znh(l:List D)(d:D):Option D:=if d.fit 8&&D.fits 8 l&&decide (l.length<=1000000)&&zoA d l then some (.int ((l.findIdx (zjA · d):Nat):Int)) else none
end
end S2
namespace S2
open PySem PySem.Spec PyProof.Rows L2
def zxn(g:Str->Str->Option Bool)(C:Str):D->Option D
 | .exc c=>(g c C).map .bl
 | _=>none
def zvW(cl:Cf)(C:Str):Value:=if C = "ValueError" then .type "ValueError" else .ref (cl C)
section
variable{X:Cx}{cl:Cf}{E:St->XK}{own:Bool}{e:Expr}{f fe:Fe}{pos pos':Pos}
theorem zpp:bootBuiltins "ValueError" = some (.type "ValueError"):=by decide +kernel
def OpN(X:Cx)(cl:Cf)(op:Value->Value->Sem Value)(g:D->D->Option D):Prop:=OpR X op fun x y H Q=>∃w d e r,w.H=H/\TopV cl w x d/\TopV cl w y e/\g d e=some r/\∀p o w',Grow w w'->w'.H p=none->Top cl w' o r->Q (.ref p) (upd w'.H p o)
theorem zww{a b:Expr}{h:Fe}{gg:D->D->Option D}{r2:R2}(hr:∀x y H Q,(∃w d e r,w.H=H/\TopV cl w x d/\TopV cl w y e/\gg d e=some r/\∀p o w',Grow w w'->w'.H p=none->Top cl w' o r->Q (.ref p) (upd w'.H p o))->r2 x y H Q)(σ:St)(H:Hp)(Q:VK)(q:tN cl E (zal gg f h) σ H Q):tOp r2 (tH cl E f) (tH cl E h) σ H Q:=by
 obtain ⟨B,w,ρ,S,rfl,R,q⟩:=q;refine ⟨B,w,ρ,S,rfl,R,?_⟩;unfold zal at q
 cases hf:f ρ S with
 | bad=>rw [hf] at q;exact q
 | exc c S1=>rw [hf] at q;exact q
 | ok d S1 =>
  rw [hf] at q;intro v w1 R1 F1 h1;refine ⟨B,w1,ρ,S1,rfl,R1,?_⟩;dsimp only [Out.bind] at q
  cases hh:h ρ S1 with
  | bad=>rw [hh] at q;exact q
  | exc c S2=>rw [hh] at q;exact fun w2 R2 F2=>q w2 R2 (F1.trans F2)
  | ok e S2 =>
   rw [hh] at q;intro y w2 R2 F2 h2;dsimp only at q
   cases hg:gg d e with
   | none=>rw [hg] at q;exact q.elim
   | some r =>
    rw [hg] at q;exact hr _ _ _ _ ⟨w2,d,e,r,rfl,(h1.up F2).top R2,h2.top R2,hg,fun p o w' gr hp t=>q p o w' (R2.grow gr) (F1.trans (F2.trans gr.fut)) hp t⟩
def zjc:D->D->Option D
 | .lst a,.int j=>if decide (0<=j/\j<=1000/\a.length<=1000) then some (.lst (List.replicate j.toNat a).flatten) else none
 | _,_=>none
theorem zoq:OpN X cl (binaryOp .Mult) zjc:=by
 intro pins s σ H x y v u Q I rx ry h;obtain ⟨w,d,e,r,rfl,hx,hy,hg,q⟩:=h;unfold zjc at hg;split at hg
 ·rename_i a j;split at hg
  ·rename_i hz;cases hg;have hz':=of_decide_eq_true hz;obtain ⟨p,xs,rfl,ep,rs⟩:=hx.lstI;obtain rfl:=hy.intI;have hl:=rs.length;refine zm4 pins s σ w.H _ _ v u Q I rx ry ⟨p,j,xs,rfl,rfl,ep,by omega,by omega,?_,fun l hl=>q l _ w (Grow.refl _) hl (.lst (rs.flat _))⟩;refine Nat.le_trans (Nat.mul_le_mul (show xs.length<=1000 by omega) (show j.toNat<=1000 by omega)) (by decide)
  ·cases hg
 ·cases hg
theorem znX{a b:Expr}{h:Fe}(ha:PE X a (tH cl E f))(hb:PE X b (tH cl E h)):PE X (.BinOp a .Mult b pos) (tN cl E (zal zjc f h)) :=
 PE.imp (zqz zoq ha hb) (zww (a:=a) (b:=b) fun _ _ _ _ z=>z)
def zoL:Expr->Bool | .List _ _=>true | _=>false
def zrm:Operator->Bool | .Mult=>true | _=>false
end
end S2
namespace PySem.F
end PySem.F
namespace PySem.F
end PySem.F
namespace L2
open PySem PySem.Spec PyProof.Rows
section
variable{prog:Program}{w:World}{A:Around}{E:Z5}{s:Shared}
end
end L2
namespace L2
open PySem PySem.Spec PyProof.Rows
section
variable{X:Cx}
end
end L2
namespace PySem.F
end PySem.F
namespace L2
open PySem PySem.Spec PyProof.Rows
section
variable{prog:Program}{w:World}{A:Around}{E:Z5}{s:Shared}
end
end L2
namespace L2
open PySem PySem.Spec PyProof.Rows
section
variable{X:Cx}
end
end L2
namespace S2
open PySem PySem.Spec PyProof.Rows L2
section
variable{X:Cx}{cl:Cf}{E:St->XK}{e tg:Expr}{f:Fe}{pos pos':Pos}
end
end S2
namespace S2
open PySem PySem.Spec PyProof.Rows L2
section
variable{X:Cx}{cl:Cf}{E:St->XK}{e:Expr}{f:Fe}{pos:Pos}
end
end S2
namespace S2
open PySem PySem.Spec PyProof.Rows L2
def zam(f:Str)(o:Bool)(d:D):List (Str×Bool×D)->List (Str×Bool×D)
 | []=>[(f,o,d)]
 | (g,x)::r=>if g=f then (g,o,d)::r else (g,x)::zam f o d r
def Ob.put(ob:Ob)(f:Str)(o:Bool)(d:D):Ob:=⟨ob.cls,zam f o d ob.fs⟩
section
variable{cl:Cf}{w:Wd}{n:Nat}
theorem zdp.len{fs:List (Str×V)}{gs:List (Str×Bool×D)}(h:zdp cl w n fs gs):fs.length=gs.length:=Paired.length h
theorem zdp.look{fs:List (Str×V)}{gs:List (Str×Bool×D)}(h:zdp cl w n fs gs){f:Str}{o:Bool}{d:D}(e:gs.lookup f=some (o,d)):∃v,fs.lookup f=some v/\zh1 cl w (.fld n f) o v d:=by
 induction h with
 | nil=>cases e
 | @cons p q l1 l2 h t ih =>
  obtain ⟨h1,h2⟩:=h;obtain ⟨g,v⟩:=p;obtain ⟨g',o',d'⟩:=q;have h1':g=g':=h1;subst h1';rw [List.lookup_cons] at e ⊢
  cases hb:f == g with
  | true =>
   rw [hb] at e;cases e;have:=eq_of_beq hb;subst this;exact ⟨v,rfl,h2⟩
  | false =>
   rw [hb] at e;exact ih e
theorem zdp.miss{fs:List (Str×V)}{gs:List (Str×Bool×D)}(h:zdp cl w n fs gs){f:Str}(e:gs.lookup f=none):fs.lookup f=none:=by
 induction h with
 | nil=>rfl
 | @cons p q l1 l2 h t ih =>
  obtain ⟨h1,h2⟩:=h;obtain ⟨g,v⟩:=p;obtain ⟨g',o',d'⟩:=q;have h1':g=g':=h1;subst h1';rw [List.lookup_cons] at e ⊢
  cases hb:f == g with
  | true=>rw [hb] at e;cases e
  | false=>rw [hb] at e;exact ih e
theorem zdp.put{fs:List (Str×V)}{gs:List (Str×Bool×D)}{f:Str}{o:Bool}{d:D}{y:V}(h:zdp cl w n fs gs)(hy:zh1 cl w (.fld n f) o y d):zdp cl w n (zdy f y fs) (zam f o d gs):=by
 induction h with
 | nil=>exact .cons ⟨rfl,hy⟩ .nil
 | @cons p q l1 l2 h t ih =>
  obtain ⟨h1,h2⟩:=h;obtain ⟨g,v⟩:=p;obtain ⟨g',o',d'⟩:=q;have h1':g=g':=h1;subst h1';show zdp cl w n (if g=f then (g,y)::l1 else (g,v)::zdy f y l1) (if g=f then (g,o,d)::l2 else (g,o',d')::zam f o d l2)
  by_cases hg:g=f
  ·subst hg;rw [if_pos rfl,if_pos rfl];exact .cons ⟨rfl,hy⟩ t
  ·rw [if_neg hg,if_neg hg];exact .cons ⟨rfl,h2⟩ ih
theorem zdp.keepBut{w':Wd}(f:Fut w w'){x:Str}(k:∀a o g,g≠x->w.H a=some o->w.ow a=some (.fld n g)->w'.H a=some o/\w'.ow a=some (.fld n g)){fs:List (Str×V)}{gs:List (Str×Bool×D)}(h:zdp cl w n fs gs)(hn:∀q∈gs,q.1=x->q.2.1=false):zdp cl w' n fs gs:=by
 induction h with
 | nil=>exact .nil
 | @cons p q l1 l2 h t ih =>
  obtain ⟨h1,h2⟩:=h;refine .cons ⟨h1,?_⟩ (ih fun q hq=>hn q (List.mem_cons_of_mem _ hq))
  by_cases hx:q.1=x
  ·have ho:=hn q List.mem_cons_self hx;rw [ho] at h2 ⊢
   rcases h2 with ⟨_,h2⟩ | ⟨e,_⟩
   ·exact .inl ⟨rfl,Shd.up f h2⟩
   ·cases e
  ·exact h2.keep f fun a o ha hr=>k a o q.1 hx ha hr
theorem zdp.keepF{w':Wd}(f:Fut w w')(k:∀a o g,w.H a=some o->w.ow a=some (.fld n g)->w'.H a=some o/\w'.ow a=some (.fld n g)){fs:List (Str×V)}{gs:List (Str×Bool×D)}(h:zdp cl w n fs gs):zdp cl w' n fs gs:=by
 induction h with
 | nil=>exact .nil
 | @cons p q l1 l2 h t ih=>exact .cons ⟨h.1,h.2.keep f fun a o ha hr=>k a o q.1 ha hr⟩ ih
variable{B:Base}{σ:St}{ρ:Env}{S:Sto}
theorem World'.atObj(W:World' cl B w S){ob:Ob}(h:S[n]?=some ob){a:Addr}(e:w.mu[n]?=some a):zrR cl w n a ob:=by
 obtain ⟨a',e',x⟩:=W.obj n ob h;rw [e] at e';cases e';exact x
theorem zhI{S:Sto}{n m:Nat}{ob ob':Ob}(h:(S.set n ob)[m]?=some ob'):(m=n/\ob'=ob)\/(m≠n/\S[m]?=some ob'):=by
 by_cases e:n=m
 ·subst e
  have hlt:n<S.length:=by
   have:=(List.getElem?_eq_some_iff.mp h).1;rw [List.length_set] at this;exact this
  rw [List.getElem?_set_self hlt] at h;cases h;exact .inl ⟨rfl,rfl⟩
 ·rw [List.getElem?_set_ne e] at h;exact .inr ⟨fun z=>e z.symm,h⟩
theorem Rel.setf{a dx:Addr}{ob:Ob}{fs:List (Str×V)}{f:Str}{y:V}{d:D}(R:Rel cl B σ w ρ S)(hn:S[n]?=some ob)(hmu:w.mu[n]?=some a)(how:w.ow a=some (.obj n))(hH:w.H a=some (.ins (cl ob.cls) dx fs))(hF:zdp cl w n fs ob.fs)(hy:Shd cl w y d) :
  Rel cl B σ (w.mut a (.ins (cl ob.cls) dx (zdy f y fs))) ρ (S.set n (ob.put f false d))/\Fut w (w.mut a (.ins (cl ob.cls) dx (zdy f y fs))):=by
 have ff:=zge (w:=w) (p:=a) (o:=.ins (cl ob.cls) dx (zdy f y fs)) (by rw [how];exact Option.some_ne_none _)
 have kp:∀b u,w.H b=some u->w.ow b≠some (.obj n)->(w.mut a (.ins (cl ob.cls) dx (zdy f y fs))).H b=some u/\(w.mut a (.ins (cl ob.cls) dx (zdy f y fs))).ow b=w.ow b:=fun b u hb hne=>⟨by
  show upd w.H a _ b=_
  rw [zau (fun z=>hne (by rw [z];exact how))];exact hb,rfl⟩
 have hB:B.Fr a=none:=(R.wd.own a _ how).elim (fun z=>by cases z) fun z=>z
 refine ⟨⟨⟨fun b u h=>?_,R.wd.own,by rw [List.length_set];exact R.wd.len,fun m ob' h=>?_⟩,R.len,fun i o e h=>?_⟩,ff⟩
 ·refine ⟨?_,(R.wd.fr b u h).2⟩;show upd w.H a _ b=_;rw [zau (fun z=>by rw [z,hB] at h;cases h)];exact (R.wd.fr b u h).1
 ·rcases zhI h with ⟨rfl,rfl⟩ | ⟨hne,h⟩
  ·refine ⟨a,hmu,how,dx,_,zaQ,?_⟩;exact zdp.put (hF.keepF ff fun b u g hb hg=>⟨(kp b u hb (by rw [hg];exact fun z=>by cases z)).1,hg⟩) (.inl ⟨rfl,hy.up ff⟩)
  ·obtain ⟨b,e,x⟩:=R.wd.obj m ob' h;exact ⟨b,e,x.keep ff fun b u hb hm=>kp b u hb fun z=>by rw [z] at hm;exact hne hm.symm⟩
 ·obtain ⟨v,e1,x⟩:=R.slots i o e h;exact ⟨v,e1,x.keep ff fun b u hb hr=>⟨(kp b u hb (by rw [hr];exact fun z=>by cases z)).1,hr⟩⟩
def Wd.addF(w:Wd)(p:Addr)(o:HO)(n:Nat)(f:Str):Wd:=⟨upd w.H p o,fun b=>if b=p then some (.fld n f) else w.ow b,w.mu⟩
theorem Rel.newf{a dx p:Addr}{ob:Ob}{fs:List (Str×V)}{f:Str}(R:Rel cl B σ w ρ S)(hn:S[n]?=some ob)(hmu:w.mu[n]?=some a)(how:w.ow a=some (.obj n))(hH:w.H a=some (.ins (cl ob.cls) dx fs))(hF:zdp cl w n fs ob.fs)(hp:w.H p=none) :
  Rel cl B σ ((w.addF p (.ext (DN cl.P cl.wo p [])) n f).mut a (.ins (cl ob.cls) dx (zdy f (.ref p) fs))) ρ (S.set n (ob.put f true (.dic [])))/\Fut w ((w.addF p (.ext (DN cl.P cl.wo p [])) n f).mut a (.ins (cl ob.cls) dx (zdy f (.ref p) fs))):=by
 have hap:a≠p:=zaB hH hp
 have kp:∀b u,w.H b=some u->w.ow b≠some (.obj n)->((w.addF p (.ext (DN cl.P cl.wo p [])) n f).mut a (.ins (cl ob.cls) dx (zdy f (.ref p) fs))).H b=some u/\((w.addF p (.ext (DN cl.P cl.wo p [])) n f).mut a (.ins (cl ob.cls) dx (zdy f (.ref p) fs))).ow b=w.ow b:=fun b u hb hne=>by
  have hbp:b≠p:=zaB hb hp;refine ⟨?_,?_⟩
  ·show upd (upd w.H p _) a _ b=_;rw [zau (fun z=>hne (by rw [z];exact how)),zau hbp];exact hb
  ·show (if b=p then _ else w.ow b)=_;rw [if_neg hbp]
 have ff:Fut w ((w.addF p (.ext (DN cl.P cl.wo p [])) n f).mut a (.ins (cl ob.cls) dx (zdy f (.ref p) fs))):=⟨fun b u hb hk=>by
  have:=kp b u hb (by rw [hk];exact fun z=>by cases z)
  exact ⟨this.1,this.2.trans hk⟩,fun _ _ h=>h⟩
 have hB:B.Fr a=none:=(R.wd.own a _ how).elim (fun z=>by cases z) fun z=>z
 have hBp:B.Fr p=none:=by
  cases z:B.Fr p with
  | none=>rfl
  | some u=>have:=(R.wd.fr p u z).1;rw [hp] at this;cases this
 have Hp:((w.addF p (.ext (DN cl.P cl.wo p [])) n f).mut a (.ins (cl ob.cls) dx (zdy f (.ref p) fs))).H p=some (.ext (DN cl.P cl.wo p [])):=by
  show upd (upd w.H p _) a _ p=_;rw [zau hap.symm,zaQ]
 have owp:((w.addF p (.ext (DN cl.P cl.wo p [])) n f).mut a (.ins (cl ob.cls) dx (zdy f (.ref p) fs))).ow p=some (.fld n f):=if_pos rfl
 have owa:((w.addF p (.ext (DN cl.P cl.wo p [])) n f).mut a (.ins (cl ob.cls) dx (zdy f (.ref p) fs))).ow a=some (.obj n):=by
  show (if a=p then _ else w.ow a)=_;rw [if_neg hap];exact how
 refine ⟨⟨⟨fun b u h=>?_,fun b r h=>?_,by rw [List.length_set];exact R.wd.len,fun m ob' h=>?_⟩,R.len,fun i o e h=>?_⟩,ff⟩
 ·have:=kp b u (R.wd.fr b u h).1 fun z=>by
   rcases R.wd.own b _ z with y | y
   ·cases y
   ·rw [h] at y;cases y
  exact ⟨this.1,this.2.trans (R.wd.fr b u h).2⟩
 ·have h':(if b=p then some (Root.fld n f) else w.ow b)=some r:=h;split at h'
  ·rename_i z;rw [z];exact .inr hBp
  ·exact R.wd.own b r h'
 ·rcases zhI h with ⟨rfl,rfl⟩ | ⟨hne,h⟩
  ·refine ⟨a,hmu,owa,dx,_,zaQ,?_⟩;refine zdp.put (hF.keepF ff fun b u g hb hg=>?_) (.inr ⟨rfl,p,[],[],[],rfl,owp,Hp,.nil,.nil,rfl⟩);have:=kp b u hb (by rw [hg];exact fun z=>by cases z);exact ⟨this.1,this.2.trans hg⟩
  ·obtain ⟨b,e,x⟩:=R.wd.obj m ob' h;exact ⟨b,e,x.keep ff fun b u hb hm=>kp b u hb fun z=>by rw [z] at hm;exact hne hm.symm⟩
 ·obtain ⟨v,e1,x⟩:=R.slots i o e h
  exact ⟨v,e1,x.keep ff fun b u hb hr=>by
   have:=kp b u hb (by rw [hr];exact fun z=>by cases z)
   exact ⟨this.1,this.2.trans hr⟩⟩
def zen(ob:Ob):Bool:=decide (ob.fs.map (·.1)).Nodup
theorem zdp.dic{w':Wd}{a:Addr}{f:Str}{d:D}(ff:Fut w w')(k:∀b o g,g≠f->w.H b=some o->w.ow b=some (.fld n g)->w'.H b=some o/\w'.ow b=some (.fld n g))(hy:zh1 cl w' (.fld n f) true (.ref a) d):∀{fs:List (Str×V)} {gs:List (Str×Bool×D)},zdp cl w n fs gs->(gs.map (·.1)).Nodup->fs.lookup f=some (.ref a)->zdp cl w' n fs (zam f true d gs):=by
 intro fs gs h
 induction h with
 | nil=>intro _ e;cases e
 | @cons p q l1 l2 h t ih =>
  intro nd e;obtain ⟨h1,h2⟩:=h;obtain ⟨g,v⟩:=p;obtain ⟨g',o',d'⟩:=q;have h1':g=g':=h1;subst h1';rw [List.map_cons,List.nodup_cons] at nd;show zdp cl w' n ((g,v)::l1) (if g=f then (g,true,d)::l2 else (g,o',d')::zam f true d l2);rw [List.lookup_cons] at e
  by_cases hg:g=f
  ·subst hg;rw [if_pos rfl];simp only [beq_self_eq_true] at e;cases e;refine .cons ⟨rfl,hy⟩ ?_;have t':zdp cl w n l1 l2:=t;exact t'.keepBut ff k fun q hq hx=>absurd (List.mem_map.mpr ⟨q,hq,hx⟩) nd.1
  ·rw [if_neg hg];have hb:(f == g)=false:=beq_eq_false_iff_ne.mpr fun z=>hg z.symm
   rw [hb] at e;exact .cons ⟨rfl,h2.keep ff fun b o hb hr=>k b o g hg hb hr⟩ (ih nd.2 e)
theorem Rel.setd{a dx c:Addr}{ob:Ob}{fs:List (Str×V)}{f:Str}{xs:List (NK×Addr×Value)}{m:List (NK×V)}{ds:List (D×D)}{k:NK}{kb:Addr}{u:Value}{v:V}{d:D}(R:Rel cl B σ w ρ S)(hn:S[n]?=some ob)(hmu:w.mu[n]?=some a)(how:w.ow a=some (.obj n))(hH:w.H a=some (.ins (cl ob.cls) dx fs))(hF:zdp cl w n fs ob.fs)
  (hl:fs.lookup f=some (.ref c)) (hc:w.ow c=some (.fld n f)) (hcH:w.H c=some (.ext (DN cl.P cl.wo c xs))) (he:ziY w xs m) (hs:ShdN cl w m ds) (hk:zlD w kb k) (rv:zbt v u) (hv:Shd cl w v d) (nd:zen ob=true) :
  Rel cl B σ (w.mut c (.ext (DN cl.P cl.wo c (xs++[(k,kb,u)])))) ρ (S.set n (ob.put f true (.dic (ds++[(nkD k,d)]))))/\Fut w (w.mut c (.ext (DN cl.P cl.wo c (xs++[(k,kb,u)])))):=by
 have ff:=zge (w:=w) (p:=c) (o:=.ext (DN cl.P cl.wo c (xs++[(k,kb,u)]))) (by rw [hc];exact Option.some_ne_none _)
 have kp:∀b o,w.H b=some o->w.ow b≠some (.fld n f)->(w.mut c (.ext (DN cl.P cl.wo c (xs++[(k,kb,u)])))).H b=some o/\(w.mut c (.ext (DN cl.P cl.wo c (xs++[(k,kb,u)])))).ow b=w.ow b:=fun b o hb hne=>⟨by
  show upd w.H c _ b=_
  rw [zau (fun z=>hne (by rw [z];exact hc))];exact hb,rfl⟩
 have hB:B.Fr c=none:=(R.wd.own c _ hc).elim (fun z=>by cases z) fun z=>z
 refine ⟨⟨⟨fun b o h=>?_,R.wd.own,by rw [List.length_set];exact R.wd.len,fun m' ob' h=>?_⟩,R.len,fun i o e h=>?_⟩,ff⟩
 ·refine ⟨?_,(R.wd.fr b o h).2⟩;show upd w.H c _ b=_;rw [zau (fun z=>by rw [z,hB] at h;cases h)];exact (R.wd.fr b o h).1
 ·rcases zhI h with ⟨rfl,rfl⟩ | ⟨hne,h⟩
  ·refine ⟨a,hmu,how,dx,fs,?_,?_⟩
   ·exact (kp a _ hH (by rw [how];exact fun z=>by cases z)).1
   ·refine zdp.dic (a:=c) ff (fun b o g hg hb hr=>?_) (.inr ⟨rfl,c,_,m++[(k,v)],ds++[(nkD k,d)],rfl,hc,zaQ,?_,?_,rfl⟩) hF (of_decide_eq_true nd) hl
    ·exact ⟨(kp b o hb (by rw [hr];exact fun z=>hg (by cases z;rfl))).1,hr⟩
    ·exact (he.up ff).snoc ⟨rfl,hk.up ff,rv⟩
    ·exact (hs.up ff).snoc (hv.up ff)
  ·obtain ⟨b,e,x⟩:=R.wd.obj m' ob' h;exact ⟨b,e,x.keep ff fun b o hb hm=>kp b o hb fun z=>by rw [z] at hm;exact hne hm.symm⟩
 ·obtain ⟨v',e1,x⟩:=R.slots i o e h;exact ⟨v',e1,x.keep ff fun b o hb hr=>⟨(kp b o hb (by rw [hr];exact fun z=>by cases z)).1,hr⟩⟩
def Wd.addO(w:Wd)(x dx C:Addr)(n:Nat):Wd:=⟨upd (upd w.H dx (.own x)) x (.ins C dx []),fun b=>if b=x then some (.obj n) else if b=dx then none else w.ow b,w.mu++[x]⟩
theorem Rel.made{x dx:Addr}{c:Str}(R:Rel cl B σ w ρ S)(hx:w.H x=none)(hdx:w.H dx=none)(ne:dx≠x):Rel cl B σ (w.addO x dx (cl c) S.length) ρ (S++[⟨c,[]⟩])/\Fut w (w.addO x dx (cl c) S.length):=by
 have kp:∀b o,w.H b=some o->(w.addO x dx (cl c) S.length).H b=some o/\(w.addO x dx (cl c) S.length).ow b=w.ow b:=fun b o hb=>by
  have n1:b≠x:=zaB hb hx;have n2:b≠dx:=zaB hb hdx;refine ⟨?_,?_⟩
  ·show upd (upd w.H dx _) x _ b=_;rw [zau n1,zau n2];exact hb
  ·show (if b=x then _ else if b=dx then _ else w.ow b)=_;rw [if_neg n1,if_neg n2]
 have ff:Fut w (w.addO x dx (cl c) S.length):=⟨fun b o hb hk=>⟨(kp b o hb).1,(kp b o hb).2.trans hk⟩,fun n a h=>by
  show (w.mu++[x])[n]?=some a
  rw [List.getElem?_append_left (List.getElem?_eq_some_iff.mp h).1];exact h⟩
 have hBx:B.Fr x=none:=by
  cases z:B.Fr x with
  | none=>rfl
  | some u=>have:=(R.wd.fr x u z).1;rw [hx] at this;cases this
 refine ⟨⟨⟨fun b o h=>?_,fun b r h=>?_,by show (w.mu++[x]).length=_;rw [List.length_append,List.length_append,R.wd.len];rfl,fun m ob h=>?_⟩,R.len,fun i o e h=>?_⟩,ff⟩
 ·have:=kp b o (R.wd.fr b o h).1;exact ⟨this.1,this.2.trans (R.wd.fr b o h).2⟩
 ·have h':(if b=x then some (Root.obj S.length) else if b=dx then none else w.ow b)=some r:=h;split at h'
  ·rename_i z;rw [z];exact .inr hBx
  ·split at h'
   ·cases h'
   ·exact R.wd.own b r h'
 ·by_cases hm:m<S.length
  ·rw [List.getElem?_append_left hm] at h;obtain ⟨b,e,y⟩:=R.wd.obj m ob h;exact ⟨b,ff.mu _ _ e,y.keep ff fun b o hb _=>kp b o hb⟩
  ·have hm':m=S.length:=by
    have:=(List.getElem?_eq_some_iff.mp h).1;rw [List.length_append,List.length_singleton] at this;omega
   subst hm';rw [List.getElem?_append_right (Nat.le_refl _),Nat.sub_self] at h;cases h;refine ⟨x,?_,if_pos rfl,dx,[],zaQ,.nil⟩;show (w.mu++[x])[S.length]?=some x;rw [List.getElem?_append_right (by rw [R.wd.len];exact Nat.le_refl _),R.wd.len,Nat.sub_self];rfl
 ·obtain ⟨v,e1,y⟩:=R.slots i o e h;exact ⟨v,e1,y.keep ff fun b o hb hr=>⟨(kp b o hb).1,(kp b o hb).2.trans hr⟩⟩
end
end S2
namespace S2
open PySem PySem.Spec PyProof.Rows L2
def zmc:D->Option (Option Int) | .non=>some none | .int i=>some (some i) | _=>none
def zdS:List D->Option (List (Option Int))
 | []=>some []
 | d::r=>(zmc d).bind fun o=>(zdS r).map (o::·)
def ziw:D->Option NK
 | .tup [.int i,.tup l]=>(zdS l).map fun os=>(i,os)
 | _=>none
def zaN(k:NK):List (D×D)->Option D
 | []=>none
 | (q,d)::r=>if ziw q=some k then some d else zaN k r
theorem zkr(o:Option Int):zmc (oDn o)=some o:=by cases o<;>rfl
theorem zfw:∀l:List (Option Int),zdS (l.map oDn)=some l
 | []=>rfl
 | o::l=>by rw [List.map_cons];unfold zdS;rw [zkr,zfw l];rfl
theorem zcp(k:NK):ziw (nkD k)=some k:=by
 show (zdS (k.2.map oDn)).map (fun os=>(k.1,os))=some k;rw [zfw];rfl
section
variable{cl:Cf}{w:Wd}
theorem zkq:∀{xs:List V} {ds:List D} {os:Z4},Shds cl w xs ds->zdS ds=some os->xs=os.map oV
 | _,_,os,.nil,h=>by cases h;rfl
 | _,_,os,.cons (v:=v) (d:=d) (ds:=ds) r t,h=>by
  unfold zdS at h
  cases h1:zmc d with
  | none=>rw [h1] at h;cases h
  | some o =>
   rw [h1] at h
   cases h2:zdS ds with
   | none=>rw [h2] at h;cases h
   | some os' =>
    rw [h2] at h;cases h;rw [List.map_cons,<-zkq t h2]
    cases d<;>simp [zmc] at h1<;>subst h1<;>cases r<;>rfl
theorem zm8{v:V}{d:D}{k:NK}(h:Shd cl w v d)(hk:ziw d=some k):∃kb,v=.ref kb/\zlD w kb k:=by
 unfold ziw at hk;split at hk
 ·rename_i i l
  cases ho:zdS l with
  | none=>rw [ho] at hk;cases hk
  | some os =>
   rw [ho] at hk;cases hk
   cases h with
   | tup e o r =>
    cases r with
    | cons r1 t =>
     cases t with
     | cons r2 t =>
      cases t;cases r1
      cases r2 with
      | tup e2 o2 r2=>exact ⟨_,rfl,_,⟨e,o⟩,by rw [<-zkq r2 ho];exact e2,o2⟩
 ·cases hk
theorem zmB:∀{m:List (NK×V)} {ds:List (D×D)},ShdN cl w m ds->∀k:NK,(m.lookup k=none/\zaN k ds=none)\/∃v d,m.lookup k=some v/\zaN k ds=some d/\Shd cl w v d
 | _,_,.nil,k=>.inl ⟨rfl,rfl⟩
 | _,_,.cons (k:=k') (v:=v) (d:=d) r t,k=>by
  rw [List.lookup_cons];unfold zaN;rw [zcp]
  by_cases e:k'=k
  ·subst e;rw [if_pos rfl,beq_self_eq_true];exact .inr ⟨v,d,rfl,rfl,r⟩
  ·rw [if_neg (fun z=>e (by cases z;rfl)),beq_eq_false_iff_ne.mpr (fun z=>e z.symm)];exact zmB t k
theorem znm:∀{m:List (NK×V)} {ds:List (D×D)},ShdN cl w m ds->m.length=ds.length
 | _,_,.nil=>rfl
 | _,_,.cons r t=>by rw [List.length_cons,List.length_cons,znm t]
end
def zey(cn f:Str)(d:D)(S:Sto):Option D:=match d with
 | .ref n=>(match S[n]? with
  | some ob=>if ob.cls=cn then (match ob.fs.lookup f with | some (false,d)=>some d | _=>none) else none
  | none=>none)
 | _=>none
def zed(cn f:Str)(fe:Fe):Fe:=fun ρ S=>(fe ρ S).bind fun d S1=>match zey cn f d S1 with | some r=>.ok r S1 | none=>.bad
def zlA(cl:Cf)(cn f:Str):Prop:=Cls cl.K (cl cn)/\zdv cl.K (cl cn) f
def zfJ(cn f:Str)(d:D)(S:Sto):Option (Nat×Ob×List (D×D)):=match d with
 | .ref n=>(match S[n]? with
  | some ob=>if ob.cls=cn then (match ob.fs.lookup f with | some (true,.dic ds)=>some (n,ob,ds) | _=>none) else none
  | none=>none)
 | _=>none
section
variable{cl:Cf}{cn:Str}{X:Cx}{E:St->XK}{e:Expr}{fe:Fe}{f:Str}{pos:Pos}{B:Base}{σ:St}{w:Wd}{ρ:Env}{S:Sto}
theorem zhl{v:V}{n:Nat}{ob:Ob}(R:Rel cl B σ w ρ S)(hv:Shd cl w v (.ref n))(hn:S[n]?=some ob):∃a dx fs,v=.ref a/\w.mu[n]?=some a/\w.ow a=some (.obj n)/\w.H a=some (.ins (cl ob.cls) dx fs)/\zdp cl w n fs ob.fs:=by
 cases hv with
 | ref e =>
  obtain ⟨h1,dx,fs,h2,h3⟩:=R.wd.atObj hn e;exact ⟨_,dx,fs,rfl,e,h1,h2,h3⟩
theorem zrK{v:V}{d r:D}(hk:zlA cl cn f)(R:Rel cl B σ w ρ S)(hv:Shd cl w v d)(hd:zey cn f d S=some r):∃a C dx fs y,v=.ref a/\w.H a=some (.ins C dx fs)/\Cls cl.K C/\zdv cl.K C f/\fs.lookup f=some y/\Shd cl w y r:=by
 unfold zey at hd
 cases d with
 | ref n =>
  dsimp only at hd
  cases hS:S[n]? with
  | none=>rw [hS] at hd;cases hd
  | some ob =>
   rw [hS] at hd;dsimp only at hd;split at hd
   ·rename_i hfk;split at hd
    ·rename_i d hl;cases hd;obtain ⟨a,dx,fs,rfl,_,_,hH,hF⟩:=zhl R hv hS;obtain ⟨v,lv,fr⟩:=hF.look hl
     rcases fr with ⟨_,fr⟩ | ⟨z,_⟩
     ·exact ⟨a,_,dx,fs,v,rfl,hH,hfk ▸ hk.1,hfk ▸ hk.2,lv,fr⟩
     ·cases z
    ·cases hd
   ·cases hd
 | _=>cases hd
theorem zqa(hk:zlA cl cn f)(kk:X.K=cl.K)(he:PE X e (tE cl E fe))(hb:attributeBase e f X.env (eval e X.env)=eval e X.env):PE X (.Attribute e f pos) (tE cl E (zed cn f fe)):=by
 refine PE.imp (zgR he hb) ?_;rintro σ H Q ⟨B,w,ρ,S,rfl,R,q⟩;refine ⟨B,w,ρ,S,rfl,R,?_⟩;unfold zed at q
 cases hf:fe ρ S with
 | bad=>rw [hf] at q;exact q
 | exc c S1=>rw [hf] at q;exact q
 | ok d S1 =>
  rw [hf] at q;intro v w1 R1 F1 h1;dsimp only [Out.bind] at q
  cases hd:zey cn f d S1 with
  | none=>rw [hd] at q;exact q.elim
  | some r =>
   rw [hd] at q;obtain ⟨a,C,dx,fs,y,rfl,e1,e2,e3,e4,e5⟩:=zrK hk R1 h1 hd;rw [kk];exact ⟨a,C,dx,fs,y,rfl,e1,e2,e3,e4,q y w1 R1 F1 e5⟩
theorem zlt{v:V}{d:D}{n:Nat}{ob:Ob}{ds:List (D×D)}(hk:zlA cl cn f)(R:Rel cl B σ w ρ S)(hv:Shd cl w v d)(hd:zfJ cn f d S=some (n,ob,ds)) :
  ∃a dx fs c xs m,v=.ref a/\S[n]?=some ob/\w.mu[n]?=some a/\w.ow a=some (.obj n)/\w.H a=some (.ins (cl ob.cls) dx fs)/\zdp cl w n fs ob.fs/\Cls cl.K (cl ob.cls)/\zdv cl.K (cl ob.cls) f/\fs.lookup f=some (.ref c)/\w.ow c=some (.fld n f)/\w.H c=some (.ext (DN cl.P cl.wo c xs))/\ziY w xs m/\ShdN cl w m ds:=by
 unfold zfJ at hd
 cases d with
 | ref n' =>
  dsimp only at hd
  cases hS:S[n']? with
  | none=>rw [hS] at hd;cases hd
  | some ob' =>
   rw [hS] at hd;dsimp only at hd;split at hd
   ·rename_i hfk;split at hd
    ·rename_i ds' hl;cases hd;obtain ⟨a,dx,fs,rfl,hmu,how,hH,hF⟩:=zhl R hv hS;obtain ⟨v,lv,fr⟩:=hF.look hl
     rcases fr with ⟨z,_⟩ | ⟨_,c,xs,m,ds2,rfl,c1,c2,c3,c4,e⟩
     ·cases z
     ·cases e;exact ⟨a,dx,fs,c,xs,m,rfl,hS,hmu,how,hH,hF,hfk ▸ hk.1,hfk ▸ hk.2,lv,c1,c2,c3,c4⟩
    ·cases hd
   ·cases hd
 | _=>cases hd
end
end S2
namespace L2
open PySem PySem.Spec PyProof.Rows
section
variable{X:Cx}
def zwC(ta:TA):TE:=fun σ H Q=>ta σ H fun vs H1=>∃j:Int,vs=[.int j]/\0<=j/\j<=1000/\∀p,H1 p=none->Q (.ref p) (upd H1 p (.rng 0 j))
theorem zqy{a:Expr}{ta:TA}{p pos:Pos}(hg:Gl X "range")(hm:X.mg "range" = none)(ha:PA X [a] ta)(hs:starEach [a] X.env=[(false,eval a X.env)]:=by rfl):PE X (.Call (.Name "range" p) [a] [] pos) (zwC ta):=by
 intro pins s σ H Q I h;refine Call_ (ze0 I hg hm boot_range (PyProof.Rows.callWith_type1 (thn (ha pos pins s σ H _ I h) fun us s1 ⟨vs,H1,I1,r1,q1⟩=>?_) hs rfl));obtain ⟨j,e,j0,j1,q⟩:=q1;subst e
 cases r1 with
 | cons r rr =>
  cases rr;obtain ⟨t,rfl⟩:=r;refine call_range_1 ⟨.ref s1.heap.objs.size,_,I1.laid (a:=s1.heap.objs.size) (o:=.rng 0 j) (fun _ _ q=>Heap.get?_push_of_some _ q) (Nat.le_refl _) ⟨_,_,_,Heap.get?_push_size _ rfl⟩,rfl,q _ (I1.hok.fresh (Nat.le_refl _))⟩
theorem zi0:∀(n:Nat) (its:List Value),its.length=n->(∀(i:Nat) (v:Value),its[i]?=some v->∃t,v=.int (i:Int) t)->Vals ((List.range n).map fun (i:Nat)=>V.int (i:Int)) its:=by
 intro n
 induction n with
 | zero =>
  intro its hl _;have:its=[]:=List.eq_nil_of_length_eq_zero hl;subst this;exact .nil
 | succ n ih =>
  intro its hl h
  have e:its=its.take n++[its[n]]:=by
   have:=List.take_append_drop n its
   have h2:its.drop n=[its[n]]:=by
    rw [List.drop_eq_getElem_cons (by omega),List.drop_of_length_le (by omega)]
   rw [h2] at this;exact this.symm
  rw [e,List.range_succ,List.map_append];refine (ih (its.take n) (by rw [List.length_take];omega) fun i v hv=>?_).append (.cons ?_ .nil)
  ·have hi:i<n:=by
    have:=(List.getElem?_eq_some_iff.mp hv).1;rw [List.length_take] at this;omega
   rw [List.getElem?_take,if_pos hi] at hv;exact h i v hv
  ·exact h n its[n] (List.getElem?_eq_getElem (by omega))
theorem zgl(hc:X.calm=true):zd1 X (.type "list") (fun xs H Q=>∃(p:Addr) (n:Nat),xs=[.ref p]/\H p=some (.rng 0 (n:Int))/\n<=1000/\∀l,H l=none->Q (.ref l) (upd H l (.lst ((List.range n).map fun (i:Nat)=>V.int (i:Int))))):=by
 intro pins s σ H xs us Q I r h;obtain ⟨p,n,rfl,hp,hn,q⟩:=h;obtain ⟨u,rfl,rx⟩:=zgs r;cases rx;obtain ⟨t,u,v,hr⟩:=I.hok p _ hp;refine call_list_range (n:=n) (I.ok.hd hc) (show IsRange s.heap p 0 (n:Int) 1 t u v from hr) (small_one (by omega) (by omega) (by omega) (by omega)) (by rw [rangeSize_one];split<;>omega) (by omega) fun h' tk acc c' kp e hi=>?_
 refine ⟨.ref s.heap.objs.size,_,I.laid (t':=tk) kp (Nat.le_refl _) (show zb5 X.prog X.w _ h' _ (.lst _) from ⟨?_,acc.toList,c',zi0 n acc.toList ?_ ?_,by simpa using e⟩),rfl,q _ (I.hok.fresh (Nat.le_refl _))⟩
 ·rw [List.length_map,List.length_range];exact Nat.le_trans hn (by decide)
 ·have:=hi.1;simpa using this
 ·intro i v hv;have:=hi.2 i v (by simpa using hv);simpa using this
end
end L2
namespace S2
open PySem PySem.Spec PyProof.Rows L2
def zmA(cn f:Str)(fa fo:Fe):Fe:=fun ρ S=>(fa ρ S).bind fun dk S1=>(fo ρ S1).bind fun d S2=>match ziw dk,zfJ cn f d S2 with
 | some k,some (_,_,ds)=>.ok (.bl (zaN k ds).isNone) S2
 | _,_=>.bad
def ziA(ρ:Env)(i:Nat):Option NK:=match ρ[i]? with | some (some (false,dk))=>ziw dk | _=>none
def zhP(cn f:Str)(fo:Fe)(i:Nat):Fe:=fun ρ S=>(fo ρ S).bind fun d S1=>match ziA ρ i,zfJ cn f d S1 with
 | some k,some (_,_,ds)=>(match zaN k ds with | some r=>.ok r S1 | none=>.bad)
 | _,_=>.bad
def zhq(cn f:Str)(fo:Fe)(i:Nat)(fe:Fe):Fs:=fun ρ S=>match fe ρ S with
 | .bad=>.bad
 | .exc c S1=>.ex c ρ S1
 | .ok r S1=>(match fo ρ S1 with
  | .bad=>.bad
  | .exc c S2=>.ex c ρ S2
  | .ok d S2=>(match ziA ρ i,zfJ cn f d S2 with
   | some k,some (n,ob,ds)=>if (zaN k ds).isNone&&decide (ds.length<=1000000)&&zen ob then .nx ρ (S2.set n (ob.put f true (.dic (ds++[(nkD k,r)])))) else .bad
   | _,_=>.bad))
def zd2(cn f:Str)(fo fe:Fe):Fs:=fun ρ S=>match fe ρ S with
 | .bad=>.bad
 | .exc c S1=>.ex c ρ S1
 | .ok r S1=>(match fo ρ S1 with
  | .bad=>.bad
  | .exc c S2=>.ex c ρ S2
  | .ok (.ref n) S2=>(match S2[n]? with
   | some ob=>if decide (ob.cls=cn)&&decide (ob.fs.length<1000) then .nx ρ (S2.set n (ob.put f false r)) else .bad
   | none=>.bad)
  | .ok _ _=>.bad)
def zfW(cn f:Str)(i:Nat):Fs:=fun ρ S=>match ρ[i]? with
 | some (some (false,.ref n))=>(match S[n]? with
   | some ob=>if decide (ob.cls=cn)&&decide (ob.fs.length<1000) then .nx ρ (S.set n (ob.put f true (.dic []))) else .bad
   | none=>.bad)
 | _=>.bad
def zcM(c m:Str)(d:D)(S:Sto):Bool:=match d with
 | .ref n=>(match S[n]? with | some ob=>decide (ob.cls=c)&&(ob.fs.lookup m).isNone | none=>false)
 | _=>false
def zbj(c m:Str)(G:List D->Sto->Out D)(fo:Fe)(fs:List Fe):Fe:=fun ρ S=>(fo ρ S).bind fun d S1=>if zcM c m d S1 then (zaq fs ρ S1).bind fun ds S2=>G (d::ds) S2 else .bad
def eMk(c:Str)(dds:List D)(G:List D->Sto->Out D)(fs:List Fe):Fe:=fun ρ S=>(zaq fs ρ S).bind fun ds S1=>(G (.ref S1.length::(ds++dds)) (S1++[⟨c,[]⟩])).bind fun r S2=>match r with | .non=>.ok (.ref S1.length) S2 | _=>.bad
structure Same'(cl:Cf)(X:Cx):Prop where
 kk:X.K=cl.K
 pp:X.prog=cl.P
 ww:X.w=cl.wo
section
variable{cl:Cf}{cn:Str}{X:Cx}{E:St->XK}{a o e:Expr}{fa fo fe:Fe}{f:Str}{pos apos:Pos}{own:Bool}
theorem zq1(sm:Same' cl X)(hk:zlA cl cn f)(σ:St)(H:Hp)(Q:VK)(q:tE cl E (zmA cn f fa fo) σ H Q) :
  tOp (fun x y H Q=>∃kb a k xs m,x=.ref kb/\y=.ref a/\zh0 H kb k/\H a=some (.ext (DN X.prog X.w a xs))/\zmT H xs m/\Q (.bl (m.lookup k).isNone) H) (tE cl E fa) (zuL X.K (tE cl E fo) f) σ H Q:=by
 obtain ⟨B,w,ρ,S,rfl,R,q⟩:=q;refine ⟨B,w,ρ,S,rfl,R,?_⟩;unfold zmA at q
 cases hf:fa ρ S with
 | bad=>rw [hf] at q;exact q
 | exc c S1=>rw [hf] at q;exact q
 | ok dk S1 =>
  rw [hf] at q;intro v w1 R1 F1 h1;refine ⟨B,w1,ρ,S1,rfl,R1,?_⟩;dsimp only [Out.bind] at q
  cases hh:fo ρ S1 with
  | bad=>rw [hh] at q;exact q
  | exc c S2=>rw [hh] at q;exact fun w2 R2 F2=>q w2 R2 (F1.trans F2)
  | ok d S2 =>
   rw [hh] at q;intro y w2 R2 F2 h2;dsimp only at q
   cases hn:ziw dk with
   | none=>rw [hn] at q;exact q.elim
   | some k =>
    cases hd:zfJ cn f d S2 with
    | none=>rw [hn,hd] at q;exact q.elim
    | some t =>
     obtain ⟨n,ob,ds⟩:=t;rw [hn,hd] at q;dsimp only at q;obtain ⟨a,dx,fs,c,xs,m,rfl,_,_,_,hH,_,c1,c2,lv,_,hc,he,hs⟩:=zlt hk R2 h2 hd;obtain ⟨kb,rfl,ks⟩:=zm8 (h1.up F2) hn;rw [sm.kk];refine ⟨a,_,dx,fs,_,rfl,hH,c1,c2,lv,kb,c,k,xs,m,rfl,rfl,ks.at,by rw [sm.pp,sm.ww];exact hc,he.ents,?_⟩
     have:(m.lookup k).isNone=(zaN k ds).isNone:=by
      rcases zmB hs k with ⟨e1,e2⟩ | ⟨_,_,e1,e2,_⟩<;>rw [e1,e2]<;>rfl
     rw [this];exact q _ w2 R2 (F1.trans F2) (.bl _)
theorem zp8(hu:X.A.units+16<cLine)(sm:Same' cl X)(hk:zlA cl cn f)(ha:PE X a (tE cl E fa))(ho:PE X o (tE cl E fo))(hb:attributeBase o f X.env (eval o X.env)=eval o X.env)(hm:behindInMarks .NotIn (.Attribute o f apos)=false):PE X (.Compare a [.NotIn] [.Attribute o f apos] pos) (tE cl E (zmA cn f fa fo)) :=
 PE.imp (zkn (zm5 hu) ha (zgR ho hb) hm) (zq1 sm hk)
theorem zpM(hu:X.A.units+16<cLine)(sm:Same' cl X)(hk:zlA cl cn f)(ha:PE X a (tE cl E fa))(ho:PE X o (tE cl E fo))(hb:attributeBase o f X.env (eval o X.env)=eval o X.env)(hm:behindInMarks .NotIn (.Attribute o f apos)=false):PT X (.Compare a [.NotIn] [.Attribute o f apos] pos) (tTr cl E (zmA cn f fa fo)) :=
 PT.imp (zkd (zm5 hu) ha (zgR ho hb) hm) fun _ _ _ q=>zq1 sm hk _ _ _ (zh8 q)
theorem zkM{B:Base}{σ:St}{w:Wd}{ρ:Env}{S:Sto}{i:Nat}{k:NK}(R:Rel cl B σ w ρ S)(h:ziA ρ i=some k):∃kb,σ[i]?=some (some (.ref kb))/\zlD w kb k:=by
 unfold ziA at h;split at h
 ·rename_i dk hi;obtain ⟨v,e,r⟩:=R.slots i false dk hi;obtain ⟨kb,rfl,ks⟩:=zm8 r h;exact ⟨kb,e,ks⟩
 ·cases h
theorem znZ{i:Nat}{x:Str}{p:Pos}(hN:X.N[i]?=some x)(hv:Vis X.env.scope x)(hd:(x == ("__debug__":Str))=false)(hcd:(x == ("__classdict__":Str))=false)(hu:X.A.units+16<cLine)(sm:Same' cl X)(hk:zlA cl cn f)(ho:PE X o (tE cl E fo))(hb:attributeBase o f X.env (eval o X.env)=eval o X.env)(hs:zgo (.Name x p)):PE X (.Subscript (.Attribute o f apos) (.Name x p) pos) (tE cl E (zhP cn f fo i)):=by
 refine PE.imp (zqE (zrj hu) (zgR ho hb) (zeQ hN hv hd hcd) hs) ?_;rintro σ H Q ⟨B,w,ρ,S,rfl,R,q⟩;refine ⟨B,w,ρ,S,rfl,R,?_⟩;unfold zhP at q
 cases hf:fo ρ S with
 | bad=>rw [hf] at q;exact q
 | exc c S1=>rw [hf] at q;exact q
 | ok d S1 =>
  rw [hf] at q;intro v w1 R1 F1 h1;dsimp only [Out.bind] at q
  cases hn:ziA ρ i with
  | none=>rw [hn] at q;exact q.elim
  | some k =>
   cases hd:zfJ cn f d S1 with
   | none=>rw [hn,hd] at q;exact q.elim
   | some t =>
    obtain ⟨n,ob,ds⟩:=t;rw [hn,hd] at q;dsimp only at q;obtain ⟨a,dx,fs,c,xs,m,rfl,_,_,_,hH,_,c1,c2,lv,_,hc,he,hs⟩:=zlt hk R1 h1 hd;obtain ⟨kb,eσ,ks⟩:=zkM R1 hn
    cases hl:zaN k ds with
    | none=>rw [hl] at q;exact q.elim
    | some r =>
     rw [hl] at q
     rcases zmB hs k with ⟨_,e2⟩ | ⟨y,r',e1,e2,sh⟩
     ·rw [hl] at e2;cases e2
     ·rw [hl] at e2;cases e2;rw [sm.kk];exact ⟨a,_,dx,fs,_,rfl,hH,c1,c2,lv,_,eσ,c,kb,k,xs,m,y,rfl,rfl,ks.at,by rw [sm.pp,sm.ww];exact hc,he.ents,e1,q _ w1 R1 F1 sh⟩
theorem znL{i:Nat}{x:Str}{p p3:Pos}(hN:X.N[i]?=some x)(hv:Vis X.env.scope x)(hd:(x == ("__debug__":Str))=false)(hcd:(x == ("__classdict__":Str))=false)(hu:X.A.units+16<cLine)(sm:Same' cl X)(hk:zlA cl cn f)(ho:PE X o (tE cl E fo))(hb:attributeBase o f X.env (eval o X.env)=eval o X.env)(he:PE X e (tE cl E fe))
  (sw1:swapsWithSole [.Subscript (.Attribute o f apos) (.Name x p) p3] e pos.line X.env=pure false) (sw2:swappedStores [.Subscript (.Attribute o f apos) (.Name x p) p3] e X.env=pure none)
  (ha:∀v,assign (.Subscript (.Attribute o f apos) (.Name x p) p3) X.env v=(do
   let ov ← holding [v] (eval (.Attribute o f apos) X.env)
   let iv ← holding [v,ov] (eval (.Name x p) X.env)
   standAt p3
   holding [v,ov,iv] (setItem ov iv v)
   release [v,ov,iv] [])):PS X (.Assign [.Subscript (.Attribute o f apos) (.Name x p) p3] e pos) (tS cl E own (zhq cn f fo i fe)):=by
 refine PS.imp (zm3 he (zqv (zgR ho hb) (zeQ hN hv hd hcd) (znV hu) ha) sw1 sw2 rfl) ?_;rintro De σ H ⟨B,w,ρ,S,rfl,R,q⟩;refine ⟨B,w,ρ,S,rfl,R,?_⟩;unfold zhq at q
 cases hf:fe ρ S with
 | bad=>rw [hf] at q;exact q
 | exc c S1=>rw [hf] at q;exact fun w' R' F'=>q σ w' R' F'
 | ok r S1 =>
  rw [hf] at q;intro v w1 R1 F1 h1;dsimp only at q;refine ⟨B,w1,ρ,S1,rfl,R1,?_⟩
  cases hfo:fo ρ S1 with
  | bad=>rw [hfo] at q;exact q
  | exc c S2=>rw [hfo] at q;exact fun w' R' F'=>q σ w' R' (F1.trans F')
  | ok d S2 =>
   rw [hfo] at q;intro y w2 R2 F2 h2;dsimp only at q
   cases hn:ziA ρ i with
   | none=>rw [hn] at q;exact q.elim
   | some k =>
    cases hd:zfJ cn f d S2 with
    | none=>rw [hn,hd] at q;exact q.elim
    | some t =>
     obtain ⟨n,ob,ds⟩:=t;rw [hn,hd] at q;dsimp only at q;split at q
     ·rename_i hc0;rw [Bool.and_eq_true,Bool.and_eq_true] at hc0;obtain ⟨⟨z1,z2⟩,z3⟩:=hc0;obtain ⟨a,dx,fs,c,xs,m,rfl,hS,hmu,how,hH,hF,c1,c2,lv,oc,hc,he,hs⟩:=zlt hk R2 h2 hd;obtain ⟨kb,eσ,ks⟩:=zkM R2 hn
      have hno:m.lookup k=none:=by
       rcases zmB hs k with ⟨e1,_⟩ | ⟨_,_,_,e2,_⟩
       ·exact e1
       ·rw [e2] at z1;cases z1
      rw [sm.kk];refine ⟨a,_,dx,fs,_,rfl,hH,c1,c2,lv,_,eσ,c,kb,k,xs,m,rfl,rfl,ks.at,by rw [sm.pp,sm.ww];exact hc,he.ents,hno,by rw [znm hs];exact of_decide_eq_true z2,fun u ru=>?_⟩;obtain ⟨R3,F3⟩:=R2.setd hS hmu how hH hF lv oc hc he hs ks ru (h1.up F2) z3;rw [sm.pp,sm.ww];exact q σ _ R3 (F1.trans (F2.trans F3))
     ·exact q.elim
theorem znN(sm:Same' cl X)(hk:zlA cl cn f)(ho:PE X o (tE cl E fo))(he:PE X e (tE cl E fe))(hs:swapsWith e (some (.Attribute o f apos)) pos.line X.env=pure false):PS X (.Assign [.Attribute o f apos] e pos) (tS cl E own (zd2 cn f fo fe)):=by
 refine PS.imp (zm2 ho he hs) ?_;rintro De σ H ⟨B,w,ρ,S,rfl,R,q⟩;refine ⟨B,w,ρ,S,rfl,R,?_⟩;unfold zd2 at q
 cases hf:fe ρ S with
 | bad=>rw [hf] at q;exact q
 | exc c S1=>rw [hf] at q;exact fun w' R' F'=>q σ w' R' F'
 | ok r S1 =>
  rw [hf] at q;intro v w1 R1 F1 h1;dsimp only at q;refine ⟨B,w1,ρ,S1,rfl,R1,?_⟩
  cases hfo:fo ρ S1 with
  | bad=>rw [hfo] at q;exact q
  | exc c S2=>rw [hfo] at q;exact fun w' R' F'=>q σ w' R' (F1.trans F')
  | ok d S2 =>
   rw [hfo] at q;intro y w2 R2 F2 h2
   cases d with
   | ref n =>
    dsimp only at q
    cases hS:S2[n]? with
    | none=>rw [hS] at q;exact q.elim
    | some ob =>
     rw [hS] at q;dsimp only at q;split at q
     ·rename_i hc0;rw [Bool.and_eq_true] at hc0;obtain ⟨a,dx,fs,rfl,hmu,how,hH,hF⟩:=zhl R2 h2 hS;rw [sm.kk];refine ⟨a,_,dx,fs,rfl,hH,of_decide_eq_true hc0.1 ▸ hk.1,of_decide_eq_true hc0.1 ▸ hk.2,by rw [hF.len];exact of_decide_eq_true hc0.2,?_⟩;obtain ⟨R3,F3⟩:=R2.setf (f:=f) hS hmu how hH hF (h1.up F2);exact q σ _ R3 (F1.trans (F2.trans F3))
     ·exact q.elim
   | _=>exact q.elim
theorem znO{i:Nat}{x:Str}{p p2:Pos}(hN:X.N[i]?=some x)(hv:Vis X.env.scope x)(hd:(x == ("__debug__":Str))=false)(hcd:(x == ("__classdict__":Str))=false)(sm:Same' cl X)(hk:zlA cl cn f)(hs:swapsWith (.Dict [] [] p) (some (.Attribute (.Name x p2) f apos)) pos.line X.env=pure false):PS X (.Assign [.Attribute (.Name x p2) f apos] (.Dict [] [] p) pos) (tS cl E own (zfW cn f i)):=by
 refine PS.imp (zm2 (zeQ hN hv hd hcd) zok hs) ?_;rintro De σ H ⟨B,w,ρ,S,rfl,R,q⟩;intro pd hpd;unfold zfW at q;split at q
 ·rename_i n hi;obtain ⟨v,ev,rv⟩:=R.slots i false _ hi
  cases hS:S[n]? with
  | none=>rw [hS] at q;exact q.elim
  | some ob =>
   rw [hS] at q;dsimp only at q;split at q
   ·rename_i hc0;rw [Bool.and_eq_true] at hc0;obtain ⟨a,dx,fs,rfl,hmu,how,hH,hF⟩:=zhl R rv hS;rw [sm.kk];refine ⟨_,ev,a,_,dx,fs,rfl,?_,of_decide_eq_true hc0.1 ▸ hk.1,of_decide_eq_true hc0.1 ▸ hk.2,by rw [hF.len];exact of_decide_eq_true hc0.2,?_⟩
    ·rw [zau (zaB hH hpd)];exact hH
    ·obtain ⟨R3,F3⟩:=R.newf (f:=f) hS hmu how hH hF hpd;rw [sm.pp,sm.ww];exact q σ _ R3 F3
   ·exact q.elim
 ·exact q.elim
end
def zgw(C:Addr)(m:Str)(sp:Sp)(dvs:List V)(E:St->XK)(ta:TE)(t:TA):TE:=fun σ H Q=>ta σ H fun x H1=>∃a dx fs,x=.ref a/\H1 a=some (.ins C dx fs)/\fs.lookup m=none ∧
 t σ H1 fun vs H2=>sp (x::(vs++dvs)) H2 Q (E σ)
def zmW(C:Addr)(sp:Sp)(dvs:List V)(E:St->XK)(t:TA):TE:=fun σ H Q=>t σ H fun vs H1=>∀x dx,H1 x=none->H1 dx=none->dx≠x →
 sp (.ref x::(vs++dvs)) (upd (upd H1 dx (.own x)) x (.ins C dx [])) (fun v H2=>v=.non/\Q (.ref x) H2) (E σ)
section
variable{X:Cx}{CX:CXT}{k:Nat}{f C:Addr}{fd:FuncData}{ps:List Str}{sp:Sp}{dvs:List V}{ds:List Value}{E:St->XK}{x m:Str}{p pos apos:Pos}{e o:Expr}{es:List Expr}{ta:TE}{t:TA}
theorem zl4{pl:Sem Bool}(he:PE X o ta)(c:Cls X.K C)(hm:Meth X.K C m f)(F:FnOk X.prog X.w X.K X.mg X.base CX k f fd ps sp)(hr:Room k X.A)(hb:zbJ X.K fd ps ds)(hd:Vals dvs ds)(hx:zdf CX X E)(ha:PA X (e::es) t)
  (hst:starEach (e::es) X.env=(false,eval e X.env)::starEach es X.env) (hpl:(backTo pos (starEach es X.env)).any (·.1)=false)
  (ht:eval (.Call (.Attribute o m apos) (e::es) [] pos) X.env=(do
   let ov ← eval o X.env
   standAt apos.atName
   let (f,first) ← holding [ov] (getMethod ov m pl)
   callWith pos f first (backTo pos (starEach (e::es) X.env)) (backToKw pos (keywordEach [] X.env)))) :
  PE X (.Call (.Attribute o m apos) (e::es) [] pos) (zgw C m sp dvs E ta t):=by
 intro pins s σ H Q I h;refine PySem.W.methodCall_KW (pl:=pl) (thn (he pins s σ H _ I h) fun u s1 ⟨x,H1,I1,rx,a,dx,fs,ex,ea,l,q⟩=>?_) ht;subst ex;obtain rfl:u=Value.ref a:=rx;refine zfE I1 ea c hm l ?_;refine PySem.W.callWith_K (first:=[.ref a]) (h₀:=X.base) I.ok.mod.kin hm.kp (thn (ha pos pins s1 σ H1 _ I1 q) fun us s2 ⟨vs,H2,I2,r,q2⟩=>⟨I2.kIn,?_⟩) hst hpl;exact zfY (us:=.ref a::us) (vs:=.ref a::vs) F hr hb hd hx I2 (.cons rfl r) q2
theorem zkm{pl:Sem Bool}(he:PE X o ta)(c:Cls X.K C)(hm:Meth X.K C m f)(F:FnOk X.prog X.w X.K X.mg X.base CX k f fd ps sp)(hr:Room k X.A)(hb:zbJ X.K fd ps ds)(hd:Vals dvs ds)(hx:zdf CX X E)
  (ht:eval (.Call (.Attribute o m apos) [] [] pos) X.env=(do
   let ov ← eval o X.env
   standAt apos.atName
   let (f,first) ← holding [ov] (getMethod ov m pl)
   callWith pos f first (backTo pos (starEach [] X.env)) (backToKw pos (keywordEach [] X.env)))) :
  PE X (.Call (.Attribute o m apos) [] [] pos) (zgw C m sp dvs E ta zrX):=by
 intro pins s σ H Q I h;refine PySem.W.methodCall_KW (pl:=pl) (thn (he pins s σ H _ I h) fun u s1 ⟨x,H1,I1,rx,a,dx,fs,ex,ea,l,q⟩=>?_) ht;subst ex;obtain rfl:u=Value.ref a:=rx;refine zfE I1 ea c hm l ?_;exact PySem.W.callWith_K0 (first:=[.ref a]) I1.kIn hm.kp (zfY (us:=[.ref a]) (vs:=[.ref a]) F hr hb hd hx I1 (.cons rfl .nil) q)
theorem zj9{pins:Z3}{σ:St}{H:Hp}{s:Shared}{Q:VK}{us:List Value}{vs:List V}(M:Mk X.K C f)(F:FnOk X.prog X.w X.K X.mg X.base CX k f fd ps sp)(hr:Room (k+1) X.A)(hb:zbJ X.K fd ps ds)(hd:Vals dvs ds)
  (hx:zdf CX X E) (I:Inv X pins σ H s) (r:Vals vs us)
  (h:∀x dx,H x=none->H dx=none->dx≠x->sp (.ref x::(vs++dvs)) (upd (upd H dx (.own x)) x (.ins C dx [])) (fun v H2=>v=.non/\Q (.ref x) H2) (E σ)) :
  wpAny (model X.prog X.w) X.A (call (.ref C) us) (EP X pins σ Q) X.xe s:=by
 have hq:=h (s.heap.objs.size+1) s.heap.objs.size (I.hok.fresh (Nat.le_succ _)) (I.hok.fresh (Nat.le_refl _)) (Nat.ne_of_lt (Nat.lt_succ_self _));have I2:=Inv.made (C:=C) I;have r2:Vals (V.ref (s.heap.objs.size+1)::(vs++dvs)) (Value.ref (s.heap.objs.size+1)::(us++ds)):=.cons rfl (r.append hd)
 have hl:(Value.ref (s.heap.objs.size+1)::us++ds).length=ps.length:=by
  have e:=r2.length;rw [F.len _ _ _ _ hq] at e;exact e.symm
 refine wpAny_call (zmk (f:=f) I.kIn M.makes M.init (beq_iff_eq.mp M.fn) (codeAny_mono (F.run _ X.stack _ _ ⟨Value.ref (s.heap.objs.size+1)::us,[]⟩ (Value.ref (s.heap.objs.size+1)::(us++ds)) _ _ (E σ) (hr.make C us [])
  (I2.env0.make C us []) (hb _ (Value.ref (s.heap.objs.size+1)::us) I2.kIn hl) r2 hq) fun r s' hq'=>?_))
 cases r with
 | error e=>exact hx pins σ _ _ e s' I2 hq'
 | ok fl =>
  cases fl with
  | ret u =>
   obtain ⟨v,H',I3,rv,ev,q3⟩:=I2.after hq';subst ev;exact ⟨rv,⟨V.ref (s.heap.objs.size+1),H',I3,rfl,q3⟩⟩
  | next=>exact False.elim hq'
  | brk=>exact False.elim hq'
  | cont=>exact False.elim hq'
theorem zin(M:Mk X.K C f)(F:FnOk X.prog X.w X.K X.mg X.base CX k f fd ps sp)(hr:Room (k+1) X.A)(hg:Gl X x)(hm:X.mg x=some (.ref C))(hb:zbJ X.K fd ps ds)(hd:Vals dvs ds)(hx:zdf CX X E)
  (ha:PA X (e::es) t) (hdb:(x == ("__debug__":Str))=false) (he:starEach (e::es) X.env=(false,eval e X.env)::starEach es X.env) (hpl:(backTo pos (starEach es X.env)).any (·.1)=false) :
  PE X (.Call (.Name x p) (e::es) [] pos) (zmW C sp dvs E t):=by
 intro pins s σ H Q I h;refine wpAny_Call_Name_kw (zeZ I hg hm ?_ hdb);refine PySem.W.callWith_K (h₀:=X.base) I.ok.mod.kin M.kp (thn (ha pos pins s σ H _ I h) fun us s1 ⟨vs,H1,I1,r,q⟩=>⟨I1.kIn,?_⟩) he hpl;exact zj9 M F hr hb hd hx I1 r q
end
section
variable{cl:Cf}{E:St->XK}{fs:List Fe}{fo:Fe}{G:List D->Sto->Out D}{σ:St}{H:Hp}{Q:VK}{n:Nat}{c m:Str}{ρ:Env}
theorem zdX:∀{fs:List Fe} {S S1:Sto} {ds:List D},zaq fs ρ S=.ok ds S1->ds.length=fs.length
 | [],S,S1,ds,h=>by cases h;rfl
 | f::fs,S,S1,ds,h=>by
  unfold zaq at h
  cases h1:f ρ S with
  | bad=>rw [h1] at h;cases h
  | exc c S2=>rw [h1] at h;cases h
  | ok d S2 =>
   rw [h1] at h;dsimp only [Out.bind] at h
   cases h2:zaq fs ρ S2 with
   | bad=>rw [h2] at h;cases h
   | exc c S3=>rw [h2] at h;cases h
   | ok es S3=>rw [h2] at h;cases h;rw [List.length_cons,List.length_cons,zdX h2]
theorem zkD{B:Base}{w:Wd}{S:Sto}{v:V}{d:D}(R:Rel cl B σ w ρ S)(hv:Shd cl w v d)(h:zcM c m d S=true):∃a dx fs,v=.ref a/\w.H a=some (.ins (cl c) dx fs)/\fs.lookup m=none:=by
 unfold zcM at h
 cases d with
 | ref n =>
  dsimp only at h
  cases hS:S[n]? with
  | none=>rw [hS] at h;cases h
  | some ob =>
   rw [hS] at h;dsimp only at h;rw [Bool.and_eq_true] at h;obtain ⟨a,dx,fs,rfl,_,_,hH,hF⟩:=zhl R hv hS;have e:=of_decide_eq_true h.1;subst e;exact ⟨a,dx,fs,rfl,hH,hF.miss (by simpa using h.2)⟩
 | _=>cases h
theorem zq5(q:tE cl E (zbj c m G fo fs) σ H Q)(hn:fs.length+1=n):zgw (cl c) m (zgz cl n false G) [] E (tE cl E fo) (tAs cl E fs) σ H Q:=by
 obtain ⟨B,w,ρ,S,rfl,R,q⟩:=q;refine ⟨B,w,ρ,S,rfl,R,?_⟩;unfold zbj at q
 cases hfo:fo ρ S with
 | bad=>rw [hfo] at q;exact q
 | exc c S1=>rw [hfo] at q;exact q
 | ok d S0 =>
 rw [hfo] at q;intro v w0 R0 F0 h0;dsimp only [Out.bind] at q
 cases hok:zcM c m d S0 with
 | false=>rw [hok] at q;exact q.elim
 | true =>
 rw [hok,if_pos rfl] at q;obtain ⟨a,dx,fs',rfl,hH,hm⟩:=zkD R0 h0 hok;refine ⟨a,dx,fs',rfl,hH,hm,B,w0,ρ,S0,rfl,R0,?_⟩
 cases hf:zaq fs ρ S0 with
 | bad=>rw [hf] at q;exact q
 | exc c S1=>rw [hf] at q;exact fun w1 R1 F1=>q w1 R1 (F0.trans F1)
 | ok ds S1 =>
  rw [hf] at q;intro vs w1 R1 F1 h1;dsimp only at q;refine ⟨?_,w1.base,w1.inn,d::ds,S1,rfl,R1.wd.enter,?_,?_⟩
  ·rw [List.append_nil,List.length_cons,h1.length,zdX hf];exact hn
  ·rw [List.append_nil];exact .cons ((h0.up F1).up (zcz w1)) (h1.up (zcz w1))
  cases hg:G (d::ds) S1 with
  | bad=>rw [hg] at q;exact q
  | exc c S2 =>
   rw [hg] at q;intro w2 W2 F2;obtain ⟨R3,F3⟩:=R1.leave W2 F2;exact q (w1.back w2) R3 (F0.trans (F1.trans F3))
  | ok r S2 =>
   rw [hg] at q;intro v w2 W2 F2 r2;obtain ⟨R3,F3⟩:=R1.leave W2 F2;exact q v (w1.back w2) R3 (F0.trans (F1.trans F3)) (Shd.up (zdk W2) r2)
theorem zq4(q:tN cl E (zbj c m G fo fs) σ H Q)(hn:fs.length+1=n):zgw (cl c) m (zgz cl n true G) [] E (tE cl E fo) (tAs cl E fs) σ H Q:=by
 obtain ⟨B,w,ρ,S,rfl,R,q⟩:=q;refine ⟨B,w,ρ,S,rfl,R,?_⟩;unfold zbj at q
 cases hfo:fo ρ S with
 | bad=>rw [hfo] at q;exact q
 | exc c S1=>rw [hfo] at q;exact q
 | ok d S0 =>
 rw [hfo] at q;intro v w0 R0 F0 h0;dsimp only [Out.bind] at q
 cases hok:zcM c m d S0 with
 | false=>rw [hok] at q;exact q.elim
 | true =>
 rw [hok,if_pos rfl] at q;obtain ⟨a,dx,fs',rfl,hH,hm⟩:=zkD R0 h0 hok;refine ⟨a,dx,fs',rfl,hH,hm,B,w0,ρ,S0,rfl,R0,?_⟩
 cases hf:zaq fs ρ S0 with
 | bad=>rw [hf] at q;exact q
 | exc c S1=>rw [hf] at q;exact fun w1 R1 F1=>q w1 R1 (F0.trans F1)
 | ok ds S1 =>
  rw [hf] at q;intro vs w1 R1 F1 h1;dsimp only at q;refine ⟨?_,w1.base,w1.inn,d::ds,S1,rfl,R1.wd.enter,?_,?_⟩
  ·rw [List.append_nil,List.length_cons,h1.length,zdX hf];exact hn
  ·rw [List.append_nil];exact .cons ((h0.up F1).up (zcz w1)) (h1.up (zcz w1))
  cases hg:G (d::ds) S1 with
  | bad=>rw [hg] at q;exact q
  | exc c S2 =>
   rw [hg] at q;intro w2 W2 F2;obtain ⟨R3,F3⟩:=R1.leave W2 F2;exact q (w1.back w2) R3 (F0.trans (F1.trans F3))
  | ok r S2 =>
   rw [hg] at q;intro v w2 W2 F2 r2;obtain ⟨R3,F3⟩:=R1.leave W2 F2;obtain ⟨a,o,i,rfl,k1,k2,t⟩:=r2;have hfr:w1.base.Fr a=none:=(W2.own a _ k1).elim (fun z=>by cases z) fun z=>z
   have k3:(w1.back w2).ow a=some .far:=by
    show (if (w1.base.Fr a).isSome=true then w1.ow a else Root.out (w2.ow a))=_;rw [hfr,k1];rfl
   have hb:B.Fr a=none:=by
    cases z:B.Fr a with
    | none=>rfl
    | some u=>rw [zdH R1.wd z] at hfr;cases hfr
   have hd:=zhJ (w:=w1.back w2) (a:=a) (by rw [k3];exact Option.some_ne_none _);have:=q a o ((w1.back w2).del a) (R3.del k3 hb) (F0.trans (F1.trans (F3.trans hd))) (if_pos rfl) ((t.up (zdk W2)).up hd);rw [zjG (w:=w1.back w2) k2] at this;exact this
theorem zuV{dds:List D}{dvs:List V}(hdv:∀w,Shds cl w dvs dds)(q:tE cl E (eMk c dds G fs) σ H Q)(hn:fs.length+dds.length+1=n):zmW (cl c) (zgz cl n false G) dvs E (tAs cl E fs) σ H Q:=by
 obtain ⟨B,w,ρ,S,rfl,R,q⟩:=q;refine ⟨B,w,ρ,S,rfl,R,?_⟩;unfold eMk at q
 cases hf:zaq fs ρ S with
 | bad=>rw [hf] at q;exact q
 | exc c S1=>rw [hf] at q;exact q
 | ok ds S1 =>
  rw [hf] at q;intro vs w1 R1 F1 h1;dsimp only [Out.bind] at q;intro x dx hx hdx ne;obtain ⟨R2,F2⟩:=R1.made (c:=c) hx hdx ne
  have hmu:(w1.addO x dx (cl c) S1.length).mu[S1.length]?=some x:=by
   show (w1.mu++[x])[S1.length]?=some x;rw [List.getElem?_append_right (by rw [R1.wd.len];exact Nat.le_refl _),R1.wd.len,Nat.sub_self];rfl
  refine ⟨?_,(w1.addO x dx (cl c) S1.length).base,(w1.addO x dx (cl c) S1.length).inn,.ref S1.length::(ds++dds),S1++[⟨c,[]⟩],rfl,R2.wd.enter,?_,?_⟩
  ·rw [List.length_cons,List.length_append,h1.length,zdX hf,(hdv w1).length];exact hn
  ·exact .cons (.ref hmu) (((h1.up F2).up (zcz _)).append (hdv _))
  cases hg:G (.ref S1.length::(ds++dds)) (S1++[⟨c,[]⟩]) with
  | bad=>rw [hg] at q;exact q
  | exc c S2 =>
   rw [hg] at q;intro w2 W2 F3;obtain ⟨R3,F4⟩:=R2.leave W2 F3;exact q ((w1.addO x dx _ S1.length).back w2) R3 (F1.trans (F2.trans F4))
  | ok r S2 =>
   rw [hg] at q;intro v w2 W2 F3 r2
   cases r with
   | non =>
    obtain ⟨R3,F4⟩:=R2.leave W2 F3;refine ⟨by cases r2;rfl,q (.ref x) ((w1.addO x dx _ S1.length).back w2) R3 (F1.trans (F2.trans F4)) (.ref (F4.mu _ _ hmu))⟩
   | _=>exact q.elim
end
end S2
namespace L2
open PySem PySem.Spec PyProof.Rows
section
variable{X:Cx}
def zmQ(ns:List Int):Nat:=argBest (fun i j=>decide (ns.getD i 0<ns.getD j 0)) (ns.length-1)
def zfh(ns:List Int):Int:=ns.getD (zmQ ns) 0
theorem zlp(bt:Nat->Nat->Bool):∀k,argBest bt k<=k
 | 0=>Nat.le_refl _
 | k+1=>by
  unfold argBest;split
  ·exact Nat.le_refl _
  ·exact Nat.le_succ_of_le (zlp bt k)
theorem zlj(hc:X.calm=true):zd1 X (.builtin "min") (fun xs H Q=>∃(p:Addr) (ns:List Int),xs=[.ref p]/\SqL X.K H p (ns.map V.int)/\ns≠[]/\Q (.int (zfh ns)) H):=by
 intro pins s σ H xs us Q I r h;obtain ⟨p,ns,rfl,hq,hne,q⟩:=h;obtain ⟨u,rfl,rx⟩:=zgs r;cases rx;obtain ⟨its,rv,pl,hz⟩:=I.list hq;have hl:=pl.isList
 have hlt:p<s.heap.objs.size:=by obtain ⟨_,e,_⟩:=hl;exact Heap.lt_size e
 have hn:its.length=ns.length:=by have:=rv.length;rw [List.length_map] at this;exact this.symm
 have hpos:0<ns.length:=List.length_pos_iff.mpr hne
 have at_:∀(i:Nat) (v:Value),its[i]?=some v->i<ns.length/\∃t,v=.int (ns.getD i 0) t:=by
  intro i v hv
  have hi:i<ns.length:=by rw [<-hn];exact (List.getElem?_eq_some_iff.mp hv).1
  obtain ⟨u,hu,ru⟩:=rv.get (i:=i) (x:=.int ns[i]) (by rw [List.getElem?_map,List.getElem?_eq_getElem hi];rfl);rw [hv] at hu;cases hu;obtain ⟨t,rfl⟩:=ru;exact ⟨hi,t,by simp [List.getD,hi]⟩
 refine call_min_walk (wpAny_pyIter_list hl ?_);refine ⟨s.heap.objs.size,[s.heap.objs.size,p],[s.heap.objs.size],its.toArray.size,_,_,fun i j=>decide (ns.getD i 0<ns.getD j 0),rfl,Walks.list (A:=X.A.in1) (I.ok.hd hc) _ p (Nat.ne_of_lt hlt) its.toArray,⟨⟨_,Heap.get?_push_size _ rfl,rfl,rfl⟩,hl.push _⟩,fun b hm=>?_,by rw [List.size_toArray,hn];exact hpos,CmpOf.ints_lt (fun i=>ns.getD i 0) (fun i v hP=>?_),fun v h' tk hP hk=>?_⟩
 ·show b<(s.heap.push _).objs.size;rw [Heap.size_push];simp only [List.mem_cons,List.not_mem_nil,or_false] at hm
  rcases hm with z | z
  ·rw [z];exact Nat.lt_succ_self _
  ·rw [z];exact Nat.lt_succ_of_lt hlt
 ·have hv:its[i]?=some v:=by simpa using hP
  exact (at_ i v hv).2
 ·rw [List.size_toArray,hn] at hP
  have hv:its[zmQ ns]?=some v:=by simpa [zmQ] using hP
  obtain ⟨_,t,rfl⟩:=at_ _ _ hv;refine ⟨.int (zfh ns),H,I.kept (t':=tk) fun b o e=>?_,⟨t,rfl⟩,q⟩;exact hk b o (fun hm=>by rw [List.mem_singleton.mp hm] at e;exact Nat.lt_irrefl _ (Heap.lt_size e)) (Heap.get?_push_of_some _ e)
end
end L2
namespace S2
open PySem PySem.Spec PyProof.Rows L2
def zse:Operator->Option (Int->Int->Int) | .Add=>some (·+·) | .Sub=>some (· - ·) | _=>none
def zqf(i:Nat)(g:Int->Int->Int)(fe:Fe):Fs:=fun ρ S=>match ρ[i]? with
 | some (some (false,.int a))=>(match fe ρ S with
  | .ok (.int b) S1=>.nx (ρ.set i (some (false,.int (g a b)))) S1
  | .ok _ _=>.bad
  | .exc c S1=>.ex c ρ S1
  | .bad=>.bad)
 | _=>.bad
def lrD:D->Option D | .int n=>if decide (0<=n/\n<=1000) then some (.lst ((List.range n.toNat).map fun (i:Nat)=>D.int (i:Int))) else none | _=>none
section
variable{cl:Cf}{X:Cx}{E:St->XK}{e:Expr}{fe f:Fe}{pos:Pos}{own:Bool}
theorem zpS{i:Nat}{x:Str}{op:Operator}{g:Int->Int->Int}{p:Pos}(hop:zse op=some g)(hN:X.N.Nodup)(hi:X.N[i]?=some x)(hx:Loc X.env.scope x)(he:PE X e (tE cl E fe))(hf:X.fn x=true\/X.env.scope.names.lookup x=some .local):PS X (.AugAssign (.Name x p) op e pos) (tS cl E own (zqf i g fe)):=by
 have main:∀ti:TIp,PIp X op ti->(∀a b H Q,Q (.int (g a b)) H->ti (.int a) (.int b) H Q)->PS X (.AugAssign (.Name x p) op e pos) (tS cl E own (zqf i g fe)):=by
  intro ti ho hti;refine PS.imp (zqs hN hi hx he ho hf) ?_;rintro De σ H ⟨B,w,ρ,S,rfl,R,q⟩;unfold zqf at q;split at q
  ·rename_i a ha;obtain ⟨v,ev,rv⟩:=R.slots i false _ ha;have rv':Shd cl w v (.int a):=rv;cases rv';refine ⟨_,ev,B,w,ρ,S,rfl,R,?_⟩
   cases hfe:fe ρ S with
   | bad=>rw [hfe] at q;exact q
   | exc c S1=>rw [hfe] at q;exact fun w' R' F'=>q σ w' R' F'
   | ok d S1 =>
    rw [hfe] at q;intro y w1 R1 F1 h1
    cases d with
    | int b =>
     cases h1;exact hti a b _ _ (q _ w1 (R1.put (.int _)) F1)
    | _=>exact q.elim
  ·exact q.elim
 cases op<;>simp [zse] at hop<;>subst hop
 ·exact main zuR zrp fun a b H Q q=>⟨a,b,rfl,rfl,q⟩
 ·exact main zuQ zro fun a b H Q q=>⟨a,b,rfl,rfl,q⟩
theorem zg5{w:Wd}:∀l:List Nat,Shds cl w (l.map fun (i:Nat)=>V.int (i:Int)) (l.map fun (i:Nat)=>D.int (i:Int))
 | []=>.nil
 | a::l=>.cons (.int _) (zg5 l)
theorem zjv:bootBuiltins "list" = some (.type "list"):=by decide +kernel
theorem zsQ{p p2 pos2:Pos}(hc:X.calm=true)(hg:Gl X "list")(hm:X.mg "list" = none)(hg2:Gl X "range")(hm2:X.mg "range" = none)(he:PE X e (tE cl E f))(hs:starEach [e] X.env=[(false,eval e X.env)]) :
  PE X (.Call (.Name "list" p) [.Call (.Name "range" p2) [e] [] pos2] [] pos) (tN cl E (eUn lrD f)):=by
 refine PE.imp (zeR (zgl hc) hg hm zjv (zc6 (zqy hg2 hm2 (zdw he zgC hs) hs) zfv)) ?_;rintro σ H Q ⟨B,w,ρ,S,rfl,R,q⟩;refine ⟨B,w,ρ,S,rfl,R,?_⟩;unfold eUn at q
 cases hf:f ρ S with
 | bad=>rw [hf] at q;exact q.elim
 | exc c S1=>rw [hf] at q;simp only [zaq,hf,Out.bind];exact q
 | ok d S1 =>
  rw [hf] at q;simp only [zaq,hf,Out.bind];intro vs w1 R1 F1 sh;dsimp only [Out.bind] at q
  cases hl:lrD d with
  | none=>rw [hl] at q;exact q.elim
  | some r =>
   rw [hl] at q;unfold lrD at hl;split at hl
   ·rename_i n;split at hl
    ·rename_i hz;cases hl;have hz':=of_decide_eq_true hz
     cases sh with
     | cons h1 hn =>
      cases hn;cases h1;refine ⟨n,rfl,hz'.1,hz'.2,fun pr hpr=>⟨pr,n.toNat,rfl,?_,by omega,fun l hl=>?_⟩⟩
      ·rw [show ((n.toNat:Nat):Int)=n by omega];exact zaQ
      ·exact q l _ (w1.add pr (.rng 0 n)) (R1.grow (zaL hpr _)) (F1.trans (zaL hpr _).fut) hl (.lst (zg5 _))
    ·cases hl
   ·cases hl
theorem zmd:OpR X (compareOp .Is) (fun x y H Q=>∃i j,x=.bl i/\y=.bl j/\Q (.bl (decide (i=j))) H):=by
 intro pins s σ H x y v u Q I rx ry h;obtain ⟨i,j,rfl,rfl,q⟩:=h;cases rx;cases ry;refine wpAny_is_plain (by rfl) ?_;refine ⟨.bl (decide (i=j)),H,I,?_,q⟩;show _=Value.bool _;congr 1
 cases i<;>cases j<;>rfl
def zr9:D->D->Option D | .bl a,.bl b=>some (.bl (decide (a=b))) | _,_=>none
theorem zqW:OpD X cl (compareOp .Is) zr9:=by
 intro pins s σ H x y v u Q I rx ry h;obtain ⟨w,d,e,r,rfl,hx,hy,hg,q⟩:=h;unfold zr9 at hg;split at hg
 ·cases hg;obtain rfl:=hx.blI;obtain rfl:=hy.blI;exact zmd pins s σ w.H _ _ v u Q I rx ry ⟨_,_,rfl,rfl,q _ w (Grow.refl _) (.bl _)⟩
 ·cases hg
def zjd:List D->Option D
 | [.lst l]=>(zbL l).bind fun ns=>if ns.isEmpty then none else some (.int (zfh ns))
 | ds=>zr2 ds
theorem zo6(hc:X.calm=true):zhm X cl (.builtin "min") zjd:=by
 intro pins s σ H xs us Q I r h;obtain ⟨w,ds,d,rfl,hx,hg,q⟩:=h;unfold zjd at hg;split at hg
 ·rename_i l
  cases hi:zbL l with
  | none=>rw [hi] at hg;cases hg
  | some ns =>
   rw [hi] at hg;have hg':(if ns.isEmpty then none else some (D.int (zfh ns)))=some d:=hg;split at hg'
   ·cases hg'
   ·rename_i hne;cases hg'
    cases hx with
    | cons h1 h2 =>
     cases h2;obtain ⟨p,ys,rfl,ep,rs⟩:=h1.lstI;obtain rfl:=zg4 rs hi;exact zlj hc pins s σ w.H _ us Q I r ⟨p,ns,rfl,SqL.of ep,fun z=>hne (by rw [z];rfl),q _ w (Grow.refl _) (.int _)⟩
 ·exact zrD hc pins s σ w.H xs us Q I r ⟨w,_,d,rfl,hx,hg,q⟩
end
end S2
namespace S2
open PySem PySem.Spec PyProof.Rows L2
structure FnI where
 ar:Nat
 own:Bool
 run:List D->Sto->Out D
structure ObE where
 cur:Str
 fk:Str->Str->Bool
 df:Str->Bool
 mt:Str->Option (Str×FnI)
 mks:Str->Option (List D×FnI)
structure Genv where
 con:Str->Option D
 fn:Str->Option FnI
 blt:Str->Bool
 exc:Str->Bool
 und:Str->Str->Bool
 isx:Str->Str->Option Bool
 ob:ObE
abbrev bmV:List Value:=[.type "ValueError",.type "Exception",.type "BaseException",.type "object"]
structure GOk(cl:Cf)(G:Genv)(P:Program)(wo:PySem.World)(K:PySem.W.Frag)(mg:Z6)(base:Heap)(k:Nat):Prop where
 con:∀x d,G.con x=some d->∃v u,mg x=some u/\zbt v u/\∀w,Shd cl w v d
 fn:∀x fi,G.fn x=some fi->∃f fd ps,mg x=some (.ref f)/\PySem.W.keepIn K (.ref f)=true/\zbJ K fd ps []/\FnOk P wo K mg base (CXE P wo) k f fd ps (zgz cl fi.ar fi.own fi.run)
 blt:∀x,G.blt x=true->mg x=none
 exc:∀c,G.exc c=true->mg c=some (.ref (cl c))/\PySem.W.excIn K (cl c) bmV "ValueError.__new__" = true
 und:∀c C,G.und c C=true->L2.zpj K (cl c) (cl C)
 isx:∀c C b,G.isx c C=some b->PySem.W.ExcCls K (cl c)/\PySem.W.kitOne K (.ref (cl c)) (zvW cl C)=some b
 fk:∀c f,G.ob.fk c f=true->zlA cl c f
 mt:∀m c fi,G.ob.mt m=some (c,fi)->∃f fd ps,Cls K (cl c)/\Meth K (cl c) m f/\zbJ K fd ps []/\FnOk P wo K mg base (CXE P wo) k f fd ps (zgz cl fi.ar fi.own fi.run)
 mks:∀c dds fi,G.ob.mks c=some (dds,fi)->∃f fd ps dvs ds k',k'+1<=k/\mg c=some (.ref (cl c))/\Mk K (cl c) f/\zbJ K fd ps []/\zbJ K fd ps ds/\Vals dvs ds/\(∀w,Shds cl w dvs dds)/\FnOk P wo K mg base (CXE P wo) k' f fd ps (zgz cl fi.ar false fi.run)
abbrev Names:=List (Str×NameKind)
structure Gx(cl:Cf)(G:Genv)(k:Nat)(X:Cx)(nm:Names)(N:List Str)(E:St->XK):Prop where
 gok:GOk cl G X.prog X.w X.K X.mg X.base k
 room:Room k X.A
 calm:X.calm=true
 pass:zdf (CXE X.prog X.w) X E
 eN:X.N=N
 kk:X.K=cl.K
 pp:X.prog=cl.P
 ww:X.w=cl.wo
 nd:N.Nodup
 vis:∀x kd,nm.lookup x=some kd->∃kd',X.env.scope.names.lookup x=some kd'/\(kd'=kd\/(kd=.free/\kd'=.cell))
 fnx:∀x,nm.lookup x=some .local->X.env.scope.names.lookup x=some .local
def idx:List Str->Str->Option Nat
 | [],_=>none
 | y::l,x=>if y=x then some 0 else (idx l x).map (·+1)
theorem zgd:∀{N:List Str} {x:Str} {i:Nat},idx N x=some i->N[i]?=some x
 | y::l,x,i,h=>by
  unfold idx at h;split at h
  ·rename_i e;cases h;rw [e];rfl
  ·cases hr:idx l x with
   | none=>rw [hr] at h;cases h
   | some j=>rw [hr] at h;cases h;simpa using zgd hr
def zir(x:Str):Bool:=!(x == ("__debug__":Str))&&!(x == ("__classdict__":Str))&&!decide (x = "__name__")
theorem zgV{x:Str}(h:zir x=true):(x == ("__debug__":Str))=false/\(x == ("__classdict__":Str))=false/\x ≠ "__name__":=by
 unfold zir at h;simp only [Bool.and_eq_true,Bool.not_eq_true',decide_eq_false_iff_not] at h;exact ⟨h.1.1,h.1.2,h.2⟩
def ztu:Option NameKind->Bool | some .local=>true | some .cell=>true | some .free=>true | _=>false
def zdr(nm:Names)(N:List Str)(x:Str):Option Nat:=if ztu (nm.lookup x)&&zir x then idx N x else none
def zc2(nm:Names)(x:Str):Bool:=decide (nm.lookup x=some .globalImplicit)&&zir x
section
variable{cl:Cf}{G:Genv}{k:Nat}{X:Cx}{nm:Names}{N:List Str}{E:St->XK}
theorem Gx.slot(g:Gx cl G k X nm N E){x:Str}{i:Nat}(h:zdr nm N x=some i):X.N[i]?=some x/\Vis X.env.scope x/\(x == ("__debug__":Str))=false/\(x == ("__classdict__":Str))=false:=by
 unfold zdr at h;split at h
 ·rename_i hv;rw [Bool.and_eq_true] at hv;obtain ⟨h1,h2,_⟩:=zgV hv.2;refine ⟨by rw [g.eN];exact zgd h,?_,h1,h2⟩
  cases hk:nm.lookup x with
  | none=>rw [hk] at hv;exact absurd hv.1 (by decide)
  | some kd =>
   obtain ⟨kd',e,z⟩:=g.vis x kd hk;rw [hk] at hv;unfold Vis;rw [e]
   rcases z with rfl | ⟨_,rfl⟩
   ·cases kd'<;>first | exact .inl rfl | exact .inr (.inl rfl) | exact .inr (.inr rfl) | exact absurd hv.1 (by decide)
   ·exact .inr (.inl rfl)
 ·cases h
theorem Gx.glob(g:Gx cl G k X nm N E){x:Str}(h:zc2 nm x=true):Gl X x/\(x == ("__debug__":Str))=false/\x ≠ "__name__":=by
 unfold zc2 at h;rw [Bool.and_eq_true] at h;obtain ⟨h1,_,h3⟩:=zgV h.2;obtain ⟨kd',e,z⟩:=g.vis x _ (of_decide_eq_true h.1)
 rcases z with rfl | ⟨z,_⟩
 ·exact ⟨e,h1,h3⟩
 ·cases z
end
abbrev Rec:=Names->List Str->Expr->Option (Bool×Fe)
def okE:Expr->Bool | .Starred _ _=>false | .Set _ _ _=>false | _=>true
theorem zaD{e:Expr}(h:okE e=true):zcJ e=true:=by cases e<;>first | rfl | cases h
theorem zeT{e:Expr}{op:CmpOp}(h:okE e=true):behindInMarks op e=false:=by cases e<;>first | rfl | cases h
theorem zf2{e:Expr}{env:PySem.Env}(h:okE e=true)(v:Value):foldedSetIterable e env v=pure v:=by cases e<;>first | rfl | cases h
def zb6:Expr->Bool | .IfExp _ _ _ _=>false | _=>true
def zbI(cl:Cf)(G:Genv)(k:Nat)(rc:Rec):Prop:=∀(X:Cx) (nm:Names) (N:List Str) (E:St->XK),Gx cl G k X nm N E->∀(e:Expr) (o:Bool) (f:Fe),rc nm N e=some (o,f) →
 (o=true->PE X e (tN cl E f))/\PE X e (tE cl E f)/\(zb6 e=true->PT X e (tTr cl E f))/\okE e=true
def shE(rc:Rec)(nm:Names)(N:List Str)(e:Expr):Option Fe:=(rc nm N e).map (·.2)
def opE(rc:Rec)(nm:Names)(N:List Str)(e:Expr):Option Fe:=match e with
 | .Name x _=>(match zdr nm N x with | some i=>some (zax i) | none=>shE rc nm N e)
 | _=>shE rc nm N e
def shL(rc:Rec)(nm:Names)(N:List Str):List Expr->Option (List Fe)
 | []=>some []
 | e::es=>(shE rc nm N e).bind fun f=>(shL rc nm N es).bind fun fs=>some (f::fs)
def opL(rc:Rec)(nm:Names)(N:List Str):List Expr->Option (List Fe)
 | []=>some []
 | e::es=>(opE rc nm N e).bind fun f=>(opL rc nm N es).bind fun fs=>some (f::fs)
section
variable{cl:Cf}{G:Genv}{k:Nat}{rc:Rec}{X:Cx}{nm:Names}{N:List Str}{E:St->XK}
theorem za6(hs:zbI cl G k rc)(g:Gx cl G k X nm N E){e:Expr}{f:Fe}(h:shE rc nm N e=some f):PE X e (tE cl E f)/\(zb6 e=true->PT X e (tTr cl E f))/\okE e=true:=by
 unfold shE at h
 cases hr:rc nm N e with
 | none=>rw [hr] at h;cases h
 | some p =>
  obtain ⟨o,f'⟩:=p;rw [hr] at h;cases h;obtain ⟨_,h2,h3,h4⟩:=hs X nm N E g e o _ hr;exact ⟨h2,h3,h4⟩
theorem zcT(hs:zbI cl G k rc)(g:Gx cl G k X nm N E){e:Expr}{f:Fe}(h:opE rc nm N e=some f):PE X e (tH cl E f)/\okE e=true:=by
 unfold opE at h;split at h
 ·rename_i x pos;split at h
  ·rename_i i hi;cases h;obtain ⟨h1,h2,h3,h4⟩:=g.slot hi;exact ⟨zqc h1 h2 h3 h4,rfl⟩
  ·obtain ⟨h1,_,h3⟩:=za6 hs g h;exact ⟨zj3 h1,h3⟩
 ·obtain ⟨h1,_,h3⟩:=za6 hs g h;exact ⟨zj3 h1,h3⟩
theorem zeG(hs:zbI cl G k rc)(g:Gx cl G k X nm N E):∀{es:List Expr} {fs:List Fe},shL rc nm N es=some fs->PA X es (tAs cl E fs)/\es.all zcJ=true/\fs.length=es.length
 | [],fs,h=>by cases h;exact ⟨zgC,rfl,rfl⟩
 | e::es,fs,h=>by
  unfold shL at h
  cases h1:shE rc nm N e with
  | none=>rw [h1] at h;cases h
  | some f =>
   rw [h1] at h
   cases h2:shL rc nm N es with
   | none=>rw [h2] at h;cases h
   | some fs' =>
    rw [h2] at h;cases h;obtain ⟨a1,_,a3⟩:=za6 hs g h1;obtain ⟨b1,b2,b3⟩:=zeG hs g h2;exact ⟨zdw a1 b1 (zcc (zaD a3)),by rw [List.all_cons,zaD a3,b2];rfl,by rw [List.length_cons,List.length_cons,b3]⟩
theorem zm6(hs:zbI cl G k rc)(g:Gx cl G k X nm N E):∀{es:List Expr} {fs:List Fe},opL rc nm N es=some fs->PA X es (tHs cl E fs)/\es.all zcJ=true/\fs.length=es.length
 | [],fs,h=>by cases h;exact ⟨zp0,rfl,rfl⟩
 | e::es,fs,h=>by
  unfold opL at h
  cases h1:opE rc nm N e with
  | none=>rw [h1] at h;cases h
  | some f =>
   rw [h1] at h
   cases h2:opL rc nm N es with
   | none=>rw [h2] at h;cases h
   | some fs' =>
    rw [h2] at h;cases h;obtain ⟨a1,a3⟩:=zcT hs g h1;obtain ⟨b1,b2,b3⟩:=zm6 hs g h2;exact ⟨znT a1 b1 (zcc (zaD a3)),by rw [List.all_cons,zaD a3,b2];rfl,by rw [List.length_cons,List.length_cons,b3]⟩
end
def zvV:Const->Option D
 | .int i=>some (.int i)
 | .bool b=>some (.bl b)
 | .none=>some .non
 | .str x=>some (.str x)
 | _=>none
def ztK:Operator->Option (D->D->Option D)
 | .Add=>some zer | .Sub=>some zrY | .Mult=>some zfy | .Mod=>some zkz | .FloorDiv=>some zrx | _=>none
def zkV:Expr->Bool | .Constant .none _ _=>true | _=>false
def zkW:Expr->Bool | .Constant (.bool _) _ _=>true | _=>false
def ltD:=zpo fun i j=>decide (i<j)
def leD:=zpo fun i j=>decide (i<=j)
def gtD:=zpo fun i j=>decide (j<i)
def geD:=zpo fun i j=>decide (j<=i)
def zrB:CmpOp->Expr->Option (D->D->Option D)
 | .Eq,_=>some eqD | .NotEq,_=>some neD | .Lt,_=>some ltD | .LtE,_=>some leD | .Gt,_=>some gtD | .GtE,_=>some geD | .In,_=>some inD | .NotIn,_=>some zq2
 | .Is,b=>if zkV b then some zne else if zkW b then some zr9 else none
 | .IsNot,b=>if zkV b then some zhB else if zkW b then some zkv else none
def zjw(rc:Rec)(nm:Names)(N:List Str)(op:BoolOp):List Expr->Option Fe
 | []=>none
 | [a]=>if zb6 a then shE rc nm N a else none
 | a::b::r=>if zb6 a then (shE rc nm N a).bind fun f=>(zjw rc nm N op (b::r)).bind fun h=>some (match op with | .And=>ziM f h | .Or=>eOr f h) else none
structure BI where
 g:List D->Option D
 nw:Bool
def zlo(x:Str):Option BI :=
 if x = "len" then some ⟨zew,false⟩
 else if x = "all" then some ⟨znv,false⟩
 else if x = "sum" then some ⟨zlJ,false⟩
 else if x = "tuple" then some ⟨zdK,false⟩
 else if x = "list" then some ⟨zkI,true⟩
 else if x = "min" then some ⟨zjd,false⟩
 else none
def zpx(x:Str):Option String:=if x = "int" then some "int" else if x = "bool" then some "bool" else if x = "tuple" then some "tuple" else if x = "str" then some "str" else if x = "list" then some "list" else none
def zo9(G:Genv)(rc:Rec)(nm:Names)(N:List Str)(x:Str)(args:List Expr):Option (Bool×Fe) :=
 if zc2 nm x then
  match G.fn x with
  | some fi=>if args.length=fi.ar then (shL rc nm N args).bind fun fs=>some (fi.own,eFn fi.run fs) else none
  | none=>if G.blt x then
    (if x = "isinstance" then (match args with
     | [a,.Name t _]=>if zc2 nm t&&G.blt t&&(zpx t).isSome then (zpx t).bind fun T=>(opE rc nm N a).bind fun f=>some (false,eUn (zes T) f)
      else none
     | _=>none)
    else match args with
     | []=>none
     | _::_=>(zlo x).bind fun bi=>(opL rc nm N args).bind fun fs=>some (bi.nw,zaW bi.g fs)) else none
 else none
def zrl:Expr->Bool | .Tuple _ _ _=>true | _=>false
def zjk(G:Genv)(rc:Rec)(nm:Names)(N:List Str)(tg e:Expr):Option Fi:=match e with
 | .Call (.Name x p) args [] pos=>if x = "range" then (if zc2 nm x&&G.blt x then (match args with
   | [a]=>(shE rc nm N a).bind fun f=>some (zfn f)
   | [a,b]=>(shE rc nm N a).bind fun f=>(shE rc nm N b).bind fun h=>some (zk8 f h)
   | _=>none) else none)
  else if x = "zip" then (if zc2 nm x&&G.blt x&&zrl tg then (match args with
   | [a,b]=>(shE rc nm N a).bind fun f=>(shE rc nm N b).bind fun h=>some (zpn f h)
   | _=>none) else none)
  else (shE rc nm N e).map zaV
 | _=>(shE rc nm N e).map zaV
def zsN:Expr->Option (Str×Expr×Pos×Pos) | .Call (.Name y p) [a] [] q=>some (y,a,p,q) | _=>none
def spA:List Expr->Option (Str×Expr×Pos×Pos) | [e]=>zsN e | _=>none
theorem zpV{args:List Expr}{c:Str×Expr×Pos×Pos}(h:spA args=some c):args=[.Call (.Name c.1 c.2.2.1) [c.2.1] [] c.2.2.2]:=by
 match args,h with
 | [e],h =>
  have h':zsN e=some c:=h;unfold zsN at h';split at h'
  ·cases h';rfl
  ·cases h'
def spG(G:Genv)(rc:Rec)(nm:Names)(N:List Str)(x:Str)(args:List Expr):Option (Bool×Fe):=(spA args).bind fun c =>
 if decide (x = "list")&&decide (c.1 = "range")&&zc2 nm "list" && G.blt "list" && zc2 nm "range" && G.blt "range" then (shE rc nm N c.2.1).map fun f=>(true,eUn lrD f)
 else none
section
variable{cl:Cf}{G:Genv}{k:Nat}{rc:Rec}{X:Cx}{nm:Names}{N:List Str}{E:St->XK}
theorem Gx.units(g:Gx cl G k X nm N E):X.A.units+64<cLine:=g.room.units
theorem znu{op:Operator}{gg:D->D->Option D}(h:ztK op=some gg):OpD X cl (binaryOp op) gg:=by
 cases op<;>simp [ztK] at h<;>subst h
 ·exact zqY
 ·exact zqR
 ·exact zqT
 ·exact zqU
 ·exact zqX
theorem zfN(g:Gx cl G k X nm N E){op:CmpOp}{b:Expr}{gg:D->D->Option D}(h:zrB op b=some gg):OpD X cl (compareOp op) gg:=by
 cases op<;>simp only [zrB] at h
 ·cases h;exact ztb g.kk g.units
 ·cases h;exact zs9 g.kk g.units
 ·cases h;exact zf4 zs5
 ·cases h;exact zf4 zs6
 ·cases h;exact zf4 zs7
 ·cases h;exact zf4 zs8
 ·split at h
  ·cases h;exact zqV
  ·split at h
   ·cases h;exact zqW
   ·cases h
 ·split at h
  ·cases h;exact zot
  ·split at h
   ·cases h;exact zou
   ·cases h
 ·cases h;exact zta g.kk g.units
 ·cases h;exact zqS g.kk g.units
theorem zln(hs:zbI cl G k rc)(g:Gx cl G k X nm N E){op:BoolOp}{pos:Pos}:∀{es:List Expr} {f:Fe},zjw rc nm N op es=some f->PE X (.BoolOp op es pos) (tE cl E f)/\PW X (.BoolOp op es pos) (tTr cl E f)
 | [],f,h=>by cases h
 | [a],f,h=>by
  unfold zjw at h;split at h
  ·rename_i ht;obtain ⟨h1,h2,_⟩:=za6 hs g h;refine ⟨zqA h1,?_⟩
   cases op with
   | And=>exact zn8 (h2 ht)
   | Or=>exact zqm (h2 ht)
  ·cases h
 | a::b::r,f,h=>by
  unfold zjw at h;split at h
  ·rename_i ht
   cases h1:shE rc nm N a with
   | none=>rw [h1] at h;cases h
   | some fa =>
    rw [h1] at h
    cases h2:zjw rc nm N op (b::r) with
    | none=>rw [h2] at h;cases h
    | some fb =>
     rw [h2] at h;obtain ⟨a1,a2,_⟩:=za6 hs g h1;obtain ⟨b1,b2⟩:=zln hs g (pos:=pos) h2
     cases op with
     | And=>cases h;exact ⟨zqd a1 b1,zpI (a2 ht) b2⟩
     | Or=>cases h;exact ⟨zsP a1 b1,zsH (a2 ht) b2⟩
  ·cases h
theorem zmO:bootBuiltins "all" = some (.builtin "all"):=by decide +kernel
theorem zfP:bootBuiltins "tuple" = some (.type "tuple"):=by decide +kernel
theorem zhf:bootBuiltins "list" = some (.type "list"):=by decide +kernel
theorem zmN:bootBuiltins "int" = some (.type "int"):=by decide +kernel
theorem zlm:bootBuiltins "bool" = some (.type "bool"):=by decide +kernel
theorem zsc:bootBuiltins "max" = some (.builtin "max"):=by decide +kernel
theorem zmM:bootBuiltins "min" = some (.builtin "min"):=by decide +kernel
theorem zsd:bootBuiltins "abs" = some (.builtin "abs"):=by decide +kernel
theorem zmL:bootBuiltins "str" = some (.type "str"):=by decide +kernel
theorem zrJ(g:Gx cl G k X nm N E){x:Str}{bi:BI}{e:Expr}{es:List Expr}{fs:List Fe}{p pos:Pos}(h:zlo x=some bi)(hg:zc2 nm x=true)(hb:G.blt x=true)(ha:PA X (e::es) (tHs cl E fs))(hp:(e::es).all zcJ=true) :
  (bi.nw=true->PE X (.Call (.Name x p) (e::es) [] pos) (tN cl E (zaW bi.g fs)))/\PE X (.Call (.Name x p) (e::es) [] pos) (tE cl E (zaW bi.g fs)):=by
 obtain ⟨g1,g2,g3⟩:=g.glob hg;have m:=g.gok.blt x hb;rw [List.all_cons,Bool.and_eq_true] at hp;have st:=zcc (es:=es) (env:=X.env) hp.1;have pl:=zbE (pos:=pos) (env:=X.env) hp.2
 have D1:∀{id:String} {gg:List D->Option D},zhm X cl (.builtin id) gg->bootBuiltins x=some (.builtin id)->PE X (.Call (.Name x p) (e::es) [] pos) (tE cl E (zaW gg fs)):=fun hc hv =>
  PE.imp (zio hc g1 m hv ha g3 g2 st pl) fun _ _ _ q=>zpE (fun _ _ _ z=>z) q
 have D2:∀{T:String} {gg:List D->Option D},zhm X cl (.type T) gg->bootBuiltins x=some (.type T)->PE X (.Call (.Name x p) (e::es) [] pos) (tE cl E (zaW gg fs)):=fun hc hv =>
  PE.imp (zeR hc g1 m hv ha g3 g2 st pl) fun _ _ _ q=>zpE (fun _ _ _ z=>z) q
 have N2:∀{T:String} {gg:List D->Option D},zrS X cl (.type T) gg->bootBuiltins x=some (.type T)->PE X (.Call (.Name x p) (e::es) [] pos) (tN cl E (zaW gg fs)):=fun hc hv =>
  PE.imp (zeR hc g1 m hv ha g3 g2 st pl) fun _ _ _ q=>zsF (fun _ _ _ z=>z) q
 unfold zlo at h;split at h
 ·rename_i e';cases h;exact ⟨(fun z=>absurd z (by decide)),D1 (zrE g.kk) (by rw [e'];exact PySem.boot_len)⟩
 split at h
 ·rename_i e';cases h;exact ⟨(fun z=>absurd z (by decide)),D1 (zrF g.calm) (by rw [e'];exact zmO)⟩
 split at h
 ·rename_i e';cases h;exact ⟨(fun z=>absurd z (by decide)),D1 (zrC g.calm) (by rw [e'];exact PyProof.Rows.boot_sum)⟩
 split at h
 ·rename_i e';cases h;exact ⟨(fun z=>absurd z (by decide)),D2 zmI (by rw [e'];exact zfP)⟩
 split at h
 ·rename_i e';cases h;have n:=N2 zo1 (by rw [e'];exact zhf);exact ⟨fun _=>n,zds n⟩
 split at h
 ·rename_i e';cases h;exact ⟨(fun z=>absurd z (by decide)),D1 (zo6 g.calm) (by rw [e'];exact zmM)⟩
 ·cases h
theorem zsv{t:Str}{T:String}(h:zpx t=some T):bootBuiltins t=some (.type T):=by
 unfold zpx at h;split at h
 ·rename_i e;cases h;rw [e];exact zmN
 split at h
 ·rename_i e;cases h;rw [e];exact zlm
 split at h
 ·rename_i e;cases h;rw [e];exact zfP
 split at h
 ·rename_i e;cases h;rw [e];exact zmL
 split at h
 ·rename_i e;cases h;rw [e];exact zhf
 ·cases h
theorem zo8(hs:zbI cl G k rc)(g:Gx cl G k X nm N E){x:Str}{args:List Expr}{o:Bool}{f:Fe}{p pos:Pos}(h:zo9 G rc nm N x args=some (o,f)) :
  (o=true->PE X (.Call (.Name x p) args [] pos) (tN cl E f))/\PE X (.Call (.Name x p) args [] pos) (tE cl E f):=by
 unfold zo9 at h;split at h
 ·rename_i hg;obtain ⟨g1,g2,g3⟩:=g.glob hg;split at h
  ·rename_i fi hfi;split at h
   ·rename_i hl;obtain ⟨fa,fd,ps,m1,m2,m3,m4⟩:=g.gok.fn x fi hfi
    cases h1:shL rc nm N args with
    | none=>rw [h1] at h;cases h
    | some fs =>
     rw [h1] at h;cases h;obtain ⟨a1,a2,a3⟩:=zeG hs g h1;have hlen:fs.length=fi.ar:=a3.trans hl
     have main:PE X (.Call (.Name x p) args [] pos) (zgx (zgz cl fi.ar fi.own fi.run) [] E (tAs cl E fs)):=by
      cases args with
      | nil =>
       cases h1;refine PE.imp (zko m4 g.room g1 m1 m2 m3 .nil g.pass g2) ?_;rintro σ H Q ⟨B,w,ρ,S,rfl,R,q⟩;exact q [] w R (Fut.refl _) .nil
      | cons e es =>
       rw [List.all_cons,Bool.and_eq_true] at a2;exact zl8 m4 g.room g1 m1 m2 m3 .nil g.pass a1 g2 (zcc a2.1) (zbE a2.2)
     cases ho:fi.own with
     | false =>
      rw [ho] at main;exact ⟨(fun z=>by cases z),PE.imp main fun _ _ _ q=>zrI q hlen⟩
     | true =>
      rw [ho] at main;have n:PE X (.Call (.Name x p) args [] pos) (tN cl E (eFn fi.run fs)):=PE.imp main fun _ _ _ q=>zrH q hlen
      exact ⟨fun _=>n,zds n⟩
   ·cases h
  ·split at h
   ·rename_i hb;split at h
    ·rename_i hx;subst hx;split at h
     ·rename_i a t p2;split at h
      ·rename_i ht;rw [Bool.and_eq_true,Bool.and_eq_true] at ht;replace ht:=ht.1
       cases hT:zpx t with
       | none=>rw [hT] at h;cases h
       | some T =>
        rw [hT] at h
        cases h1:opE rc nm N a with
        | none=>rw [h1] at h;cases h
        | some fa =>
         rw [h1] at h;cases h;obtain ⟨t1,t2,t3⟩:=g.glob ht.1;obtain ⟨a1,a2⟩:=zcT hs g h1;exact ⟨(fun z=>by cases z),znY g1 (g.gok.blt _ hb) t1 (g.gok.blt _ ht.2) (zsv hT) t3 t2 (zaD a2) a1⟩
      ·cases h
     ·cases h
    ·split at h
     ·cases h
     ·rename_i e es
      cases h2:zlo x with
      | none=>rw [h2] at h;cases h
      | some bi =>
       rw [h2] at h
       cases h1:opL rc nm N (e::es) with
       | none=>rw [h1] at h;cases h
       | some fs =>
        rw [h1] at h;cases h;obtain ⟨a1,a2,_⟩:=zm6 hs g h1;exact zrJ g h2 hg hb a1 a2
   ·cases h
 ·cases h
theorem zkT(hs:zbI cl G k rc)(g:Gx cl G k X nm N E){e tg:Expr}{fi:Fi}(h:zjk G rc nm N tg e=some fi):PI X tg e (tI cl E fi)/\okE e=true:=by
 have gen:∀{e:Expr},(shE rc nm N e).map zaV=some fi->PI X tg e (tI cl E fi)/\okE e=true:=fun {e} h=>by
  cases h1:shE rc nm N e with
  | none=>rw [h1] at h;cases h
  | some f =>
   rw [h1] at h;cases h;obtain ⟨a1,_,a3⟩:=za6 hs g h1;exact ⟨zpZ g.kk a1,a3⟩
 unfold zjk at h;split at h
 ·rename_i x p args pos;split at h
  ·rename_i hx;subst hx;split at h
   ·rename_i hb;rw [Bool.and_eq_true] at hb;obtain ⟨g1,_,_⟩:=g.glob hb.1;have m:=g.gok.blt _ hb.2;split at h
    ·rename_i a
     cases h1:shE rc nm N a with
     | none=>rw [h1] at h;cases h
     | some f =>
      rw [h1] at h;cases h;obtain ⟨a1,_,a3⟩:=za6 hs g h1;exact ⟨znS g1 m (zdw a1 zgC (zcc (zaD a3))) (zcc (zaD a3)),rfl⟩
    ·rename_i a b
     cases h1:shE rc nm N a with
     | none=>rw [h1] at h;cases h
     | some f =>
      rw [h1] at h
      cases h2:shE rc nm N b with
      | none=>rw [h2] at h;cases h
      | some f2 =>
       rw [h2] at h;cases h;obtain ⟨a1,_,a3⟩:=za6 hs g h1;obtain ⟨b1,_,b3⟩:=za6 hs g h2;have s1:=zcc (es:=[b]) (env:=X.env) (zaD a3);have s2:=zcc (es:=[]) (env:=X.env) (zaD b3);exact ⟨znR g1 m (zdw a1 (zdw b1 zgC s2) s1) (by rw [s1,s2];rfl) s2,rfl⟩
    ·cases h
   ·cases h
  split at h
  ·rename_i hx;subst hx;split at h
   ·rename_i hb;rw [Bool.and_eq_true,Bool.and_eq_true] at hb;obtain ⟨g1,_,_⟩:=g.glob hb.1.1;have m:=g.gok.blt _ hb.1.2;split at h
    ·rename_i a b
     cases h1:shE rc nm N a with
     | none=>rw [h1] at h;cases h
     | some f =>
      rw [h1] at h
      cases h2:shE rc nm N b with
      | none=>rw [h2] at h;cases h
      | some f2 =>
       rw [h2] at h;cases h;obtain ⟨a1,_,a3⟩:=za6 hs g h1;obtain ⟨b1,_,b3⟩:=za6 hs g h2;have s1:=zcc (es:=[b]) (env:=X.env) (zaD a3);have s2:=zcc (es:=[]) (env:=X.env) (zaD b3)
       cases tg with
       | Tuple es kk tp=>exact ⟨zpX g1 m (zdw a1 (zdw b1 zgC s2) s1) s1 (zbE (by simp [zaD b3])),rfl⟩
       | _=>cases hb.2
    ·cases h
   ·cases h
  ·exact gen h
 ·exact gen h
theorem zsM(hs:zbI cl G k rc)(g:Gx cl G k X nm N E){x:Str}{args:List Expr}{p pos:Pos}{o:Bool}{f:Fe}(h:spG G rc nm N x args=some (o,f)):(o=true->PE X (.Call (.Name x p) args [] pos) (tN cl E f))/\PE X (.Call (.Name x p) args [] pos) (tE cl E f):=by
 unfold spG at h
 cases hc:spA args with
 | none=>rw [hc] at h;cases h
 | some c =>
 rw [hc] at h;obtain rfl:=zpV hc;obtain ⟨y,a,p2,pos2⟩:=c;dsimp only [Option.bind] at h ⊢;clear hc;split at h
 ·rename_i hb;simp only [Bool.and_eq_true,decide_eq_true_eq] at hb;obtain ⟨⟨⟨⟨⟨rfl,rfl⟩,b1⟩,b2⟩,b3⟩,b4⟩:=hb;obtain ⟨g1,_,_⟩:=g.glob b1;obtain ⟨g2,_,_⟩:=g.glob b3
  cases h1:shE rc nm N a with
  | none=>rw [h1] at h;cases h
  | some fa =>
   rw [h1] at h;cases h;obtain ⟨a1,_,a3⟩:=za6 hs g h1;have n:=zsQ (p:=p) (p2:=p2) (pos:=pos) (pos2:=pos2) g.calm g1 (g.gok.blt _ b2) g2 (g.gok.blt _ b4) a1 (zcc (zaD a3));exact ⟨fun _=>n,zds n⟩
 ·cases h
def zm0:Expr->Bool | .Name _ _=>true | .Call (.Name _ _) (_::_) _ _=>true | .Attribute (.Name _ _) _ _=>true | _=>false
def zoz(G:Genv)(rc:Rec)(nm:Names)(N:List Str)(o:Expr)(m:Str)(ap cp:Pos)(args:List Expr)(kws:List Keyword):Option (Bool×Fe) :=
 if kws.isEmpty&&zm0 o&&(ap.endLine == cp.line)&&decide (args.length<30) then (G.ob.mt m).bind fun c=>if args.length+1=c.2.ar then (shE rc nm N o).bind fun fo=>(shL rc nm N args).bind fun fs=>some (c.2.own,zbj c.1 m c.2.run fo fs) else none else none
def mkG(G:Genv)(rc:Rec)(nm:Names)(N:List Str)(x:Str)(args:List Expr):Option (Bool×Fe) :=
 if zc2 nm x&&!args.isEmpty then (G.ob.mks x).bind fun c=>(shL rc nm N args).bind fun fs =>
  if args.length+1=c.2.ar then some (false,eMk x [] c.2.run fs) else if args.length+c.1.length+1=c.2.ar then some (false,eMk x c.1 c.2.run fs) else none
 else none
def zf9:Expr->Bool | .Name _ _=>true | _=>false
def ztD(G:Genv)(rc:Rec)(nm:Names)(N:List Str)(o:Expr)(f:Str):Option (Bool×Fe):=if zf9 o&&!G.ob.df f&&G.ob.fk G.ob.cur f then (shE rc nm N o).map fun fo=>(false,zed G.ob.cur f fo) else none
def ztL:Expr->Option (Expr×Str×Pos) | .Attribute o m p=>some (o,m,p) | _=>none
theorem zls{e:Expr}{x:Expr×Str×Pos}(h:ztL e=some x):e=.Attribute x.1 x.2.1 x.2.2:=by cases e<;>first | (cases h;done) | (cases h;rfl)
def nmF:Expr->Option (Str×Pos) | .Name x p=>some (x,p) | _=>none
theorem zkx{e:Expr}{x:Str×Pos}(h:nmF e=some x):e=.Name x.1 x.2:=by cases e<;>first | (cases h;done) | (cases h;rfl)
def znf:List CmpOp->Bool | [.NotIn]=>true | _=>false
def zuT:List Expr->Option Expr | [a]=>some a | _=>none
def ztc(G:Genv)(rc:Rec)(nm:Names)(N:List Str)(a:Expr)(ops:List CmpOp)(bs:List Expr):Option (Bool×Fe) :=
 if znf ops then (zuT bs).bind fun b=>(ztL b).bind fun t=>if zf9 t.1&&G.ob.df t.2.1&&G.ob.fk G.ob.cur t.2.1 then (shE rc nm N a).bind fun fa=>(shE rc nm N t.1).bind fun fo=>some (false,zmA G.ob.cur t.2.1 fa fo) else none else none
def ztA(G:Genv)(rc:Rec)(nm:Names)(N:List Str)(a i:Expr):Option (Bool×Fe) :=
 (ztL a).bind fun t=>if zf9 t.1&&G.ob.df t.2.1&&G.ob.fk G.ob.cur t.2.1 then (nmF i).bind fun x=>(zdr nm N x.1).bind fun j=>(shE rc nm N t.1).bind fun fo=>some (false,zhP G.ob.cur t.2.1 fo j) else none
theorem Gx.same(g:Gx cl G k X nm N E):Same' cl X:=⟨g.kk,g.pp,g.ww⟩
theorem Gx.u16(g:Gx cl G k X nm N E):X.A.units+16<cLine:=Nat.lt_of_le_of_lt (Nat.add_le_add_left (by decide) _) g.units
theorem zaI{α β:Type}{o:Option α}{f:α->Option β}{b:β}(h:o.bind f=some b):∃a,o=some a/\f a=some b:=by
 cases o with
 | none=>cases h
 | some a=>exact ⟨a,rfl,h⟩
theorem zrt(hs:zbI cl G k rc)(g:Gx cl G k X nm N E){o:Expr}{f:Str}{pos:Pos}{w:Bool}{fe:Fe}(h:ztD G rc nm N o f=some (w,fe)):w=false/\PE X (.Attribute o f pos) (tE cl E fe):=by
 unfold ztD at h;split at h
 ·rename_i hc;rw [Bool.and_eq_true,Bool.and_eq_true] at hc
  cases h1:shE rc nm N o with
  | none=>rw [h1] at h;cases h
  | some fo =>
   rw [h1] at h;cases h;refine ⟨rfl,zqa (g.gok.fk _ _ hc.2) g.kk (za6 hs g h1).1 ?_⟩
   cases o<;>first | rfl | cases hc.1.1
 ·cases h
theorem zq0(hs:zbI cl G k rc)(g:Gx cl G k X nm N E){a:Expr}{ops:List CmpOp}{bs:List Expr}{pos:Pos}{w:Bool}{fe:Fe}(h:ztc G rc nm N a ops bs=some (w,fe)):w=false/\PE X (.Compare a ops bs pos) (tE cl E fe)/\PT X (.Compare a ops bs pos) (tTr cl E fe):=by
 unfold ztc at h;split at h
 ·rename_i hn
  have eo:ops=[.NotIn]:=by
   unfold znf at hn;split at hn
   ·rfl
   ·cases hn
  subst eo;obtain ⟨b,h1,hz⟩:=zaI h;obtain ⟨t,h2,hy⟩:=zaI hz
  have eb:bs=[b]:=by
   unfold zuT at h1;split at h1
   ·cases h1;rfl
   ·cases h1
  have e2:=zls h2;clear h hz h1 h2;subst eb;subst e2;obtain ⟨o,f,ap⟩:=t;dsimp only at hy ⊢;split at hy
  ·rename_i hc;rw [Bool.and_eq_true,Bool.and_eq_true] at hc;obtain ⟨fa,h3,hy⟩:=zaI hy;obtain ⟨fo,h4,hy⟩:=zaI hy;cases hy
   have hb:attributeBase o f X.env (eval o X.env)=eval o X.env:=by cases o<;>first | rfl | cases hc.1.1
   exact ⟨rfl,zp8 g.u16 g.same (g.gok.fk _ _ hc.2) (za6 hs g h3).1 (za6 hs g h4).1 hb rfl,zpM g.u16 g.same (g.gok.fk _ _ hc.2) (za6 hs g h3).1 (za6 hs g h4).1 hb rfl⟩
  ·cases hy
 ·cases h
theorem zrq(hs:zbI cl G k rc)(g:Gx cl G k X nm N E){a i:Expr}{pos:Pos}{w:Bool}{fe:Fe}(h:ztA G rc nm N a i=some (w,fe)):w=false/\PE X (.Subscript a i pos) (tE cl E fe):=by
 unfold ztA at h;obtain ⟨t,h2,hz⟩:=zaI h;have e2:=zls h2;clear h h2;subst e2;obtain ⟨o,f,ap⟩:=t;dsimp only at hz ⊢;split at hz
 ·rename_i hc;rw [Bool.and_eq_true,Bool.and_eq_true] at hc;obtain ⟨x,h3,hz⟩:=zaI hz;obtain ⟨j,h4,hz⟩:=zaI hz;obtain ⟨fo,h5,hz⟩:=zaI hz;cases hz;have e3:=zkx h3;clear h3;subst e3;obtain ⟨s1,s2,s3,s4⟩:=g.slot h4;refine ⟨rfl,znZ s1 s2 s3 s4 g.u16 g.same (g.gok.fk _ _ hc.2) (za6 hs g h5).1 ?_ (fun _ _=>rfl)⟩
  cases o<;>first | rfl | cases hc.1.1
 ·cases hz
theorem zxu{pos:Pos}{env:PySem.Env}{args:List Expr}(hp:args.all zcJ=true)(hl:args.length<30):methodCallForm (args.length+0) (backTo pos (starEach args env)) (backToKw pos (keywordEach [] env))=true:=by
 have h:=zbE (pos:=pos) (env:=env) hp;unfold methodCallForm
 have h1:(backTo pos (starEach args env)).all (!·.1)=true:=by
  rw [List.all_eq_not_any_not];simpa using h
 rw [h1];show (true&&true&&decide (args.length+0+0<30))=true;rw [decide_eq_true (by omega)];rfl
theorem zkC{o:Expr}{m:Str}{ap pos:Pos}{env:PySem.Env}{args:List Expr}(hb:attributeBase o m env (eval o env)=eval o env)(hf:methodCallForm (args.length+0) (backTo pos (starEach args env)) (backToKw pos (keywordEach [] env))=true)(hp:(ap.endLine == pos.line)=true) :
  eval (.Call (.Attribute o m ap) args [] pos) env=(do
   let ov ← eval o env
   standAt ap.atName
   let (f,first) ← holding [ov] (getMethod ov m (do return (← importBound o env).getD true))
   callWith pos f first (backTo pos (starEach args env)) (backToKw pos (keywordEach [] env))):=by
 show (do
  let ov ← attributeBase o m env (eval o env)
  standAt ap.atName
  methodCall o m ap pos env ov (args.length+0) (backTo pos (starEach args env)) (backToKw pos (keywordEach [] env)))=_
 rw [hb]
 have e:∀ov,methodCall o m ap pos env ov (args.length+0) (backTo pos (starEach args env)) (backToKw pos (keywordEach [] env))=(do
   let (f,first) ← holding [ov] (getMethod ov m (do return (← importBound o env).getD true))
   callWith pos f first (backTo pos (starEach args env)) (backToKw pos (keywordEach [] env))):=fun ov=>by
  unfold methodCall calleeOf methodCallPos;rw [hf,hp];rfl
 simp only [e]
theorem zoy(hs:zbI cl G k rc)(g:Gx cl G k X nm N E){o:Expr}{m:Str}{args:List Expr}{kws:List Keyword}{ap pos:Pos}{w:Bool}{fe:Fe}(h:zoz G rc nm N o m ap pos args kws=some (w,fe)):(w=true->PE X (.Call (.Attribute o m ap) args kws pos) (tN cl E fe))/\PE X (.Call (.Attribute o m ap) args kws pos) (tE cl E fe):=by
 unfold zoz at h;split at h
 ·rename_i hc;simp only [Bool.and_eq_true,decide_eq_true_eq] at hc;obtain ⟨⟨⟨z1,z2⟩,z3⟩,z4⟩:=hc;obtain rfl:=List.isEmpty_iff.mp z1;obtain ⟨⟨c,fi⟩,h1,h⟩:=zaI h;dsimp only at h;split at h
  ·rename_i hl;obtain ⟨fo,h2,h⟩:=zaI h;obtain ⟨fs,h3,h⟩:=zaI h;cases h;obtain ⟨f,fd,ps,c1,c2,c3,c4⟩:=g.gok.mt m c fi h1;obtain ⟨a1,a2,a3⟩:=zeG hs g h3
   have hlen:fs.length+1=fi.ar:=by rw [a3];exact hl
   have hb:attributeBase o m X.env (eval o X.env)=eval o X.env:=by
    unfold zm0 at z2
    split at z2<;>first | rfl | cases z2
   have ht:=zkC (ap:=ap) hb (zxu (pos:=pos) a2 z4) z3
   have main:PE X (.Call (.Attribute o m ap) args [] pos) (zgw (cl c) m (zgz cl fi.ar fi.own fi.run) [] E (tE cl E fo) (tAs cl E fs)):=by
    cases args with
    | nil =>
     cases h3;refine PE.imp (zkm (za6 hs g h2).1 c1 c2 c4 g.room c3 .nil g.pass ht) ?_;rintro σ H Q ⟨B,w,ρ,S,rfl,R,q⟩;refine ⟨B,w,ρ,S,rfl,R,?_⟩
     cases hfo:fo ρ S with
     | bad=>rw [hfo] at q;exact q
     | exc c S1=>rw [hfo] at q;exact q
     | ok d S1 =>
      rw [hfo] at q;intro v w1 R1 F1 sh;obtain ⟨a,dx,fs,e1,e2,e3,B',w',ρ',S',e4,R',q⟩:=q v w1 R1 F1 sh;refine ⟨a,dx,fs,e1,e2,e3,?_⟩;have:=q [] w' R' (Fut.refl _) .nil;rw [e4] at this;exact this
    | cons e es =>
     rw [List.all_cons,Bool.and_eq_true] at a2;exact zl4 (za6 hs g h2).1 c1 c2 c4 g.room c3 .nil g.pass a1 (zcc a2.1) (zbE a2.2) ht
   cases ho:fi.own with
   | false =>
    rw [ho] at main;exact ⟨(fun z=>by cases z),PE.imp main fun _ _ _ q=>zq5 q hlen⟩
   | true =>
    rw [ho] at main;have n:=PE.imp main fun _ _ _ q=>zq4 q hlen
    exact ⟨fun _=>n,zds n⟩
  ·cases h
 ·cases h
theorem ztd(hs:zbI cl G k rc)(g:Gx cl G k X nm N E){x:Str}{args:List Expr}{p pos:Pos}{w:Bool}{fe:Fe}(h:mkG G rc nm N x args=some (w,fe)):w=false/\PE X (.Call (.Name x p) args [] pos) (tE cl E fe):=by
 unfold mkG at h;split at h
 ·rename_i hc;rw [Bool.and_eq_true] at hc;obtain ⟨⟨dds,fi⟩,h1,h⟩:=zaI h;obtain ⟨fs,h2,h⟩:=zaI h;dsimp only at h;obtain ⟨f,fd,ps,dvs,ds,k',hk,mC,M,B0,BD,vd,sd,F⟩:=g.gok.mks x dds fi h1;obtain ⟨a1,a2,a3⟩:=zeG hs g h2;obtain ⟨g1,g2,g3⟩:=g.glob hc.1
  cases args with
  | nil=>cases hc.2
  | cons e es =>
   rw [List.all_cons,Bool.and_eq_true] at a2;have hr:Room (k'+1) X.A:=g.room.mono hk;split at h
   ·rename_i hl;cases h;exact ⟨rfl,PE.imp (zin M F hr g1 mC B0 .nil g.pass a1 g2 (zcc a2.1) (zbE a2.2)) fun _ _ _ q=>zuV (dds:=[]) (fun _=>.nil) q (by rw [a3];exact hl)⟩
   ·split at h
    ·rename_i hl;cases h;exact ⟨rfl,PE.imp (zin M F hr g1 mC BD vd g.pass a1 g2 (zcc a2.1) (zbE a2.2)) fun _ _ _ q=>zuV sd q (by rw [a3];exact hl)⟩
    ·cases h
 ·cases h
end
end S2
namespace S2
open PySem PySem.Spec PyProof.Rows L2
def zq3:Expr->Option Str | .Name x _=>some x | _=>none
def ztv(df:Bool):Option NameKind->Bool | some .local=>true | some .cell=>df | _=>false
def tgI(df:Bool)(nm:Names)(N:List Str)(n:Nat)(x:Str):Option Nat:=if ztv df (nm.lookup x) then (idx N x).bind fun i=>if i<n then some i else none else none
def zpl(df:Bool)(nm:Names)(N:List Str)(n:Nat):List Expr->Option (List Nat)
 | []=>some []
 | .Name x _::es=>(tgI df nm N n x).bind fun i=>(zpl df nm N n es).bind fun is=>some (i::is)
 | _::_=>none
def tgG(df:Bool)(nm:Names)(N:List Str)(n:Nat):Expr->Option Tg
 | .Name x _=>(tgI df nm N n x).map .one
 | .Tuple es _ _=>(zpl df nm N n es).map .tup
 | _=>none
structure Sto'(X:Cx)(nm:Names)(df:Bool):Prop where
 fn:df=true->∀x,nm.lookup x=some .cell->X.fn x=true
section
variable{cl:Cf}{G:Genv}{k:Nat}{X:Cx}{nm:Names}{N:List Str}{E:St->XK}{df:Bool}{n:Nat}
theorem zeE(g:Gx cl G k X nm N E)(sd:Sto' X nm df){x:Str}{i:Nat}(h:tgI df nm N n x=some i):i<n/\X.N.Nodup/\X.N[i]?=some x/\Loc X.env.scope x/\(X.fn x=true\/X.env.scope.names.lookup x=some .local):=by
 unfold tgI at h;split at h
 ·rename_i hl
  cases hi:idx N x with
  | none=>rw [hi] at h;cases h
  | some j =>
   rw [hi] at h;dsimp only [Option.bind] at h;split at h
   ·rename_i hn;cases h;refine ⟨hn,by rw [g.eN];exact g.nd,by rw [g.eN];exact zgd hi,?_,?_⟩
    ·cases hk:nm.lookup x with
     | none=>rw [hk] at hl;cases hl
     | some kd =>
      obtain ⟨kd',e,z⟩:=g.vis x kd hk;rw [hk] at hl;unfold L2.Loc;rw [e]
      rcases z with rfl | ⟨rfl,_⟩
      ·cases kd'<;>first | exact .inl rfl | exact .inr rfl | cases hl
      ·cases hl
    ·cases hk:nm.lookup x with
     | none=>rw [hk] at hl;cases hl
     | some kd =>
      rw [hk] at hl
      cases kd<;>first | exact .inr (g.fnx x hk) | exact .inl (sd.fn hl x hk) | cases hl
   ·cases h
 ·cases h
theorem zjJ(g:Gx cl G k X nm N E)(sd:Sto' X nm df):∀{es:List Expr} {is:List Nat},zpl df nm N n es=some is->PGs X es (tGs cl n is)/\(assignEach es X.env).length=is.length/\(assignEach es X.env).findIdx? (·.1)=none
 | [],is,h=>by cases h;exact ⟨znU,rfl,rfl⟩
 | e::es,is,h=>by
  cases e with
  | Name x pos =>
   unfold zpl at h
   cases h1:tgI df nm N n x with
   | none=>rw [h1] at h;cases h
   | some i =>
    rw [h1] at h
    cases h2:zpl df nm N n es with
    | none=>rw [h2] at h;cases h
    | some is' =>
     rw [h2] at h;cases h;obtain ⟨a1,a2,a3,a4,a5⟩:=zeE g sd h1;obtain ⟨b1,b2,b3⟩:=zjJ g sd h2;refine ⟨zlN a1 a2 a3 a4 a5 b1,?_,?_⟩
     ·show (assignEach es X.env).length+1=_;rw [b2];rfl
     ·show ((false,assign (.Name x pos) X.env)::assignEach es X.env).findIdx? (·.1)=none;rw [List.findIdx?_cons];simp [b3]
  | _=>cases h
theorem znB(g:Gx cl G k X nm N E)(sd:Sto' X nm df){tg:Expr}{t:Tg}(h:tgG df nm N n tg=some t):PG X tg (tG cl n t):=by
 unfold tgG at h;split at h
 ·rename_i x pos
  cases h1:tgI df nm N n x with
  | none=>rw [h1] at h;cases h
  | some i =>
   rw [h1] at h;cases h;obtain ⟨a1,a2,a3,a4,a5⟩:=zeE g sd h1;exact zp2 a1 a2 a3 a4 a5
 ·rename_i es kk pos
  cases h1:zpl df nm N n es with
  | none=>rw [h1] at h;cases h
  | some is =>
   rw [h1] at h;cases h;obtain ⟨b1,b2,b3⟩:=zjJ g sd h1;exact zp1 g.calm b1 b2 b3
 ·cases h
end
def zbi:Expr->List Str
 | .Name x _=>[x]
 | .Tuple es _ _=>es.filterMap zq3
 | _=>[]
def zbn(names:Names)(N:List Str):List (Str×Nat):=names.filterMap fun p=>if p.2=.free then (idx N p.1).map fun i=>(p.1,i) else none
def zxo:Option NameKind->Bool | some .cell=>true | some .free=>true | _=>false
def zlf(nm:Names)(scope:Scope)(xs:List Str)(caps:List (Str×Nat)):Bool :=
 decide (scope.kind=.function)&&decide ((scope.names.map (·.1)).Nodup)&&scope.names.all (fun y=>!decide (y.2=.local)||decide (scope.names.lookup y.1=some .local))
 && scope.names.all (fun y=>!decide (y.2=.free)||zxo (nm.lookup y.1))&&caps.all (fun p=>scope.names.all fun z=>!decide (z.1=p.1)||decide (z.2=.free))&&decide ((xs++caps.map (·.1)).Nodup)
def zmG(rc:Rec)(nm:Names)(N:List Str):List Expr->Option Fe
 | []=>some zfk
 | [c]=>if zb6 c then shE rc nm N c else none
 | _=>none
def zjs(G:Genv)(rc:Rec)(nm:Names)(N:List Str)(elt:Expr)(g:Comprehension)(scope:Scope):Option Fe :=
 if decide (g.is_async=0)&&zlf nm scope (zbi g.target) (zbn scope.names N) then
  (zjk G rc nm N g.target g.iter).bind fun it =>
  (tgG true scope.names (zbi g.target++(zbn scope.names N).map (·.1)) (zbi g.target).length g.target).bind fun t =>
  (zmG rc scope.names (zbi g.target++(zbn scope.names N).map (·.1)) g.ifs).bind fun c =>
  (shE rc scope.names (zbi g.target++(zbn scope.names N).map (·.1)) elt).bind fun el =>
  some (zcX (zbi g.target).length t it c el ((zbn scope.names N).map (·.2)))
 else none
theorem zdx{scope:Scope}{env:PySem.Env}:∀{names:Names} {x:Str} {kd:NameKind},names.lookup x=some kd →
  ∃kd',(names.map fun (n,k)=>if (k == NameKind.free&&env.scope.kind == .function&&env.kindOf n == some .cell) then (n,NameKind.cell) else (n,k)).lookup x=some kd'/\(kd'=kd\/(kd=.free/\kd'=.cell))
 | [],_,_,h=>by cases h
 | (n,k0)::r,x,kd,h=>by
  rw [List.lookup_cons] at h;rw [List.map_cons];dsimp only
  by_cases hc:(k0 == NameKind.free&&env.scope.kind == .function&&env.kindOf n == some .cell)=true
  ·rw [if_pos hc,List.lookup_cons]
   cases hx:x == n with
   | true =>
    rw [hx] at h;cases h;simp only [Bool.and_eq_true,beq_iff_eq] at hc;exact ⟨_,rfl,.inr ⟨hc.1.1,rfl⟩⟩
   | false=>rw [hx] at h;exact zdx (scope:=scope) h
  ·rw [if_neg hc,List.lookup_cons]
   cases hx:x == n with
   | true=>rw [hx] at h;cases h;exact ⟨_,rfl,.inl rfl⟩
   | false=>rw [hx] at h;exact zdx (scope:=scope) h
section
variable{cl:Cf}{G:Genv}{k:Nat}{rc:Rec}{X:Cx}{nm:Names}{N:List Str}{E:St->XK}
theorem zjr(g:Gx cl G k X nm N E){scope:Scope}{xs:List Str}(h:zlf nm scope xs (zbn scope.names N)=true):CompScopeG X.env.scope scope X.N xs (zbn scope.names N)/\(xs++(zbn scope.names N).map (·.1)).Nodup:=by
 unfold zlf at h;simp only [Bool.and_eq_true,List.all_eq_true,decide_eq_true_eq,Bool.or_eq_true,Bool.not_eq_true',decide_eq_false_iff_not] at h;obtain ⟨⟨⟨⟨⟨h1,h2⟩,h3⟩,h4⟩,h5⟩,h6⟩:=h
 have fr:∀y∈scope.names,y.2=.free->X.env.scope.names.lookup y.1=some .cell\/X.env.scope.names.lookup y.1=some .free:=fun y hy hf=>by
  rcases h4 y hy with z | z
  ·exact absurd hf z
  ·cases hk:nm.lookup y.1 with
   | none=>rw [hk] at z;cases z
   | some kd =>
    obtain ⟨kd',e,zz⟩:=g.vis y.1 kd hk;rw [hk] at z;rw [e]
    rcases zz with rfl | ⟨_,rfl⟩
    ·cases kd'<;>first | exact .inl rfl | exact .inr rfl | cases z
    ·exact .inl rfl
 refine ⟨⟨h2,h1,fun y hy hl=>(h3 y hy).elim (fun z=>absurd hl z) fun z=>z,fr,fun p hp=>?_,fun p hp z hz e=>(h5 p hp z hz).elim (fun w=>absurd e w) fun w=>w⟩,h6⟩;unfold zbn at hp;obtain ⟨q,hq,e⟩:=List.mem_filterMap.mp hp;split at e
 ·rename_i hf
  cases hi:idx N q.1 with
  | none=>rw [hi] at e;cases e
  | some i =>
   rw [hi] at e;have e':(q.1,i)=p:=Option.some.inj e;subst e';refine ⟨by rw [g.eN];exact zgd hi,by rw [<-hf];exact hq,?_⟩
   rcases fr q hq hf with z | z<;>rw [z]<;>exact fun w=>by cases w
 ·cases e
theorem zgc(g:Gx cl G k X nm N E){scope:Scope}{xs:List Str}(hn:(xs++(zbn scope.names N).map (·.1)).Nodup)(cl':List (Str×Addr))(C:Addr)(s:Shared)(H:Hp)(fp:List Addr) :
  Gx cl G k (zbk X xs (zbn scope.names N) scope cl' C s H fp) scope.names (xs++(zbn scope.names N).map (·.1)) noE where
 gok:=g.gok
 room:=g.room
 calm:=g.calm
 pass:=fun pins σ H s e s' I q=>by
  obtain ⟨a,cls,a0,H',B,_,_,_,_,_,_,_,_,_,z⟩:=q;exact z.elim
 eN:=rfl
 kk:=g.kk
 pp:=g.pp
 ww:=g.ww
 nd:=hn
 vis:=fun x kd h=>zdx (scope:=scope) h
 fnx:=fun x h=>lookup_relabel_local h
theorem zo0(hs:zbI cl G k rc)(g:Gx cl G k X nm N noE){ifs:List Expr}{c:Fe}(h:zmG rc nm N ifs=some c):PIf X ifs (tTr cl noE c):=by
 unfold zmG at h;split at h
 ·cases h;intro pins s σ H Q I q;obtain ⟨B,w,ρ,S,rfl,R,q⟩:=q;exact zog pins s σ w.H Q I (q w R (Fut.refl _))
 ·split at h
  ·rename_i c ht;obtain ⟨_,a2,_⟩:=za6 hs g h;exact zof (a2 ht)
  ·cases h
 ·cases h
theorem zfM(hs:zbI cl G k rc)(g:Gx cl G k X nm N E){elt:Expr}{gg:Comprehension}{scope:Scope}{f:Fe}(h:zjs G rc nm N elt gg scope=some f) :
  ∃it t c el,f=zcX (zbi gg.target).length t it c el ((zbn scope.names N).map (·.2))/\gg=⟨gg.target,gg.iter,gg.ifs,0⟩/\CompScopeG X.env.scope scope X.N (zbi gg.target) (zbn scope.names N)/\PI X gg.target gg.iter (tI cl E it)/\okE gg.iter=true ∧
   (∀cl' C s H fp,PG (zbk X (zbi gg.target) (zbn scope.names N) scope cl' C s H fp) gg.target (tG cl (zbi gg.target).length t)) ∧
   (∀cl' C s H fp,PIf (zbk X (zbi gg.target) (zbn scope.names N) scope cl' C s H fp) gg.ifs (tTr cl noE c)) ∧
   ∀cl' C s H fp,PE (zbk X (zbi gg.target) (zbn scope.names N) scope cl' C s H fp) elt (tE cl noE el):=by
 unfold zjs at h;split at h
 ·rename_i hc;rw [Bool.and_eq_true] at hc;obtain ⟨S,hn⟩:=zjr g hc.2
  cases h1:zjk G rc nm N gg.target gg.iter with
  | none=>rw [h1] at h;cases h
  | some it =>
   rw [h1] at h;dsimp only [Option.bind] at h
   cases h2:tgG true scope.names (zbi gg.target++(zbn scope.names N).map (·.1)) (zbi gg.target).length gg.target with
   | none=>rw [h2] at h;cases h
   | some t =>
    rw [h2] at h;dsimp only at h
    cases h3:zmG rc scope.names (zbi gg.target++(zbn scope.names N).map (·.1)) gg.ifs with
    | none=>rw [h3] at h;cases h
    | some c =>
     rw [h3] at h;dsimp only at h
     cases h4:shE rc scope.names (zbi gg.target++(zbn scope.names N).map (·.1)) elt with
     | none=>rw [h4] at h;cases h
     | some el =>
      rw [h4] at h;cases h;obtain ⟨i1,i2⟩:=zkT hs g (tg:=gg.target) h1;refine ⟨it,t,c,el,rfl,?_,S,i1,i2,fun cl' C s H fp=>znB (zgc g hn cl' C s H fp) ⟨fun _ x hx=>decide_eq_true hx⟩ h2,fun cl' C s H fp=>zo0 hs (zgc g hn cl' C s H fp) h3,fun cl' C s H fp=>(za6 hs (zgc g hn cl' C s H fp) h4).1⟩;have:=of_decide_eq_true hc.1;cases gg;simp only at this;rw [this]
 ·cases h
theorem zld(hs:zbI cl G k rc)(g:Gx cl G k X nm N E){elt:Expr}{gg:Comprehension}{scope:Scope}{f:Fe}{pos:Pos}(h:zjs G rc nm N elt gg scope=some f):PE X (.ListComp elt [gg] scope pos) (tN cl E f):=by
 obtain ⟨it,t,c,el,rfl,eg,S,i1,i2,i3,i4,i5⟩:=zfM hs g h;rw [eg];exact PE.imp (zl6 g.calm S i1 i3 i4 i5 (zf2 i2)) fun _ _ _ q=>znq q
end
def zvS:Expr->Bool | .Slice _ _ _ _=>false | _=>true
def zr0(rc:Rec)(nm:Names)(N:List Str):Option Expr->Option (Option Fe)
 | none=>some none
 | some e=>(opE rc nm N e).map some
theorem zry:∀(l:List D) (d r:D),znp l d=some r->∃n,r=.int n:=by
 intro l d r h;unfold znp at h;split at h
 ·cases h;exact ⟨_,rfl⟩
 ·cases h
theorem zrn:∀(l:List D) (d r:D),znh l d=some r->∃n,r=.int n:=by
 intro l d r h;unfold znh at h;split at h
 ·cases h;exact ⟨_,rfl⟩
 ·cases h
def unG(rc:Rec)(nm:Names)(N:List Str)(a:Expr):UnaryOp->Option (Bool×Fe)
 | .Not=>if zb6 a then (shE rc nm N a).map fun f=>(false,eUn zeU f) else none
 | .USub=>(opE rc nm N a).map fun f=>(false,eUn zow f)
 | _=>none
def zrA(rc:Rec)(nm:Names)(N:List Str)(a:Expr):List CmpOp->List Expr->Option (Bool×Fe)
 | [op],[b]=>(zrB op b).bind fun g=>(opE rc nm N a).bind fun f=>(opE rc nm N b).bind fun h=>some (false,zal g f h)
 | [op,op'],[b,c]=>(zrB op b).bind fun g=>(zrB op' c).bind fun g'=>(opE rc nm N a).bind fun f=>(opE rc nm N b).bind fun h=>(opE rc nm N c).bind fun k=>some (false,zdu g g' f h k)
 | _,_=>none
def zuN(rc:Rec)(nm:Names)(N:List Str)(a:Expr):Expr->Option (Bool×Fe)
 | .Slice lo hi none _=>(opE rc nm N a).bind fun f=>(zr0 rc nm N lo).bind fun l=>(zr0 rc nm N hi).bind fun u=>some (false,eSl f l u)
 | i=>if zvS i then (opE rc nm N a).bind fun f=>(opE rc nm N i).bind fun h=>some (false,zal ixD f h) else none
def znt(G:Genv)(rc:Rec)(nm:Names)(N:List Str)(args:List Expr)(kws:List Keyword)(cp:Pos):Expr->Option (Bool×Fe)
 | .Attribute o m ap=>zoz G rc nm N o m ap cp args kws
 | .Name x _=>if kws.isEmpty then (match mkG G rc nm N x args with | some p=>some p | none=>(match spG G rc nm N x args with | some p=>some p | none=>zo9 G rc nm N x args)) else none
 | _=>none
def lcG(G:Genv)(rc:Rec)(nm:Names)(N:List Str)(elt:Expr)(scope:Scope):List Comprehension->Option (Bool×Fe)
 | [g]=>(zjs G rc nm N elt g scope).map fun f=>(true,f)
 | _=>none
def zhR(G:Genv)(rc:Rec):Rec:=fun nm N e=>match e with
 | .Constant c _ _=>(zvV c).map fun d=>(false,zak d)
 | .Name x _=>(match zdr nm N x with
  | some i=>some (false,zad i)
  | none=>if zc2 nm x then (G.con x).map fun d=>(false,zak d) else none)
 | .Tuple es _ _=>(shL rc nm N es).map fun fs=>(false,zbc fs)
 | .List es _=>(shL rc nm N es).map fun fs=>(true,zhN fs)
 | .BinOp a op b _=>if zoL a&&zrm op then (opE rc nm N a).bind fun f=>(opE rc nm N b).bind fun h=>some (true,zal zjc f h) else (ztK op).bind fun g=>(opE rc nm N a).bind fun f=>(opE rc nm N b).bind fun h=>some (false,zal g f h)
 | .UnaryOp op a _=>unG rc nm N a op
 | .BoolOp op es _=>(zjw rc nm N op es).map fun f=>(false,f)
 | .Compare a ops bs _=>(match ztc G rc nm N a ops bs with | some p=>some p | none=>zrA rc nm N a ops bs)
 | .IfExp c a b _=>if zb6 c then (shE rc nm N c).bind fun g=>(shE rc nm N a).bind fun f=>(shE rc nm N b).bind fun h=>some (false,eIf g f h) else none
 | .Subscript a i _=>(match ztA G rc nm N a i with | some p=>some p | none=>zuN rc nm N a i)
 | .Attribute o f _=>ztD G rc nm N o f
 | .Call f args kws cp=>znt G rc nm N args kws cp f
 | .ListComp elt gs scope _=>lcG G rc nm N elt scope gs
 | _=>none
def ztI(G:Genv):Nat->Rec
 | 0=>fun _ _ _=>none
 | n+1=>zhR G (ztI G n)
section
variable{cl:Cf}{G:Genv}{k:Nat}{rc:Rec}
theorem zmt{i:Expr}(h:zvS i=true):zgo i:=by
 intro o j
 cases i<;>first | rfl | cases h
theorem zab{α β:Type}{o:Option α}{f:α->Option β}{b:β}(h:o.bind f=some b):∃a,o=some a/\f a=some b:=by
 cases o with
 | none=>cases h
 | some a=>exact ⟨a,rfl,h⟩
theorem za0{α β:Type}{o:Option α}{f:α->β}{b:β}(h:o.map f=some b):∃a,o=some a/\f a=b:=by
 cases o with
 | none=>cases h
 | some a=>exact ⟨a,rfl,Option.some.inj h⟩
theorem ziq{X:Cx}{nm:Names}{N:List Str}{E:St->XK}(hs:zbI cl G k rc)(g:Gx cl G k X nm N E){o:Option Expr}{f:Option Fe}(h:zr0 rc nm N o=some f):PO X o (zrW cl E f):=by
 unfold zr0 at h;split at h
 ·cases h;exact zod
 ·obtain ⟨a,h1,rfl⟩:=za0 h;exact zoc (zcT hs g h1).1
theorem zmE(hs:zbI cl G k rc):zbI cl G k (zhR G rc):=by
 intro X nm N E g e o f h;unfold zhR at h;split at h
 ·obtain ⟨d,h1,h2⟩:=za0 h;cases h2;rename_i c kk pos
  have p:PE X (.Constant c kk pos) (tE cl E (zak d)):=by
   cases c<;>simp [zvV] at h1<;>subst h1
   ·exact zj2 zqC fun w=>.non
   ·exact zj2 zs4 fun w=>.bl _
   ·exact zj2 zqF fun w=>.int _
   ·exact zj2 zqx fun w=>.str _
  exact ⟨(fun z=>by cases z),p,fun _=>zbY p (fun _=>rfl),rfl⟩
 ·rename_i x pos;split at h
  ·rename_i i hi;cases h;obtain ⟨h1,h2,h3,h4⟩:=g.slot hi;have p:PE X (.Name x pos) (tE cl E (zad i)):=zp4 h1 h2 h3 h4;exact ⟨(fun z=>by cases z),p,fun _=>zbY p (fun _=>rfl),rfl⟩
  ·split at h
   ·rename_i hg;obtain ⟨d,h1,h2⟩:=za0 h;cases h2;obtain ⟨g1,g2,g3⟩:=g.glob hg;obtain ⟨v,u,m,r,sh⟩:=g.gok.con x d h1;have p:PE X (.Name x pos) (tE cl E (zak d)):=zj2 (zoj g1 m r g2) sh;exact ⟨(fun z=>by cases z),p,fun _=>zbY p (fun _=>rfl),rfl⟩
   ·cases h
 ·obtain ⟨fs,h1,h2⟩:=za0 h;cases h2;rename_i es kk pos;have p:PE X (.Tuple es kk pos) (tE cl E (zbc fs)):=zp5 (zeG hs g h1).1;exact ⟨(fun z=>by cases z),p,fun _=>zbY p (fun _=>rfl),rfl⟩
 ·obtain ⟨fs,h1,h2⟩:=za0 h;cases h2;rename_i es pos;have p:PE X (.List es pos) (tN cl E (zhN fs)):=zp9 (zeG hs g h1).1;exact ⟨fun _=>p,zds p,fun _=>zbY (zds p) (fun _=>rfl),rfl⟩
 ·split at h
  ·rename_i a op b pos hm;obtain ⟨fa,h2,h⟩:=zab h;obtain ⟨fb,h3,h⟩:=zab h;cases h;rw [Bool.and_eq_true] at hm
   have ho:op=.Mult:=by cases op<;>first | rfl | cases hm.2
   subst ho;have p:PE X (.BinOp a .Mult b pos) (tN cl E (zal zjc fa fb)):=znX (zcT hs g h2).1 (zcT hs g h3).1;exact ⟨fun _=>p,zds p,fun _=>zbY (zds p) (fun _=>rfl),rfl⟩
  obtain ⟨gg,h1,h⟩:=zab h;obtain ⟨fa,h2,h⟩:=zab h;obtain ⟨fb,h3,h⟩:=zab h;cases h;exact ⟨(fun z=>by cases z),zmZ (znu h1) (zcT hs g h2).1 (zcT hs g h3).1,fun _=>zbY (zmZ (znu h1) (zcT hs g h2).1 (zcT hs g h3).1) (fun _=>rfl),rfl⟩
 ·rename_i op a pos;unfold unG at h;split at h
  ·split at h
   ·rename_i ht;obtain ⟨fa,h1,h2⟩:=za0 h;cases h2;obtain ⟨a1,a2,_⟩:=za6 hs g h1;exact ⟨(fun z=>by cases z),zp7 a1,fun _=>zpL (a2 ht),rfl⟩
   ·cases h
  ·obtain ⟨fa,h1,h2⟩:=za0 h;cases h2;have p:PE X (.UnaryOp .USub a pos) (tE cl E (eUn zow fa)):=zsO zpv (zcT hs g h1).1;exact ⟨(fun z=>by cases z),p,fun _=>zbY p (fun _=>rfl),rfl⟩
  ·cases h
 ·obtain ⟨fa,h1,h2⟩:=za0 h;cases h2;rename_i op es pos;obtain ⟨b1,b2⟩:=zln hs g (pos:=pos) h1;exact ⟨(fun z=>by cases z),b1,fun _=>b2.pt,rfl⟩
 ·rename_i a ops bs pos;split at h
  ·rename_i p hp;obtain ⟨w,fe⟩:=p;cases h;obtain ⟨rfl,n1,n2⟩:=zq0 hs g (pos:=pos) hp;exact ⟨(fun z=>by cases z),n1,fun _=>n2,rfl⟩
  unfold zrA at h;split at h
  ·obtain ⟨gg,h1,h⟩:=zab h;obtain ⟨fa,h2,h⟩:=zab h;obtain ⟨fb,h3,h⟩:=zab h;cases h;obtain ⟨a1,_⟩:=zcT hs g h2;obtain ⟨b1,b2⟩:=zcT hs g h3;exact ⟨(fun z=>by cases z),zqb (zfN g h1) a1 b1 (zeT b2),fun _=>zpN (zfN g h1) a1 b1 (zeT b2),rfl⟩
  ·obtain ⟨gg,h1,h⟩:=zab h;obtain ⟨gg',h1',h⟩:=zab h;obtain ⟨fa,h2,h⟩:=zab h;obtain ⟨fb,h3,h⟩:=zab h;obtain ⟨fc,h4,h⟩:=zab h;cases h;obtain ⟨a1,_⟩:=zcT hs g h2;obtain ⟨b1,_⟩:=zcT hs g h3;obtain ⟨c1,c2⟩:=zcT hs g h4;have hm:∀{op op':CmpOp} {b c:Expr},okE c=true->lastMarks [op,op'] [b,c]=false:=fun h=>zeT h
   exact ⟨(fun z=>by cases z),zlO (zfN g h1) (zfN g h1') a1 b1 c1 (hm c2),fun _=>zlK (zfN g h1) (zfN g h1') a1 b1 c1 (hm c2),rfl⟩
  ·cases h
 ·split at h
  ·rename_i c a b pos ht;obtain ⟨fc,h1,h⟩:=zab h;obtain ⟨fa,h2,h⟩:=zab h;obtain ⟨fb,h3,h⟩:=zab h;cases h;obtain ⟨_,c2,_⟩:=za6 hs g h1;exact ⟨(fun z=>by cases z),zsS (c2 ht) (za6 hs g h2).1 (za6 hs g h3).1,(fun z=>by cases z),rfl⟩
  ·cases h
 ·rename_i a i pos;split at h
  ·rename_i p hp;obtain ⟨w,fe⟩:=p;cases h;obtain ⟨rfl,n1⟩:=zrq hs g (pos:=pos) hp;exact ⟨(fun z=>by cases z),n1,fun _=>zbY n1 (fun _=>rfl),rfl⟩
  unfold zuN at h;split at h
  ·obtain ⟨fa,h1,h⟩:=zab h;obtain ⟨fl,h2,h⟩:=zab h;obtain ⟨fu,h3,h⟩:=zab h;cases h;exact ⟨(fun z=>by cases z),zp6 (zcT hs g h1).1 (ziq hs g h2) (ziq hs g h3),fun _=>zbY (zp6 (zcT hs g h1).1 (ziq hs g h2) (ziq hs g h3)) (fun _=>rfl),rfl⟩
  ·split at h
   ·rename_i hix;obtain ⟨fa,h1,h⟩:=zab h;obtain ⟨fb,h2,h⟩:=zab h;cases h;have p:PE X (.Subscript a _ pos) (tE cl E (zal ixD fa fb)):=zsR (ztw g.kk) (zcT hs g h1).1 (zcT hs g h2).1 (zmt hix);exact ⟨(fun z=>by cases z),p,fun _=>zbY p (fun _=>rfl),rfl⟩
   ·cases h
 ·rename_i o fl pos;obtain ⟨rfl,n1⟩:=zrt hs g (pos:=pos) h;exact ⟨(fun z=>by cases z),n1,fun _=>zbY n1 (fun _=>rfl),rfl⟩
 ·rename_i fn args kws cp;unfold znt at h;split at h
  ·rename_i o m ap;obtain ⟨a1,a2⟩:=zoy hs g (ap:=ap) (pos:=cp) h;exact ⟨a1,a2,fun _=>zbY a2 (fun _=>rfl),rfl⟩
  ·rename_i x p;split at h
   ·rename_i hk
    have hk':kws=[]:=by simpa using hk
    subst hk';split at h
    ·rename_i pm hmk;obtain ⟨w,fe⟩:=pm;cases h;obtain ⟨rfl,n1⟩:=ztd hs g (p:=p) (pos:=cp) hmk;exact ⟨(fun z=>by cases z),n1,fun _=>zbY n1 (fun _=>rfl),rfl⟩
    split at h
    ·rename_i hsp;cases h;obtain ⟨a1,a2⟩:=zsM hs g (p:=p) (pos:=cp) hsp;exact ⟨a1,a2,fun _=>zbY a2 (fun _=>rfl),rfl⟩
    ·obtain ⟨a1,a2⟩:=zo8 hs g (p:=p) (pos:=cp) h;exact ⟨a1,a2,fun _=>zbY a2 (fun _=>rfl),rfl⟩
   ·cases h
  ·cases h
 ·rename_i elt gs scope pos;unfold lcG at h;split at h
  ·obtain ⟨fa,h1,h2⟩:=za0 h;cases h2;rename_i gg;have p:PE X (.ListComp elt [gg] scope pos) (tN cl E f):=zld hs g h1;exact ⟨fun _=>p,zds p,fun _=>zbY (zds p) (fun _=>rfl),rfl⟩
  ·cases h
 ·cases h
theorem znn:∀n,zbI cl G k (ztI G n)
 | 0=>fun _ _ _ _ _ _ _ _ h=>by cases h
 | n+1=>zmE (znn n)
end
end S2
namespace S2
open PySem PySem.Spec PyProof.Rows L2
def zly(X:Cx)(E:St->XK):Prop:=∀(C:Addr) (pins:Z3) (σ:St) (H:Hp) (s:Shared) (e:Addr) (h':Heap) (vs:List Value),Inv X pins σ H s->Heap.MadeExcOf s.heap h' e (.ref C) vs->E σ (.ref C) none H->X.xe (.ref e) { s with heap:=h' }
def znF(C:Addr)(E:St->XK)(t:TA):TS:=fun _ σ H=>t σ H fun vs H1=>vs.length<=sizeLine/\E σ (.ref C) none H1
theorem zkf{X:Cx}{x:Str}{C:Addr}{E:St->XK}{np cpos pos:Pos}{e:Expr}{es:List Expr}{t:TA}(hr:zly X E)(hc:X.calm=true)(hg:Gl X x)(hm:X.mg x=some (.ref C))
  (z:PySem.W.excIn X.K C bmV "ValueError.__new__" = true) (ha:PA X (e::es) t)
  (he:starEach (e::es) X.env=(false,eval e X.env)::starEach es X.env) (hpl:(backTo cpos (starEach es X.env)).any (·.1)=false) (hdb:(x == ("__debug__":Str))=false) :
  PS X (.Raise (some (.Call (.Name x np) (e::es) [] cpos)) none pos) (znF C E t):=by
 intro pins s σ H D I h;obtain ⟨bm,N,nm,qn,bs,hd,sn,sub,ab,col,dd,c0,c1,c2,c3,c5,mN,o1,o2,o3,o4⟩:=zoS I.mod.kin z
 refine wpAny_Raise_call_subU (C:=C) (nm:=nm) (q:=qn) (N:=N) (bs:=bs) (bm:=bm) (hdct:=hd) (sn:=sn) (sub:=sub) (ab:=ab) (col:=col) (dd:=dd) (k0:=c0) (k1:=c1) (k2:=c2) (k3:=c3) (k5:=c5)
  PySem.F.excBase_ValueError (by decide +kernel) PySem.F.excBase_ValueError (mN:=mN) (o4.hasType PySem.F.excBase_ValueError.hasBase) (I.ok.hd hc) (by rw [he];show (false||(backTo cpos (starEach es X.env)).any (·.1))=false;rw [hpl];rfl) o3 (zeZ I hg hm ⟨rfl,?_⟩ hdb)
 have go:=ha cpos pins s σ H _ I h;rw [he] at go ⊢;exact Calls.evalArgs_plain (thn go fun us s2 ⟨vs,H2,I2,r2,q1,q2⟩=>⟨rfl,by rw [<-r2.length];exact q1,I2.bk _ _ o1,o2.keeps I2.bk,o4.keeps I2.bk,fun h' a mk=>hr C pins σ H2 s2 a h' us I2 mk q2⟩)
def sRz(c:Str)(fs:List Fe):Fs:=fun ρ S=>match zaq fs ρ S with | .ok ds S'=>if zby ds.length then .ex c ρ S' else .bad | .exc x S'=>.ex x ρ S' | .bad=>.bad
def zxH(X:Cx)(pins:Z3)(E:St->XK):Cx:={ X with pn:=X.pn++pins,xe:=fun e s'=>∃σ H1 s1,Inv X pins σ H1 s1/\CXE X.prog X.w X.stack H1 s1 (E σ) e s' }
section
variable{X:Cx}{pins:Z3}{σ:St}{H:Hp}{s:Shared}{E:St->XK}
end
def zxI(K:PySem.W.Frag)(C:Addr)(i:Nat)(th:TS)(De:Ends):St->XK:=fun σ cls _ H'=>∃C',cls=.ref C'/\zpj K C' C/\∀a ob,H' a=none->ob.cls=.ref C'->th (De.goes i) (σ.set i (some (.ref a))) (upd H' a (.frz ob (.own a)))
section
variable{X:Cx}{cl:Cf}{E:St->XK}{own:Bool}
end
end S2
namespace S2
open PySem PySem.Spec PyProof.Rows L2
def Base.hold(B:Base)(p:Addr)(o:HO):Base:=⟨fun a=>if a=p then some o else B.Fr a,fun a=>if a=p then some .far else B.fw a⟩
def Wd.claim(w:Wd)(p:Addr)(r:Root):Wd:=⟨w.H,fun a=>if a=p then some r else if w.ow a=some r then some .far else w.ow a,w.mu⟩
section
variable{cl:Cf}{B:Base}{σ:St}{w:Wd}{ρ:Env}{S:Sto}
theorem Rel.hold{p:Addr}{o:HO}(R:Rel cl B σ w ρ S)(hp:w.H p=none):Rel cl (B.hold p o) σ (w.addAs p o .far) ρ S:=by
 have ff:=zce (w:=w) (p:=p) (o:=o) (r:=.far) hp
 have kp:∀a u,w.H a=some u->(w.addAs p o .far).H a=some u/\(w.addAs p o .far).ow a=w.ow a:=fun a u ha=>by
  have n:a≠p:=zaB ha hp;refine ⟨?_,?_⟩
  ·show upd w.H p o a=_;rw [zau n];exact ha
  ·show (if a=p then _ else if w.ow a=some Root.far then some Root.far else w.ow a)=_;rw [if_neg n];split
   ·rename_i e;exact e.symm
   ·rfl
 refine ⟨⟨fun a u h=>?_,fun a r h=>?_,R.wd.len,fun n ob h=>?_⟩,R.len,fun j b e hj=>?_⟩
 ·by_cases ha:a=p
  ·subst ha;have h':(if a=a then some o else B.Fr a)=some u:=h;rw [if_pos rfl] at h';cases h';exact ⟨zaQ,by show (if a=a then some Root.far else _)=(if a=a then some Root.far else _);rw [if_pos rfl,if_pos rfl]⟩
  ·have h':(if a=p then some o else B.Fr a)=some u:=h;rw [if_neg ha] at h';have:=kp a u (R.wd.fr a u h').1;refine ⟨this.1,this.2.trans ?_⟩;show _=(if a=p then some Root.far else B.fw a);rw [if_neg ha];exact (R.wd.fr a u h').2
 ·by_cases ha:a=p
  ·have h':(if a=p then some Root.far else if w.ow a=some Root.far then some Root.far else w.ow a)=some r:=h;rw [if_pos ha] at h';cases h';exact .inl rfl
  ·have h':(if a=p then some Root.far else if w.ow a=some Root.far then some Root.far else w.ow a)=some r:=h;rw [if_neg ha] at h';split at h'
   ·cases h';exact .inl rfl
   ·rcases R.wd.own a r h' with z | z
    ·exact .inl z
    ·refine .inr ?_;show (if a=p then some o else B.Fr a)=none;rw [if_neg ha];exact z
 ·obtain ⟨a,e,x⟩:=R.wd.obj n ob h;exact ⟨a,e,x.keep ff fun b u hb _=>kp b u hb⟩
 ·obtain ⟨v,e1,x⟩:=R.slots j b e hj;exact ⟨v,e1,x.keep ff fun a u ha hr=>⟨(kp a u ha).1,(kp a u ha).2.trans hr⟩⟩
theorem Rel.unhold{p:Addr}{o:HO}(R:Rel cl (B.hold p o) σ w ρ S)(hB:B.Fr p=none):Rel cl B σ w ρ S:=by
 refine ⟨⟨fun a u h=>?_,fun a r h=>?_,R.wd.len,R.wd.obj⟩,R.len,R.slots⟩
 ·have na:a≠p:=fun z=>by rw [z,hB] at h;cases h
  have h2:=R.wd.fr a u (show (if a=p then some o else B.Fr a)=some u by rw [if_neg na];exact h);exact ⟨h2.1,h2.2.trans (show (if a=p then some Root.far else B.fw a)=_ from if_neg na)⟩
 ·rcases R.wd.own a r h with z | z
  ·exact .inl z
  ·have z':(if a=p then some o else B.Fr a)=none:=z;split at z'
   ·cases z'
   ·exact .inr z'
theorem ze6{p:Addr}{r:Root}(h:w.ow p≠none):Fut w (w.claim p r) where
 keep:=fun a u ha hk=>by
  have n:a≠p:=fun z=>h (by rw [<-z];exact hk)
  refine ⟨ha,?_⟩;show (if a=p then some r else if w.ow a=some r then some Root.far else w.ow a)=none;rw [if_neg n,if_neg (by rw [hk];exact fun z=>by cases z)];exact hk
 mu:=fun _ _ h=>h
theorem Rel.claim{i:Nat}{p:Addr}{o:HO}{d:D}(R:Rel cl (B.hold p o) σ w ρ S)(hB:B.Fr p=none)(t:Top cl w o d):Rel cl B (σ.set i (some (.ref p))) (w.claim p (.slot i)) (ρ.set i (some (true,d))) S:=by
 have hp:=R.wd.fr p o (show (if p=p then some o else B.Fr p)=some o from if_pos rfl);have hfar:w.ow p=some .far:=hp.2.trans (show (if p=p then some Root.far else B.fw p)=_ from if_pos rfl);have ff:=ze6 (w:=w) (p:=p) (r:=.slot i) (by rw [hfar];exact Option.some_ne_none _)
 have kp:∀a u,w.H a=some u->w.ow a≠some .far->w.ow a≠some (.slot i)->(w.claim p (.slot i)).H a=some u/\(w.claim p (.slot i)).ow a=w.ow a:=fun a u ha hk hk2=>by
  have n:a≠p:=fun z=>hk (by rw [z];exact hfar)
  refine ⟨ha,?_⟩;show (if a=p then _ else if w.ow a=some (Root.slot i) then some Root.far else w.ow a)=_;rw [if_neg n,if_neg hk2]
 refine ⟨⟨fun a u h=>?_,fun a r h=>?_,R.wd.len,fun n ob h=>?_⟩,by rw [List.length_set,List.length_set];exact R.len,fun j b e hj=>?_⟩
 ·have na:a≠p:=fun z=>by rw [z,hB] at h;cases h
  have h2:=R.wd.fr a u (show (if a=p then some o else B.Fr a)=some u by rw [if_neg na];exact h);have h3:w.ow a=B.fw a:=h2.2.trans (show (if a=p then some Root.far else B.fw a)=_ from if_neg na)
  have hne:w.ow a≠some (.slot i):=fun z=>by
   rcases R.wd.own a _ z with y | y
   ·cases y
   ·have y':(if a=p then some o else B.Fr a)=none:=y;rw [if_neg na,h] at y';cases y'
  refine ⟨h2.1,?_⟩;show (if a=p then some (Root.slot i) else if w.ow a=some (Root.slot i) then some Root.far else w.ow a)=_;rw [if_neg na,if_neg hne];exact h3
 ·have h':(if a=p then some (Root.slot i) else if w.ow a=some (Root.slot i) then some Root.far else w.ow a)=some r:=h;split at h'
  ·rename_i e;rw [e];exact .inr hB
  ·rename_i na;split at h'
   ·cases h';exact .inl rfl
   ·rcases R.wd.own a r h' with z | z
    ·exact .inl z
    ·have z':(if a=p then some o else B.Fr a)=none:=z;rw [if_neg na] at z';exact .inr z'
 ·obtain ⟨a,e,x⟩:=R.wd.obj n ob h;exact ⟨a,e,x.keep ff fun b u hb hn=>kp b u hb (fun z=>by rw [z] at hn;exact hn) (fun z=>by rw [z] at hn;exact hn)⟩
 ·by_cases hij:i=j
  ·subst hij
   have hlt:i<ρ.length:=by
    have:=(List.getElem?_eq_some_iff.mp hj).1;rw [List.length_set] at this;exact this
   rw [List.getElem?_set_self hlt] at hj;cases hj;exact ⟨.ref p,by rw [List.getElem?_set_self (by rw [R.len];exact hlt)],p,o,rfl,if_pos rfl,hp.1,t.up ff⟩
  ·rw [List.getElem?_set_ne hij] at hj ⊢;obtain ⟨v,e1,x⟩:=R.slots j b e hj;refine ⟨v,e1,x.keep ff fun a u ha hr=>?_⟩;have:=kp a u ha (by rw [hr];exact fun z=>by cases z) (by rw [hr];exact fun z=>hij (by cases z;rfl));exact ⟨this.1,this.2.trans hr⟩
end
def tO(cl:Cf)(E:St->XK):Bool->Fe->TE | true,f=>tN cl E f | false,f=>tE cl E f
def zn0(i j:Nat)(o1:Bool)(f1:Fe)(o2:Bool)(f2:Fe):Fs:=fun ρ S=>match f1 ρ S with
 | .ok d1 S1=>(match f2 ρ S1 with
  | .ok d2 S2=>.nx ((ρ.set i (some (o1,d1))).set j (some (o2,d2))) S2
  | .exc c S'=>.ex c ρ S'
  | .bad=>.bad)
 | .exc c S'=>.ex c ρ S'
 | .bad=>.bad
section
variable{X:Cx}{cl:Cf}{E:St->XK}{own:Bool}
theorem zl9{i j:Nat}{o1 o2:Bool}{f1 f2:Fe}{De:Ends}{σ:St}{H:Hp}(q:tS cl E own (zn0 i j o1 f1 o2 f2) De σ H):zuJ i j (znG (tO cl E o1 f1) (znG (tO cl E o2 f2) zrX)) De σ H:=by
 obtain ⟨B,w,ρ,S,rfl,R,q⟩:=q;unfold zn0 at q
 cases o1 with
 | false =>
  refine ⟨B,w,ρ,S,rfl,R,?_⟩
  cases h1:f1 ρ S with
  | bad=>rw [h1] at q;exact q
  | exc c S1=>rw [h1] at q;exact fun w' R' F'=>q σ w' R' F'
  | ok d1 S1 =>
   rw [h1] at q;dsimp only at q;intro v w1 R1 F1 sh1
   cases o2 with
   | false =>
    refine ⟨B,w1,ρ,S1,rfl,R1,?_⟩
    cases h2:f2 ρ S1 with
    | bad=>rw [h2] at q;exact q
    | exc c S2=>rw [h2] at q;exact fun w' R' F'=>q σ w' R' (F1.trans F')
    | ok d2 S2 =>
     rw [h2] at q;intro v2 w2 R2 F2 sh2;exact ⟨v,v2,rfl,q _ w2 ((R2.put (sh1.up F2)).put sh2) (F1.trans F2)⟩
   | true =>
    refine ⟨B,w1,ρ,S1,rfl,R1,?_⟩
    cases h2:f2 ρ S1 with
    | bad=>rw [h2] at q;exact q
    | exc c S2=>rw [h2] at q;exact fun w' R' F'=>q σ w' R' (F1.trans F')
    | ok d2 S2 =>
     rw [h2] at q;intro p2 u2 w2 R2 F2 hp2 t2;exact ⟨v,.ref p2,rfl,q _ (w2.addAs p2 u2 (.slot j)) ((R2.put (sh1.up F2)).own hp2 t2) (F1.trans (F2.trans (zce hp2)))⟩
 | true =>
  refine ⟨B,w,ρ,S,rfl,R,?_⟩
  cases h1:f1 ρ S with
  | bad=>rw [h1] at q;exact q
  | exc c S1=>rw [h1] at q;exact fun w' R' F'=>q σ w' R' F'
  | ok d1 S1 =>
   rw [h1] at q;dsimp only at q;intro p u w1 R1 F1 hp t1;have Rh:=R1.hold (o:=u) hp;have fa:=zce (w:=w1) (p:=p) (o:=u) (r:=.far) hp
   have hB:B.Fr p=none:=by
    cases z:B.Fr p with
    | none=>rfl
    | some x=>have:=(R1.wd.fr p x z).1;rw [hp] at this;cases this
   cases o2 with
   | false =>
    refine ⟨B.hold p u,w1.addAs p u .far,ρ,S1,rfl,Rh,?_⟩
    cases h2:f2 ρ S1 with
    | bad=>rw [h2] at q;exact q
    | exc c S2=>rw [h2] at q;exact fun w' R' F'=>q σ w' (R'.unhold hB) (F1.trans (fa.trans F'))
    | ok d2 S2 =>
     rw [h2] at q;intro v2 w2 R2 F2 sh2;have hpp:=R2.wd.fr p u (show (if p=p then some u else B.Fr p)=some u from if_pos rfl)
     have hfar:w2.ow p≠none:=by rw [hpp.2,show (B.hold p u).fw p=some Root.far from if_pos rfl];exact Option.some_ne_none _
     have fc:=ze6 (w:=w2) (p:=p) (r:=.slot i) hfar;exact ⟨.ref p,v2,rfl,q _ (w2.claim p (.slot i)) ((R2.claim hB (t1.up (fa.trans F2))).put (sh2.up fc)) (F1.trans (fa.trans (F2.trans fc)))⟩
   | true =>
    refine ⟨B.hold p u,w1.addAs p u .far,ρ,S1,rfl,Rh,?_⟩
    cases h2:f2 ρ S1 with
    | bad=>rw [h2] at q;exact q
    | exc c S2=>rw [h2] at q;exact fun w' R' F'=>q σ w' (R'.unhold hB) (F1.trans (fa.trans F'))
    | ok d2 S2 =>
     rw [h2] at q;intro p2 u2 w2 R2 F2 hp2 t2;have hpp:=R2.wd.fr p u (show (if p=p then some u else B.Fr p)=some u from if_pos rfl)
     have hfar:w2.ow p≠none:=by rw [hpp.2,show (B.hold p u).fw p=some Root.far from if_pos rfl];exact Option.some_ne_none _
     have fc:=ze6 (w:=w2) (p:=p) (r:=.slot i) hfar;exact ⟨.ref p,.ref p2,rfl,q _ ((w2.claim p (.slot i)).addAs p2 u2 (.slot j)) ((R2.claim hB (t1.up (fa.trans F2))).own (w:=w2.claim p (.slot i)) hp2 (t2.up fc)) (F1.trans (fa.trans (F2.trans (fc.trans (zce (w:=w2.claim p (.slot i)) hp2)))))⟩
end
def zg3:Expr->Bool | .ListComp _ _ _ _=>true | .SetComp _ _ _ _=>true | .DictComp _ _ _ _ _=>true | _=>false
theorem zfU{e:Expr}{t:Option Expr}{l:Nat}{env:PySem.Env}(h:zg3 e=false):swapsWith e t l env=pure false:=by
 cases e<;>first | rfl | cases h
structure Gd(cl:Cf)(G:Genv)(k:Nat)(X:Cx)(nm:Names)(N:List Str)(E:St->XK)(full:Bool):Prop where
 gx:Gx cl G k X nm N E
 fn:∀x,X.fn x=true
 kind:X.env.scope.kind=.function
 sc:X.env.scope.names=nm
 own:full=true->PassesOwn (model X.prog X.w) X.A X.env X.xe
 raises:full=true->zly X E
 stk:X.stack=X.env::X.outer
 frm:X.env.frame=some X.env.locals
def zcS:Nat->Names->List Str->Expr->List Nat
 | 0,_,_,_=>[]
 | n+1,nm,N,e =>
  let rc:=zcS n nm N
  let op:=fun (e:Expr)=>match e with | .Name _ _=>[] | e=>rc e
  match e with
  | .Name x _=>(zdr nm N x).toList
  | .Tuple es _ _=>es.flatMap rc
  | .List es _=>es.flatMap rc
  | .BinOp a _ b _=>op a++op b
  | .UnaryOp _ a _=>rc a
  | .BoolOp _ es _=>es.flatMap rc
  | .Compare a _ bs _=>op a++bs.flatMap op
  | .IfExp c a b _=>rc c++rc a++rc b
  | .Subscript a (.Slice lo hi _ _) _=>op a++lo.toList.flatMap op++hi.toList.flatMap op
  | .Subscript a i _=>op a++op i
  | .Call (.Name f _) args [] _=>if (zlo f).isSome||decide (f = "isinstance") then args.flatMap op else args.flatMap rc
  | .Call (.Attribute o _ _) args [] _=>op o++args.flatMap rc
  | .Attribute o _ _=>op o
  | .ListComp _ [g] scope _=>rc g.iter++(zbn scope.names N).map (·.2)
  | _=>[]
def zhr(t:Tg)(f:Fe):Fs:=fun ρ S=>match f ρ S with
 | .ok d S'=>(match t.put ρ d with | some ρ'=>.nx ρ' S' | none=>.bad)
 | .exc c S'=>.ex c ρ S'
 | .bad=>.bad
def zma(nm:Names)(x y:Str)(px py:Pos)(a b:Expr):Bool :=
 decide (nm.lookup x=some .local)&&decide (nm.lookup y=some .local)&&decide (px.line=py.line)&&!decide (x=y)&&zcJ a&&zcJ b&&!([a,b].all (foldedForSure 8))&&!([a,b].all (constantsAlone 8))
def zng:Expr->Bool | .Constant _ _ _=>true | _=>false
def zoV:Expr->Option (List (Option Expr)×List Expr×Pos) | .Dict ks vs p=>some (ks,vs,p) | _=>none
theorem zmC{e:Expr}{x:List (Option Expr)×List Expr×Pos}(h:zoV e=some x):e=.Dict x.1 x.2.1 x.2.2:=by cases e<;>first | (cases h;done) | (cases h;rfl)
def zhH(e:Expr):Bool:=match zoV e with | some x=>x.1.isEmpty&&x.2.1.isEmpty | none=>false
theorem zmD{e:Expr}(h:zhH e=true):∃p,e=.Dict [] [] p:=by
 unfold zhH at h
 cases h1:zoV e with
 | none=>rw [h1] at h;cases h
 | some x =>
  rw [h1] at h;dsimp only at h;rw [Bool.and_eq_true,List.isEmpty_iff,List.isEmpty_iff] at h;exact ⟨_,by rw [zmC h1,h.1,h.2]⟩
def zqP{α:Type}:List α->Option α | [a]=>some a | _=>none
theorem zkt{α:Type}{l:List α}{a:α}(h:zqP l=some a):l=[a]:=by
 cases l with
 | nil=>cases h
 | cons b t=>cases t with
  | nil=>cases h;rfl
  | cons _ _=>cases h
def zf6:Expr->Option (Str×Pos) | .Name x p=>some (x,p) | _=>none
theorem zdh{e:Expr}{x:Str×Pos}(h:zf6 e=some x):e=.Name x.1 x.2:=by cases e<;>first | (cases h;done) | (cases h;rfl)
def zpa:Expr->Option (Expr×List Expr×List Keyword×Pos) | .Call f a k p=>some (f,a,k,p) | _=>none
theorem ziT{e:Expr}{x:Expr×List Expr×List Keyword×Pos}(h:zpa e=some x):e=.Call x.1 x.2.1 x.2.2.1 x.2.2.2:=by cases e<;>first | (cases h;done) | (cases h;rfl)
def zpq:Expr->Option (Expr×Str×Pos) | .Attribute o m p=>some (o,m,p) | _=>none
theorem zhY{e:Expr}{x:Expr×Str×Pos}(h:zpq e=some x):e=.Attribute x.1 x.2.1 x.2.2:=by cases e<;>first | (cases h;done) | (cases h;rfl)
def zxy:Stmt->Option (List Expr×Expr×Pos) | .Assign t e p=>some (t,e,p) | _=>none
theorem ztQ{e:Stmt}{x:List Expr×Expr×Pos}(h:zxy e=some x):e=.Assign x.1 x.2.1 x.2.2:=by cases e<;>first | (cases h;done) | (cases h;rfl)
def zpk:Expr->Option (List Expr×Nat×Pos) | .Tuple es k p=>some (es,k,p) | _=>none
theorem zjI{e:Expr}{x:List Expr×Nat×Pos}(h:zpk e=some x):e=.Tuple x.1 x.2.1 x.2.2:=by cases e<;>first | (cases h;done) | (cases h;rfl)
def zuO:Expr->Option (Expr×Expr×Pos) | .Subscript a i p=>some (a,i,p) | _=>none
theorem znH{e:Expr}{x:Expr×Expr×Pos}(h:zuO e=some x):e=.Subscript x.1 x.2.1 x.2.2:=by cases e<;>first | (cases h;done) | (cases h;rfl)
def lcE:Expr->Option (Expr×List Comprehension×Scope×Pos) | .ListComp elt gs scope p=>some (elt,gs,scope,p) | _=>none
theorem zq6{e:Expr}{x:Expr×List Comprehension×Scope×Pos}(h:lcE e=some x):e=.ListComp x.1 x.2.1 x.2.2.1 x.2.2.2:=by cases e<;>first | (cases h;done) | (cases h;rfl)
def zsw{α:Type}:List α->Option (α×α) | [a,b]=>some (a,b) | _=>none
theorem zmV{α:Type}{l:List α}{a:α×α}(h:zsw l=some a):l=[a.1,a.2]:=by
 cases l with
 | nil=>cases h
 | cons b t=>cases t with
  | nil=>cases h
  | cons c t=>cases t with
   | nil=>cases h;rfl
   | cons _ _=>cases h
def ztR(G:Genv)(rc:Rec)(nm:Names)(N:List Str)(x:Str)(e:Expr):Option Fs :=
 (tgI true nm N N.length x).bind fun i=>match lcE e with
  | some c=>(zqP c.2.1).bind fun g=>(zjs G rc nm N c.1 g c.2.2.1).bind fun f=>some (zcl i true f)
  | none=>if zg3 e then none else (rc nm N e).bind fun p=>some (zcl i p.1 p.2)
def ztP(rc:Rec)(nm:Names)(N:List Str)(t:List Expr×Nat×Pos)(e:Expr):Option Fs:=match zpk e with
 | some v=>(zsw t.1).bind fun xy=>(zf6 xy.1).bind fun x=>(zf6 xy.2).bind fun y=>(zsw v.1).bind fun ab =>
  if zma nm x.1 y.1 x.2 y.2 ab.1 ab.2 then (tgI true nm N N.length x.1).bind fun i=>(tgI true nm N N.length y.1).bind fun j=>if i=j then none else (rc nm N ab.1).bind fun p=>(rc nm N ab.2).bind fun q=>some (zn0 i j p.1 p.2 q.1 q.2)
  else if zng ab.1&&zng ab.2 then (tgG true nm N N.length (.Tuple t.1 t.2.1 t.2.2)).bind fun t=>(shE rc nm N e).bind fun f=>some (zhr t f) else none
 | none=>(tgG true nm N N.length (.Tuple t.1 t.2.1 t.2.2)).bind fun t=>(shE rc nm N e).bind fun f=>some (zhr t f)
def ztT(G:Genv)(rc:Rec)(nm:Names)(N:List Str)(o:Expr)(f:Str)(e:Expr):Option Fs :=
 (nmF o).bind fun x=>if zhH e then (if G.ob.df f&&G.ob.fk G.ob.cur f then (zdr nm N x.1).map fun i=>zfW G.ob.cur f i else none) else (if G.ob.df f||!G.ob.fk G.ob.cur f then none else (shE rc nm N o).bind fun fo=>(shE rc nm N e).bind fun fe=>some (zd2 G.ob.cur f fo fe))
def ztS(G:Genv)(rc:Rec)(nm:Names)(N:List Str)(o:Expr)(f:Str)(ix e:Expr):Option Fs :=
 if zf9 o&&G.ob.df f&&!zg3 e&&G.ob.fk G.ob.cur f then (nmF ix).bind fun x=>(zdr nm N x.1).bind fun i=>(shE rc nm N o).bind fun fo=>(shE rc nm N e).bind fun fe=>some (zhq G.ob.cur f fo i fe) else none
def zrO(G:Genv)(rc:Rec)(nm:Names)(N:List Str)(q:Expr×Expr×Pos)(e:Expr):Option Fs:=match zpq q.1 with
 | some a=>ztS G rc nm N a.1 a.2.1 q.2.1 e
 | none=>none
def zsg(G:Genv)(rc:Rec)(nm:Names)(N:List Str)(tg e:Expr):Option Fs:=match zf6 tg with
 | some x=>ztR G rc nm N x.1 e
 | none=>match zpk tg with
  | some t=>ztP rc nm N t e
  | none=>match zpq tg with
   | some a=>ztT G rc nm N a.1 a.2.1 e
   | none=>(zuO tg).bind fun q=>zrO G rc nm N q e
structure Mc where
 x:Str
 px:Pos
 m:Str
 ap:Pos
 a:Expr
 cp:Pos
def zmj(e:Expr):Option Mc:=(zpa e).bind fun c=>if c.2.2.1.isEmpty then (zpq c.1).bind fun t=>(zf6 t.1).bind fun x=>(zqP c.2.1).bind fun a=>some ⟨x.1,x.2,t.2.1,t.2.2,a,c.2.2.2⟩ else none
def zoR(G:Genv)(rc:Rec)(nm:Names)(N:List Str)(e:Expr):Option Fs:=match zmj e with
 | some c=>if decide (c.m = "append")&&(c.ap.endLine == c.cp.line) then (zdr nm N c.x).bind fun i=>(shE rc nm N c.a).bind fun f=>some (zj6 i f)
  else if zg3 e then none else (shE rc nm N e).map zlQ
 | none=>if zg3 e then none else (shE rc nm N e).map zlQ
def zsV(rc:Rec)(nm:Names)(N:List Str)(own:Bool)(e:Expr):Option Fs:=match own with
 | true=>(match e with
  | .Name x _=>(zdr nm N x).map zhp
  | e=>(rc nm N e).bind fun p=>if p.1 then some (zbh p.2) else none)
 | false=>(shE rc nm N e).map zbh
def rzG(G:Genv)(rc:Rec)(nm:Names)(N:List Str)(full:Bool)(a b:Option Expr):Option Fs:=if b.isNone then a.bind fun e=>(zpa e).bind fun c=>(zf6 c.1).bind fun x=>if c.2.2.1.isEmpty&&!c.2.1.isEmpty&&full&&zc2 nm x.1&&G.exc x.1 then (shL rc nm N c.2.1).bind fun fs=>some (sRz x.1 fs) else none else none
def stG(G:Genv)(rc:Rec)(rs:Bool->List Stmt->Option Fs)(nm:Names)(N:List Str)(own full:Bool)(st:Stmt):Option Fs:=match st with
 | .Pass _=>some sNx
 | .Break _=>some sBk
 | .Assign ts e _=>(zqP ts).bind fun tg=>zsg G rc nm N tg e
 | .Expr e _=>zoR G rc nm N e
 | .AugAssign tg op e _=>(zf6 tg).bind fun x=>(zse op).bind fun gg=>(tgI true nm N N.length x.1).bind fun i=>(shE rc nm N e).bind fun f=>some (zqf i gg f)
 | .Return o _=>(match o with | some e=>zsV rc nm N own e | none=>if own then none else some zlP)
 | .If c a b _=>if zb6 c then (shE rc nm N c).bind fun f=>(rs full a).bind fun g=>(rs full b).bind fun h=>some (sIf f g h) else none
 | .For tg it body el _=>if full&&el.isEmpty then (zjk G rc nm N tg it).bind fun i=>(tgG true nm N N.length tg).bind fun t=>(rs full body).bind fun b=>some (zjz t i b) else none
 | .Raise a b _=>rzG G rc nm N full a b
 | _=>none
end S2
namespace S2
open PySem PySem.Spec PyProof.Rows L2
def zoe(n:Nat)(own:Bool)(nm:Names)(N:List Str):Stmt->List Nat
 | .Assign [_] e _=>zcS n nm N e
 | .Expr (.Call (.Attribute _ _ _) args [] _) _=>args.flatMap (zcS n nm N)
 | .Expr e _=>zcS n nm N e
 | .Return (some (.Name x p)) _=>if own then [] else zcS n nm N (.Name x p)
 | .Return (some e) _=>zcS n nm N e
 | .If c _ _ _=>zcS n nm N c
 | .For _ it _ _ _=>zcS n nm N it
 | .While c _ _ _=>zcS n nm N c
 | _=>[]
def blk(ds:Stmt->Option Fs):List Stmt->Option Fs
 | []=>some sNx
 | s::r=>(ds s).bind fun f=>(blk ds r).bind fun g=>some (zaj f g)
def zmF(G:Genv)(own:Bool):Nat->Bool->Names->List Str->Stmt->Option Fs
 | 0,_,_,_,_=>none
 | n+1,full,nm,N,st=>(stG G (ztI G n) (fun fl b=>blk (zmF G own n fl nm N) b) nm N own full st).map (sFz (zoe n own nm N st))
section
variable{cl:Cf}{G:Genv}{k:Nat}{rc:Rec}{X:Cx}{nm:Names}{N:List Str}{E:St->XK}{own full:Bool}
theorem Gd.sto(g:Gd cl G k X nm N E full):Sto' X nm true:=⟨fun _ x _=>g.fn x⟩
theorem zi3{elt:Expr}{gs:List Comprehension}{scope:Scope}{p px:Pos}{x:Str}{l:Nat}{env:PySem.Env}:∃b,swapsWith (.ListComp elt gs scope p) (some (.Name x px)) l env=pure b:=⟨_,rfl⟩
theorem zlv{n:Nat}{t:Tg}{f:Fe}{De:Ends}{σ:St}{H:Hp}(q:tS cl E own (zhr t f) De σ H):zpm (tE cl E f) (tG cl n t) De σ H:=by
 obtain ⟨B,w,ρ,S,rfl,R,q⟩:=q;refine ⟨B,w,ρ,S,rfl,R,?_⟩;unfold zhr at q
 cases hf:f ρ S with
 | bad=>rw [hf] at q;exact q
 | exc c S1=>rw [hf] at q;exact fun w' R' F'=>q σ w' R' F'
 | ok d S1 =>
  rw [hf] at q;intro v w' R' F' h';dsimp only at q
  cases hp:t.put ρ d with
  | none=>rw [hp] at q;exact q.elim
  | some ρ'=>rw [hp] at q;exact ⟨B,w',ρ,S1,d,ρ',rfl,R',h',hp,fun σ' _ _ R2=>q σ' w' R2 F'⟩
theorem zqI{x y:Str}{px py pt pt2:Pos}{kt k2:Nat}{a b:Expr}(hk:X.env.scope.kind=.function)(hs:X.env.scope.names=nm)(h:zma nm x y px py a b=true) :
  swappedStores [.Tuple [.Name x px,.Name y py] kt pt] (.Tuple [a,b] k2 pt2) X.env=pure (some [x,y]):=by
 unfold zma at h;simp only [Bool.and_eq_true,decide_eq_true_eq,Bool.not_eq_true',decide_eq_false_iff_not] at h;obtain ⟨⟨⟨⟨⟨⟨⟨h1,h2⟩,h3⟩,h4⟩,h5⟩,h6⟩,h7⟩,h8⟩:=h
 have hb:X.env.blockKind=.function:=by unfold Env.blockKind;rw [hk];rfl
 have k1:X.env.kindOf x=some .local:=by unfold Env.kindOf;rw [hs];exact h1
 have k2':X.env.kindOf y=some .local:=by unfold Env.kindOf;rw [hs];exact h2
 have st:([a,b].any fun | .Starred ..=>true | _=>false)=false:=by
  cases a<;>first | (cases h5;done) | (cases b<;>first | rfl | cases h6)
 have ed:[x,y].eraseDups.length=2:=by
  have:(y == x)=false:=by rw [beq_eq_false_iff_ne];exact fun z=>h4 z.symm
  simp [List.eraseDups_cons,this]
 unfold swappedStores;simp only [hb,st];simp [k1,k2',h3,h7,h8,ed,Expr.pos];intro z;exfalso
 rcases z with z | z
 ·cases a<;>first | (cases h5;done) | cases z
 ·cases b<;>first | (cases h6;done) | cases z
theorem zmH(hs:zbI cl G k rc)(g:Gd cl G k X nm N E full){elt:Expr}{gg:Comprehension}{scope:Scope}{x:Str}{i:Nat}{f:Fe}{p px pos:Pos}(hi:tgI true nm N N.length x=some i)(h:zjs G rc nm N elt gg scope=some f) :
  PS X (.Assign [.Name x px] (.ListComp elt [gg] scope p) pos) (tS cl E own (zcl i true f)):=by
 obtain ⟨a1,a2,a3,a4,a5⟩:=zeE g.gx g.sto hi;obtain ⟨b,hb⟩:=zi3 (elt:=elt) (gs:=[gg]) (scope:=scope) (p:=p) (px:=px) (x:=x) (l:=pos.line) (env:=X.env)
 cases b with
 | false=>exact zjX a2 a3 a4 (zld hs g.gx h) hb a5
 | true =>
  obtain ⟨it,t,c,el,rfl,eg,S,i1,i2,i3,i4,i5⟩:=zfM hs g.gx h;rw [eg] at hb ⊢;refine PS.imp (zlZ g.gx.calm S a2 a3 a4 i1 i3 i4 i5 hb a5 (zf2 i2)) ?_;intro De σ H q;exact znq (zrN q)
theorem zrz{x y:Str}{px py pt pt2 p1 p2:Pos}{kt k2:Nat}{a b:Const}{ka kb:Nat}{env:PySem.Env}:swappedStores [.Tuple [.Name x px,.Name y py] kt pt] (.Tuple [.Constant a ka p1,.Constant b kb p2] k2 pt2) env=pure none:=by
 have hf:∀(c:Const) (k:Nat) (p:Pos),foldedForSure 8 (.Constant c k p)=true:=fun _ _ _=>rfl
 unfold swappedStores;simp only [List.all_cons,List.all_nil,hf,Bool.and_self,if_true]
 split<;>first | rfl | (split<;>first | rfl | (split<;>rfl))
theorem zpH{a i e:Expr}{p:Pos}{l:Nat}{env:PySem.Env}:swapsWithSole [.Subscript a i p] e l env=pure false:=by cases e<;>rfl
theorem zpK{a i e:Expr}{p:Pos}{env:PySem.Env}:swappedStores [.Subscript a i p] e env=pure none:=by cases e<;>rfl
theorem zpG{es:List Expr}{kk l:Nat}{p:Pos}{e:Expr}{env:PySem.Env}:swapsWithSole [.Tuple es kk p] e l env=pure false:=by cases e<;>rfl
theorem zpJ{es:List Expr}{kk:Nat}{p:Pos}{e:Expr}{env:PySem.Env}(h:zpk e=none):swappedStores [.Tuple es kk p] e env=pure none:=by cases e<;>first | rfl | cases h
theorem zmX{o e:Expr}{f:Str}{p:Pos}{l:Nat}{env:PySem.Env}:swapsWith e (some (.Attribute o f p)) l env=pure false:=by cases e<;>rfl
theorem zpe(hs:zbI cl G k rc)(g:Gd cl G k X nm N E full){e:Expr}{x:Str}{px:Pos}{f:Fs}{pos:Pos}(h:ztR G rc nm N x e=some f):PS X (.Assign [.Name x px] e pos) (tS cl E own f):=by
 unfold ztR at h;obtain ⟨i,h1,h⟩:=zab h
 cases hl:lcE e with
 | some c =>
  rw [hl] at h;obtain ⟨gg,h2,h⟩:=zab h;obtain ⟨fe,h3,h⟩:=zab h;cases h;rw [zq6 hl,zkt h2];exact zmH hs g h1 h3
 | none =>
  rw [hl] at h;dsimp only at h;split at h
  ·cases h
  ·rename_i hc;obtain ⟨⟨o,fe⟩,h2,h⟩:=zab h;cases h;obtain ⟨a1,a2,a3,a4,a5⟩:=zeE g.gx g.sto h1;obtain ⟨b1,b2,_,_⟩:=hs X nm N E g.gx _ o fe h2;have sw:=zfU (t:=some (.Name x px)) (l:=pos.line) (env:=X.env) (by simpa using hc)
   cases o with
   | false=>exact zpT a2 a3 a4 b2 sw a5
   | true=>exact zjX a2 a3 a4 (b1 rfl) sw a5
theorem zpd(hs:zbI cl G k rc)(g:Gd cl G k X nm N E full){e:Expr}{t:List Expr×Nat×Pos}{f:Fs}{pos:Pos}(h:ztP rc nm N t e=some f):PS X (.Assign [.Tuple t.1 t.2.1 t.2.2] e pos) (tS cl E own f):=by
 have tupCase:swappedStores [.Tuple t.1 t.2.1 t.2.2] e X.env=pure none->((tgG true nm N N.length (.Tuple t.1 t.2.1 t.2.2)).bind fun t=>(shE rc nm N e).bind fun f=>some (zhr t f))=some f->PS X (.Assign [.Tuple t.1 t.2.1 t.2.2] e pos) (tS cl E own f):=by
  intro sw2 h;obtain ⟨t',h1,h⟩:=zab h;obtain ⟨fe,h2,h⟩:=zab h;cases h;exact PS.imp (zm3 (za6 hs g.gx h2).1 (znB g.gx g.sto h1) zpG sw2 rfl) fun _ _ _ q=>zlv q
 unfold ztP at h
 cases hv:zpk e with
 | none =>
  rw [hv] at h;exact tupCase (zpJ hv) h
 | some v =>
  rw [hv] at h;obtain ⟨xy,h1,h⟩:=zab h;obtain ⟨x,h2,h⟩:=zab h;obtain ⟨y,h3,h⟩:=zab h;obtain ⟨ab,h4,h⟩:=zab h;have ev:=zjI hv
  have et:t.1=[.Name x.1 x.2,.Name y.1 y.2]:=by rw [zmV h1,zdh h2,zdh h3]
  rw [zmV h4] at ev;obtain ⟨a,b⟩:=ab;dsimp only at h ev;split at h
  ·rename_i hp;obtain ⟨i,h1,h⟩:=zab h;obtain ⟨j,h2,h⟩:=zab h;split at h
   ·cases h
   ·rename_i hij;obtain ⟨⟨o1,f1⟩,h3,h⟩:=zab h;obtain ⟨⟨o2,f2⟩,h4,h⟩:=zab h;cases h;obtain ⟨_,a2,a3,_,_⟩:=zeE g.gx g.sto h1;obtain ⟨_,_,b3,_,_⟩:=zeE g.gx g.sto h2;obtain ⟨p1,p2,_,p4⟩:=hs X nm N E g.gx a o1 f1 h3;obtain ⟨q1,q2,_,q4⟩:=hs X nm N E g.gx b o2 f2 h4
    have hx:X.env.scope.names.lookup x.1=some .local/\X.env.scope.names.lookup y.1=some .local:=by
     unfold zma at hp;simp only [Bool.and_eq_true,decide_eq_true_eq] at hp;rw [g.sc];exact ⟨hp.1.1.1.1.1.1.1,hp.1.1.1.1.1.1.2⟩
    have P1:PE X a (tO cl E o1 f1):=by cases o1 with | false=>exact p2 | true=>exact p1 rfl
    have P2:PE X b (tO cl E o2 f2):=by cases o2 with | false=>exact q2 | true=>exact q1 rfl
    rw [et,ev];exact PS.imp (zqq g.gx.calm a2 a3 b3 hij hx.1 hx.2 (zc6 P1 (zc6 P2 zfv (zcc (zaD q4))) (zcc (zaD p4))) (zqI g.kind g.sc hp) rfl) fun _ _ _ q=>zl9 q
  ·split at h
   ·rename_i hc;rw [Bool.and_eq_true] at hc;refine tupCase ?_ h;rw [et,ev]
    cases a<;>first | (cases hc.1;done) | (cases b<;>first | (cases hc.2;done) | exact zrz)
   ·cases h
theorem zpg(hs:zbI cl G k rc)(g:Gd cl G k X nm N E full){o e:Expr}{fl:Str}{ap:Pos}{f:Fs}{pos:Pos}(h:ztT G rc nm N o fl e=some f):PS X (.Assign [.Attribute o fl ap] e pos) (tS cl E own f):=by
 unfold ztT at h;obtain ⟨x,h1,hz⟩:=zab h;have e1:=zkx h1;clear h h1;subst e1;split at hz
 ·rename_i hd;split at hz
  ·rename_i hf;rw [Bool.and_eq_true] at hf;obtain ⟨i,h1,hz⟩:=za0 hz;subst hz;obtain ⟨s1,s2,s3,s4⟩:=g.gx.slot h1;obtain ⟨p,rfl⟩:=zmD hd;exact znO s1 s2 s3 s4 g.gx.same (g.gx.gok.fk _ _ hf.2) zmX
  ·cases hz
 ·split at hz
  ·cases hz
  ·rename_i hf;rw [Bool.not_eq_true,Bool.or_eq_false_iff,Bool.not_eq_false'] at hf;obtain ⟨fo,h2,hz⟩:=zab hz;obtain ⟨fe,h3,hz⟩:=zab hz;cases hz;exact znN g.gx.same (g.gx.gok.fk _ _ hf.2) (za6 hs g.gx h2).1 (za6 hs g.gx h3).1 zmX
theorem zpf(hs:zbI cl G k rc)(g:Gd cl G k X nm N E full){o ix e:Expr}{fl:Str}{ap p3:Pos}{f:Fs}{pos:Pos}(h:ztS G rc nm N o fl ix e=some f):PS X (.Assign [.Subscript (.Attribute o fl ap) ix p3] e pos) (tS cl E own f):=by
 unfold ztS at h;split at h
 ·rename_i hc;rw [Bool.and_eq_true,Bool.and_eq_true,Bool.and_eq_true,Bool.not_eq_true'] at hc;obtain ⟨x,h1,hz⟩:=zab h;have e1:=zkx h1;clear h h1;subst e1;obtain ⟨i,h1,hz⟩:=zab hz;obtain ⟨fo,h2,hz⟩:=zab hz;obtain ⟨fe,h3,hz⟩:=zab hz;cases hz;obtain ⟨s1,s2,s3,s4⟩:=g.gx.slot h1;refine znL s1 s2 s3 s4 g.gx.u16 g.gx.same (g.gx.gok.fk _ _ hc.2) (za6 hs g.gx h2).1 ?_ (za6 hs g.gx h3).1 zpH zpK ?_
  ·cases o<;>first | rfl | cases hc.1.1.1
  ·intro _;rfl
 ·cases h
theorem zrM(hs:zbI cl G k rc)(g:Gd cl G k X nm N E full){tg e:Expr}{f:Fs}{pos:Pos}(h:zsg G rc nm N tg e=some f):PS X (.Assign [tg] e pos) (tS cl E own f):=by
 unfold zsg at h
 cases h1:zf6 tg with
 | some x=>rw [h1] at h;rw [zdh h1];exact zpe hs g h
 | none =>
  rw [h1] at h
  cases h2:zpk tg with
  | some t=>rw [h2] at h;rw [zjI h2];exact zpd hs g h
  | none =>
   rw [h2] at h
   cases h3:zpq tg with
   | some a=>rw [h3] at h;rw [zhY h3];exact zpg hs g h
   | none =>
    rw [h3] at h;obtain ⟨q,h4,h⟩:=zab h;rw [znH h4];unfold zrO at h
    cases h5:zpq q.1 with
    | some a=>rw [h5] at h;rw [zhY h5];exact zpf hs g h
    | none =>
     rw [h5] at h;cases h
theorem zmi{e:Expr}{c:Mc}(h:zmj e=some c):e=.Call (.Attribute (.Name c.x c.px) c.m c.ap) [c.a] [] c.cp:=by
 unfold zmj at h;obtain ⟨c1,h1,h⟩:=zab h;split at h
 ·rename_i hk;obtain ⟨t,h2,h⟩:=zab h;obtain ⟨x,h3,h⟩:=zab h;obtain ⟨a,h4,h⟩:=zab h;cases h;rw [ziT h1,zhY h2,zdh h3,zkt h4,List.isEmpty_iff.mp hk]
 ·cases h
theorem zoQ(hs:zbI cl G k rc)(g:Gd cl G k X nm N E full){e:Expr}{f:Fs}{pos:Pos}(h:zoR G rc nm N e=some f):PS X (.Expr e pos) (tS cl E own f):=by
 unfold zoR at h
 cases hc:zmj e with
 | some c =>
  obtain ⟨x,px,m,ap,a,cp⟩:=c;obtain rfl:=zmi hc;rw [hc] at h;dsimp only at h;split at h
  ·rename_i hm;rw [Bool.and_eq_true] at hm;have em:=of_decide_eq_true hm.1;subst em;obtain ⟨i,h1,h⟩:=zab h;obtain ⟨fe,h2,h⟩:=zab h;cases h;obtain ⟨s1,s2,s3,s4⟩:=g.gx.slot h1;obtain ⟨a1,_,a3⟩:=za6 hs g.gx h2;exact zpU s1 s2 s3 s4 a1 (zaD a3) hm.2
  split at h
  ·cases h
  ·rename_i hc;obtain ⟨fe,h2,h⟩:=za0 h;subst h;exact zmY (za6 hs g.gx h2).1 (zfU (by simpa using hc))
 | none =>
  rw [hc] at h;dsimp only at h;split at h
  ·cases h
  ·rename_i hc;obtain ⟨fe,h2,h⟩:=za0 h;subst h;exact zmY (za6 hs g.gx h2).1 (zfU (by simpa using hc))
theorem zqi(hs:zbI cl G k rc)(g:Gd cl G k X nm N E full){e:Expr}{f:Fs}{pos:Pos}(h:zsV rc nm N own e=some f):PS X (.Return (some e) pos) (tS cl E own f):=by
 unfold zsV at h;split at h
 ·split at h
  ·obtain ⟨i,h1,h⟩:=za0 h;subst h;obtain ⟨s1,s2,s3,s4⟩:=g.gx.slot h1;exact znI s1 s2 s3 s4
  ·obtain ⟨⟨o,fe⟩,h1,h⟩:=zab h;dsimp only at h;split at h
   ·rename_i ho;cases h;exact znJ ((hs X nm N E g.gx _ o fe h1).1 ho)
   ·cases h
 ·obtain ⟨fe,h2,h⟩:=za0 h;subst h;exact zpO (za6 hs g.gx h2).1
theorem zsI(hs:zbI cl G k rc){rs:Bool->List Stmt->Option Fs}(hr:∀(fl:Bool) (X:Cx) (E:St->XK),Gd cl G k X nm N E fl->∀b f,rs fl b=some f->PSs X b (tS cl E own f))(g:Gd cl G k X nm N E full){st:Stmt}{f:Fs}(h:stG G rc rs nm N own full st=some f):PS X st (tS cl E own f):=by
 cases st with
 | Pass p=>cases h;exact znM
 | Break p=>cases h;exact zpR
 | Assign ts e p =>
  obtain ⟨tg,h1,h⟩:=zab (show ((zqP ts).bind fun tg=>zsg G rc nm N tg e)=some f from h);obtain rfl:=zkt h1;exact zrM hs g h
 | Expr e p=>exact zoQ hs g h
 | AugAssign tg op e p =>
  obtain ⟨x,h1,hz⟩:=zab (show ((zf6 tg).bind fun x=>(zse op).bind fun gg=>(tgI true nm N N.length x.1).bind fun i=>(shE rc nm N e).bind fun f=>some (zqf i gg f))=some f from h);obtain ⟨gg,h2,hz⟩:=zab hz;obtain ⟨i,h3,hz⟩:=zab hz;obtain ⟨fe,h4,hz⟩:=zab hz;cases hz;rw [zdh h1];obtain ⟨_,a2,a3,a4,a5⟩:=zeE g.gx g.sto h3;exact zpS h2 a2 a3 a4 (za6 hs g.gx h4).1 a5
 | Return o p =>
  cases o with
  | some e=>exact zqi hs g h
  | none =>
   have h':(if own then none else some zlP)=some f:=h;split at h'
   ·cases h'
   ·rename_i ho;cases h'
    have:own=false:=by simpa using ho
    subst this;exact znK
 | If c a b p =>
  have h':(if zb6 c then (shE rc nm N c).bind fun f=>(rs full a).bind fun g=>(rs full b).bind fun h=>some (sIf f g h) else none)=some f:=h;split at h'
  ·rename_i ht;obtain ⟨fc,h1,h⟩:=zab h';obtain ⟨fa,h2,h⟩:=zab h;obtain ⟨fb,h3,h⟩:=zab h;cases h;exact zsJ ((za6 hs g.gx h1).2.1 ht) (hr full X E g a fa h2) (hr full X E g b fb h3)
  ·cases h'
 | For tg it body el p =>
  have h':(if full&&el.isEmpty then (zjk G rc nm N tg it).bind fun i=>(tgG true nm N N.length tg).bind fun t=>(rs full body).bind fun b=>some (zjz t i b) else none)=some f:=h;split at h'
  ·rename_i hf;rw [Bool.and_eq_true] at hf;obtain rfl:=List.isEmpty_iff.mp hf.2;obtain ⟨it,h1,h⟩:=zab h';obtain ⟨t,h2,h⟩:=zab h;obtain ⟨fb,h3,h⟩:=zab h;cases h;obtain ⟨i1,i2⟩:=zkT hs g.gx (tg:=_) h1;exact zpQ (g.own hf.1) g.gx.calm i1 (znB g.gx g.sto h2) (hr full X E g _ fb h3) (zf2 i2)
  ·cases h'
 | Raise ea eb p =>
  have h':rzG G rc nm N full ea eb=some f:=h;unfold rzG at h';split at h'
  ·rename_i hb;obtain rfl:=Option.isNone_iff_eq_none.mp hb;obtain ⟨e0,e1,hz⟩:=zab h';obtain ⟨c0,h1,hy⟩:=zab hz;obtain ⟨⟨c,p⟩,h2,hx⟩:=zab hy;have e2:=ziT h1;obtain ⟨fn,args,kws,cp⟩:=c0;have e3:fn=.Name c p:=zdh h2;clear h h' hz hy h1 h2;subst e1;subst e2;subst e3;dsimp only at hx ⊢;split at hx
   ·rename_i hf;simp only [Bool.and_eq_true] at hf;obtain ⟨⟨⟨⟨k0,a0⟩,f0⟩,g0⟩,x0⟩:=hf;obtain rfl:=List.isEmpty_iff.mp k0
    cases args with
    | nil=>cases a0
    | cons e es =>
    obtain ⟨fs,h1,h⟩:=zab hx;cases h;obtain ⟨g1,g2,_⟩:=g.gx.glob g0;obtain ⟨m,z⟩:=g.gx.gok.exc c x0;obtain ⟨a1,a2,_⟩:=zeG hs g.gx h1;rw [List.all_cons,Bool.and_eq_true] at a2;refine PS.imp (zkf (g.raises f0) g.gx.calm g1 m z a1 (zcc a2.1) (zbE a2.2) g2) ?_;rintro De σ H ⟨B,w,ρ,S,rfl,R,q⟩;refine ⟨B,w,ρ,S,rfl,R,?_⟩;unfold sRz at q
    cases hv:zaq fs ρ S with
    | bad=>rw [hv] at q;exact q
    | exc c S1=>rw [hv] at q;exact fun w' R' F'=>q σ w' R' F'
    | ok ds S1 =>
     rw [hv] at q;dsimp only at q
     cases hz:zby ds.length with
     | false=>rw [hz,if_neg (by decide)] at q;exact q.elim
     | true =>
      rw [hz,if_pos rfl] at q;exact fun vs w' R' F' sh=>⟨by rw [sh.length];exact zbu hz,q σ w' R' F'⟩
   ·cases hx
  ·cases h'
 | _=>cases h
theorem ziU{ds:Stmt->Option Fs}(hd:∀st f,ds st=some f->PS X st (tS cl E own f)):∀{b:List Stmt} {f:Fs},blk ds b=some f->PSs X b (tS cl E own f)
 | [],f,h=>by cases h;exact zpP
 | s::r,f,h=>by
  unfold blk at h;obtain ⟨f1,h1,h⟩:=zab h;obtain ⟨f2,h2,h⟩:=zab h;cases h;exact znP (hd s f1 h1) (ziU hd h2)
theorem zgg:∀(n:Nat) (fl:Bool) (X:Cx) (E:St->XK),Gd cl G k X nm N E fl->∀st f,zmF G own n fl nm N st=some f->PS X st (tS cl E own f)
 | 0,_,_,_,_,_,_,h=>by cases h
 | n+1,fl,X,E,g,st,f,h=>by
  unfold zmF at h;obtain ⟨f1,h1,h⟩:=za0 h;subst h;exact zsK _ (zsI (znn n) (fun fl X E g b f hb=>ziU (fun st f hst=>zgg n fl X E g st f hst) hb) g h1)
end
def zbv(nN:Nat)(own:Bool)(fs:Fs)(ds:List D)(S:Sto):Out D:=match fs (ds.map (fun d=>some (false,d))++List.replicate (nN-ds.length) none) S with
 | .rt d S'=>.ok d S'
 | .nx _ S'=>if own then .bad else .ok .non S'
 | .ex c _ S'=>.exc c S'
 | _=>.bad
def zaf(G:Genv)(own:Bool)(N:List Str)(st:Stmt):Option Fs:=blk (zmF G own 40 true (zaa st).names N) (zbs st)
theorem zg7{P:Program}{wo:PySem.World}{K:PySem.W.Frag}{mg:Z6}{base:Heap}{cl:Cf}{G:Genv}{k:Nat}{x qual:Str}{st:Stmt}{f:Addr}{fd:FuncData}{N ps:List Str}{own:Bool}{fs:Fs}(F:Fun K x qual st f fd)(S:FnScope N ps (zaa st))(hG:GOk cl G P wo K mg base k)
  (hk:K=cl.K) (hP:P=cl.P) (hW:wo=cl.wo) (hd:zaf G own N st=some fs):FnOk P wo K mg base (CXE P wo) (k+1) f fd ps (zgz cl ps.length own (zbv N.length own fs)):=by
 obtain ⟨oc,od,kV,doc,pm,an,cdv,ct,osl,rfl,lk,hcd⟩:=F.ex;refine zrs lk hcd S (fun vs H Q E h=>h.1) fun A outer s H vs Q E hr hsp=>?_
 refine ⟨tS cl (fun _=>E) own fs,?_,?_⟩
 ·have g:Gd cl G k (zla (CXE P wo) P wo K mg base N qual (zaa st) f cdv A outer s H E) (zaa st).names N (fun _=>E) true :=
   ⟨⟨hG,hr,rfl,fun pins σ H1 s1 e s' I q=>zqH pins σ H1 s1 e s' I q,rfl,hk,hP,hW,S.nd,fun x kd h=>⟨kd,h,.inl rfl⟩,fun x h=>h⟩,fun _=>rfl,S.kind,rfl,fun _=>PassesOwn.leaving,fun _ C pins σ H1 s1 e h' vs I mk q=>zkc C pins σ H1 s1 e h' vs I mk q,rfl,rfl⟩
  exact ziU (fun st f hst=>zgg 40 true _ _ g st f hst) hd
 ·obtain ⟨hl,B,w,ds,S0,rfl,W,sh,q⟩:=hsp;have hdl:ds.length=vs.length:=sh.length.symm;refine ⟨B,w,ds.map (fun d=>some (false,d))++List.replicate (N.length-ds.length) none,S0,rfl,⟨W,?_,fun i o d hi=>?_⟩,?_⟩
  ·unfold L2.zeF;rw [List.length_append,List.length_append,List.length_map,List.length_map,List.length_replicate,List.length_replicate,hdl]
  ·by_cases hlt:i<ds.length
   ·rw [List.getElem?_append_left (by rw [List.length_map];exact hlt),List.getElem?_map] at hi
    cases hdi:ds[i]? with
    | none=>rw [hdi] at hi;cases hi
    | some d' =>
     rw [hdi] at hi;cases hi;obtain ⟨v,e1,e2⟩:=sh.at hdi;refine ⟨v,?_,e2⟩;unfold L2.zeF;rw [List.getElem?_append_left (by rw [List.length_map];omega),List.getElem?_map,e1];rfl
   ·rw [List.getElem?_append_right (by rw [List.length_map];omega),List.getElem?_replicate] at hi
    split at hi<;>cases hi
  ·unfold zbv at q
   cases hf:fs (ds.map (fun d=>some (false,d))++List.replicate (N.length-ds.length) none) S0 with
   | bad=>rw [hf] at q;exact q
   | bk _ _=>rw [hf] at q;exact q.elim
   | ct _ _=>rw [hf] at q;exact q.elim
   | rt d S'=>rw [hf] at q;exact q
   | ex c ρ' S'=>rw [hf] at q;exact fun σ' w' R' F'=>q w' R'.wd F'
   | nx ρ' S' =>
    rw [hf] at q;dsimp only at q
    cases own with
    | true=>exact q.elim
    | false=>exact fun σ' w' R' F'=>q .non w' R'.wd F' .non
structure FunD(K:PySem.W.Frag)(x qual:Str)(st:Stmt)(f:Addr)(fd:FuncData)(items:Array Value):Prop where
 ex:∃(oc:Value) (od:Option Addr) (T:Addr) (o:Obj) (n:Nat) (kV doc pm:Value) (an:Option Addr) (cdv ct:Value) (osl:Array (Option Value)),
  fd=PySem.W.fnOf x qual (zbH st) (zbs st) (zaa st) (.ref T) kV doc pm an cdv ct/\K.lookup f=some ⟨oc,od,.func fd,osl⟩/\PySem.W.codeIn K cdv qual=true/\K.lookup T=some o/\o.data=.seq items n
def inC(j:Nat):Stmt->Stmt | .ClassDef _ _ _ b ..=>b.getD j (.Pass ⟨0,0,0,0⟩) | s=>s
theorem zrr{P:Program}{wo:PySem.World}{K:PySem.W.Frag}{mg:Z6}{base:Heap}{cl:Cf}{G:Genv}{k:Nat}{x qual:Str}{st:Stmt}{f:Addr}{fd:FuncData}{N ps:List Str}{own:Bool}{fs:Fs}{items:Array Value}(F:FunD K x qual st f fd items)(S:FnScope N ps (zaa st))(hG:GOk cl G P wo K mg base k)
  (hk:K=cl.K) (hP:P=cl.P) (hW:wo=cl.wo) (hd:zaf G own N st=some fs):FnOk P wo K mg base (CXE P wo) (k+1) f fd ps (zgz cl ps.length own (zbv N.length own fs)):=by
 obtain ⟨oc,od,T,o,n,kV,doc,pm,an,cdv,ct,osl,rfl,lk,hcd,_⟩:=F.ex;refine zrs lk hcd S (fun vs H Q E h=>h.1) fun A outer s H vs Q E hr hsp=>?_
 refine ⟨tS cl (fun _=>E) own fs,?_,?_⟩
 ·have g:Gd cl G k (zla (CXE P wo) P wo K mg base N qual (zaa st) f cdv A outer s H E) (zaa st).names N (fun _=>E) true :=
   ⟨⟨hG,hr,rfl,fun pins σ H1 s1 e s' I q=>zqH pins σ H1 s1 e s' I q,rfl,hk,hP,hW,S.nd,fun x kd h=>⟨kd,h,.inl rfl⟩,fun x h=>h⟩,fun _=>rfl,S.kind,rfl,fun _=>PassesOwn.leaving,fun _ C pins σ H1 s1 e h' vs I mk q=>zkc C pins σ H1 s1 e h' vs I mk q,rfl,rfl⟩
  exact ziU (fun st f hst=>zgg 40 true _ _ g st f hst) hd
 ·obtain ⟨hl,B,w,ds,S0,rfl,W,sh,q⟩:=hsp;have hdl:ds.length=vs.length:=sh.length.symm;refine ⟨B,w,ds.map (fun d=>some (false,d))++List.replicate (N.length-ds.length) none,S0,rfl,⟨W,?_,fun i o d hi=>?_⟩,?_⟩
  ·unfold L2.zeF;rw [List.length_append,List.length_append,List.length_map,List.length_map,List.length_replicate,List.length_replicate,hdl]
  ·by_cases hlt:i<ds.length
   ·rw [List.getElem?_append_left (by rw [List.length_map];exact hlt),List.getElem?_map] at hi
    cases hdi:ds[i]? with
    | none=>rw [hdi] at hi;cases hi
    | some d' =>
     rw [hdi] at hi;cases hi;obtain ⟨v,e1,e2⟩:=sh.at hdi;refine ⟨v,?_,e2⟩;unfold L2.zeF;rw [List.getElem?_append_left (by rw [List.length_map];omega),List.getElem?_map,e1];rfl
   ·rw [List.getElem?_append_right (by rw [List.length_map];omega),List.getElem?_replicate] at hi
    split at hi<;>cases hi
  ·unfold zbv at q
   cases hf:fs (ds.map (fun d=>some (false,d))++List.replicate (N.length-ds.length) none) S0 with
   | bad=>rw [hf] at q;exact q
   | bk _ _=>rw [hf] at q;exact q.elim
   | ct _ _=>rw [hf] at q;exact q.elim
   | rt d S'=>rw [hf] at q;exact q
   | ex c ρ' S'=>rw [hf] at q;exact fun σ' w' R' F'=>q w' R'.wd F'
   | nx ρ' S' =>
    rw [hf] at q;dsimp only at q
    cases own with
    | true=>exact q.elim
    | false=>exact fun σ' w' R' F'=>q .non w' R'.wd F' .non
end S2
namespace S2
open PySem PySem.Spec PyProof.Rows L2
structure Tab where
 con:List (Str×D)
 blt:List Str
 exc:List Str
 und:List (Str×Str)
 rz:List Str
 fk:List (Str×Str)
 df:List Str
def ztt(rz exc:List Str)(c C:Str):Option Bool:=if rz.contains c then (if C = "ValueError" then some true else if exc.contains C then some (decide (C=c)||decide (C = "FloorError")) else none) else none
def zuI(l:List (Str×Str))(c C:Str):Bool:=l.contains (c,C)
structure Fn3 where
 cur:Str
 fs:List (Str×FnI)
 ms:List (Str×Str×FnI)
 ks:List (Str×List D×FnI)
def Gn(T:Tab)(F:Fn3):Genv:=⟨fun x=>T.con.lookup x,fun x=>F.fs.lookup x,fun x=>T.blt.contains x,fun x=>T.exc.contains x,zuI T.und,ztt T.rz T.exc,⟨F.cur,zuI T.fk,fun f=>T.df.contains f,fun m=>F.ms.lookup m,fun c=>F.ks.lookup c⟩⟩
def Fn3.fn(F:Fn3)(x:Str)(fi:FnI):Fn3:=⟨F.cur,(x,fi)::F.fs,F.ms,F.ks⟩
def Fn3.mt(F:Fn3)(m c:Str)(fi:FnI):Fn3:=⟨F.cur,F.fs,(m,c,fi)::F.ms,F.ks⟩
def Fn3.cls(F:Fn3)(c:Str)(dds:List D)(fi:FnI):Fn3:=⟨F.cur,F.fs,F.ms,(c,dds,fi)::F.ks⟩
def Fn3.at(F:Fn3)(c:Str):Fn3:=⟨c,F.fs,F.ms,F.ks⟩
section
variable{cl:Cf}{T:Tab}{P:Program}{wo:PySem.World}{K:PySem.W.Frag}{mg:Z6}{base:Heap}{k:Nat}{fs:Fn3}
theorem zcq{α:Type}{x y:Str}{a:α}{l:List (Str×α)}{b:α}(h:((x,a)::l).lookup y=some b):(y=x/\b=a)\/l.lookup y=some b:=by
 rw [List.lookup_cons] at h
 cases e:y == x with
 | true=>rw [e] at h;cases h;exact .inl ⟨eq_of_beq e,rfl⟩
 | false=>rw [e] at h;exact .inr h
theorem zfH{α:Type}{p:α->Prop}:∀x∈([]:List α),p x:=fun _ h=>nomatch h
theorem zav{α:Type}{p:α->Prop}{a:α}{l:List α}(h:p a)(t:∀x∈l,p x):∀x∈a::l,p x:=fun x hx=>(List.mem_cons.mp hx).elim (fun e=>e ▸ h) (t x)
theorem zgZ{α:Type}{x:Str}{a:α}:∀{l:List (Str×α)},l.lookup x=some a->(x,a)∈l
 | [],h=>by cases h
 | (y,b)::l,h=>by
  rcases zcq h with ⟨rfl,rfl⟩ | h
  ·exact List.mem_cons_self
  ·exact List.mem_cons_of_mem _ (zgZ h)
def ztV(K:PySem.W.Frag)(cl:Cf)(exc:List Str)(c:Str):Prop:=PySem.W.ExcCls K (cl c)/\PySem.W.kitOne K (.ref (cl c)) (.type "ValueError")=some true/\∀C∈exc,PySem.W.kitOne K (.ref (cl c)) (.ref (cl C))=some (decide (C=c)||decide (C = "FloorError"))
theorem zxq(hc:∀p∈T.con,∃v u,mg p.1=some u/\zbt v u/\∀w,Shd cl w v p.2)(hb:∀x∈T.blt,mg x=none)(he:∀c∈T.exc,mg c=some (.ref (cl c))/\PySem.W.excIn K (cl c) bmV "ValueError.__new__" = true)(hu:∀p∈T.und,L2.zpj K (cl p.1) (cl p.2))(hx:∀c∈T.rz,ztV K cl T.exc c)(hfk:∀p∈T.fk,Cls cl.K (cl p.1)/\zdv cl.K (cl p.1) p.2):GOk cl (Gn T ⟨"",[],[],[]⟩) P wo K mg base 0 where
 fk:=fun c f h=>hfk (c,f) (by simpa using (show T.fk.contains (c,f)=true from h))
 mt:=fun m c fi h=>by cases h
 mks:=fun c dds fi h=>by cases h
 con:=fun x d h=>hc (x,d) (zgZ h)
 fn:=fun x fi h=>by cases h
 blt:=fun x h=>hb x (by simpa using (show T.blt.contains x=true from h))
 exc:=fun c h=>he c (by simpa using (show T.exc.contains c=true from h))
 und:=fun c C h=>hu (c,C) (by simpa using (show T.und.contains (c,C)=true from h))
 isx:=fun c C b h=>by
  have h':ztt T.rz T.exc c C=some b:=h;unfold ztt at h';split at h'
  ·rename_i hc;obtain ⟨x1,x2,x3⟩:=hx c (by simpa using hc);refine ⟨x1,?_⟩;unfold zvW;split at h'
   ·rename_i hC;cases h';rw [if_pos hC];exact x2
   ·rename_i hC;rw [if_neg hC];split at h'
    ·rename_i hm;cases h';exact x3 C (by simpa using hm)
    ·cases h'
  ·cases h'
theorem GOk.add{x:Str}{fi:FnI}{f:Addr}{fd:FuncData}{ps:List Str}(g:GOk cl (Gn T fs) P wo K mg base k)(m:mg x=some (.ref f))(kp:PySem.W.keepIn K (.ref f)=true)(b:zbJ K fd ps [])(F:FnOk P wo K mg base (CXE P wo) (k+1) f fd ps (zgz cl fi.ar fi.own fi.run)) :
  GOk cl (Gn T (fs.fn x fi)) P wo K mg base (k+1) where
 con:=g.con
 fn:=fun y fj h=>by
  rcases zcq h with ⟨rfl,rfl⟩ | h
  ·exact ⟨f,fd,ps,m,kp,b,F⟩
  ·obtain ⟨f',fd',ps',h1,h2,h3,h4⟩:=g.fn y fj h;exact ⟨f',fd',ps',h1,h2,h3,h4.mono (Nat.le_succ _)⟩
 blt:=g.blt
 exc:=g.exc
 und:=g.und
 isx:=g.isx
 fk:=g.fk
 mt:=fun m c fi h=>by
  obtain ⟨f',fd',ps',h1,h2,h3,h4⟩:=g.mt m c fi h;exact ⟨f',fd',ps',h1,h2,h3,h4.mono (Nat.le_succ _)⟩
 mks:=fun c dds fi h=>by
  obtain ⟨f',fd',ps',dvs,ds,k',hk,z⟩:=g.mks c dds fi h;exact ⟨f',fd',ps',dvs,ds,k',Nat.le_succ_of_le hk,z⟩
theorem GOk.at(g:GOk cl (Gn T fs) P wo K mg base k)(c:Str):GOk cl (Gn T (fs.at c)) P wo K mg base k:=⟨g.con,g.fn,g.blt,g.exc,g.und,g.isx,g.fk,g.mt,g.mks⟩
theorem GOk.up{k':Nat}(g:GOk cl (Gn T fs) P wo K mg base k)(hk:k<=k'):GOk cl (Gn T fs) P wo K mg base k' where
 con:=g.con
 fn:=fun y fj h=>by
  obtain ⟨f',fd',ps',h1,h2,h3,h4⟩:=g.fn y fj h;exact ⟨f',fd',ps',h1,h2,h3,h4.mono hk⟩
 blt:=g.blt
 exc:=g.exc
 und:=g.und
 isx:=g.isx
 fk:=g.fk
 mt:=fun m c fi h=>by
  obtain ⟨f',fd',ps',h1,h2,h3,h4⟩:=g.mt m c fi h;exact ⟨f',fd',ps',h1,h2,h3,h4.mono hk⟩
 mks:=fun c dds fi h=>by
  obtain ⟨f',fd',ps',dvs,ds,j,hj,z⟩:=g.mks c dds fi h;exact ⟨f',fd',ps',dvs,ds,j,Nat.le_trans hj hk,z⟩
theorem GOk.addM{m c:Str}{fi:FnI}{f:Addr}{fd:FuncData}{ps:List Str}(g:GOk cl (Gn T fs) P wo K mg base k)(cc:Cls K (cl c))(hm:Meth K (cl c) m f)(b:zbJ K fd ps [])(F:FnOk P wo K mg base (CXE P wo) k f fd ps (zgz cl fi.ar fi.own fi.run)) :
  GOk cl (Gn T (fs.mt m c fi)) P wo K mg base k where
 con:=g.con
 fn:=g.fn
 blt:=g.blt
 exc:=g.exc
 und:=g.und
 isx:=g.isx
 fk:=g.fk
 mt:=fun m' c' fi' h=>by
  rcases zcq h with ⟨rfl,e⟩ | h
  ·cases e;exact ⟨f,fd,ps,cc,hm,b,F⟩
  ·exact g.mt m' c' fi' h
 mks:=g.mks
theorem GOk.addK{c:Str}{dds:List D}{fi:FnI}{f:Addr}{fd:FuncData}{ps:List Str}{dvs:List V}{ds:List Value}{k':Nat}(g:GOk cl (Gn T fs) P wo K mg base k)(hk:k'+1<=k)(hm:mg c=some (.ref (cl c)))(M:Mk K (cl c) f)(b0:zbJ K fd ps [])(bD:zbJ K fd ps ds)(vd:Vals dvs ds)(sd:∀w,Shds cl w dvs dds)(F:FnOk P wo K mg base (CXE P wo) k' f fd ps (zgz cl fi.ar false fi.run)) :
  GOk cl (Gn T (fs.cls c dds fi)) P wo K mg base k where
 con:=g.con
 fn:=g.fn
 blt:=g.blt
 exc:=g.exc
 und:=g.und
 isx:=g.isx
 fk:=g.fk
 mt:=g.mt
 mks:=fun c' dds' fi' h=>by
  rcases zcq h with ⟨rfl,e⟩ | h
  ·cases e;exact ⟨f,fd,ps,dvs,ds,k',hk,hm,M,b0,bD,vd,sd,F⟩
  ·exact g.mks c' dds' fi' h
def zlV(nN:Nat)(own:Bool)(body:(List D->Sto->Out D)->Fs):Nat->List D->Sto->Out D
 | 0=>fun _ _=>.bad
 | n+1=>zbv nN own (body (zlV nN own body n))
theorem zeh{n:Nat}{own:Bool}{vs:List V}{H:Hp}{Q:VK}{E:XK}(h:zgz cl n own (fun _ _=>.bad) vs H Q E):False:=by
 obtain ⟨_,B,w,ds,S,_,_,_,q⟩:=h;exact q
theorem GOk.addR{m c qual:Str}{st:Stmt}{f:Addr}{fd:FuncData}{N ps:List Str}{own:Bool}{body:(List D->Sto->Out D)->Fs}(g:GOk cl (Gn T fs) P wo K mg base k)(U:Fun K m qual st f fd)(S:FnScope N ps (zaa st))(hK:K=cl.K)(hP:P=cl.P)(hW:wo=cl.wo)(cc:Cls K (cl c))(hm:Meth K (cl c) m f)(b:zbJ K fd ps [])
  (hd:∀r,zaf (Gn T ((fs.mt m c ⟨ps.length,own,r⟩).at c)) own N st=some (body r)):∀n,GOk cl (Gn T (fs.mt m c ⟨ps.length,own,zlV N.length own body n⟩)) P wo K mg base (k+n)
 | 0=>g.addM cc hm b ⟨fun vs H Q E h=>(zeh h).elim,fun A outer s H args us vs Q E hr he hb hv h=>(zeh h).elim⟩
 | n+1=>(g.up (Nat.le_add_right k (n+1))).addM cc hm b (zg7 U S ((g.addR U S hK hP hW cc hm b hd n).at c) hK hP hW (hd _))
end
def zlL(K:PySem.W.Frag):Sp:=fun vs H Q _=>∃(a:Addr) (ns:List Int),vs=[.ref a]/\ns.length<=63/\zsh H/\SqL K H a (ns.map V.int)/\∀H',Q (.bl true) H'
theorem zq7{cl:Cf}{run:List D->Sto->Out D}(hr:∀l:List Int,l.length<=63->∃S,run [.scr l] []=.ok (.bl true) S):∀vs H Q E,zlL cl.K vs H Q E->zgz cl 1 false run vs H Q E:=by
 rintro vs H Q E ⟨a,ns,rfl,hl,hO,hS,q⟩;refine ⟨rfl,⟨fun _=>none,fun _=>none⟩,⟨H,fun _=>none,[]⟩,[.scr ns],[],rfl,⟨(fun a o h=>by cases h),(fun a r h=>by cases h),rfl,(fun n ob h=>by simp at h)⟩,.cons ?_ .nil,?_⟩
 ·rcases hS with (hS | ⟨o,hS⟩) | hS
  ·rcases hO a with z | ⟨o,xs,z⟩
   ·rw [hS] at z;cases z
   ·rw [hS] at z;cases z
  ·exact .scr hS rfl
  ·exact .scrK fun H=>.inr hS
 ·obtain ⟨S',e⟩:=hr ns hl;rw [e];intro v w' _ _ r;have r':Shd cl w' v (.bl true):=r;cases r';exact q _
end S2
namespace S2
open PySem PySem.Spec PyProof.Rows L2
abbrev Rn:=List D->Sto->Out D
def zfg(n1 n2 n3:Nat)(b1 b2 b3:Rn->Rn->Rn->Fs):Nat->Rn×Rn×Rn
 | 0=>(fun _ _=>.bad,fun _ _=>.bad,fun _ _=>.bad)
 | n+1=>(zbv n1 false (b1 (zfg n1 n2 n3 b1 b2 b3 n).1 (zfg n1 n2 n3 b1 b2 b3 n).2.1 (zfg n1 n2 n3 b1 b2 b3 n).2.2),zbv n2 false (b2 (zfg n1 n2 n3 b1 b2 b3 n).1 (zfg n1 n2 n3 b1 b2 b3 n).2.1 (zfg n1 n2 n3 b1 b2 b3 n).2.2),zbv n3 false (b3 (zfg n1 n2 n3 b1 b2 b3 n).1 (zfg n1 n2 n3 b1 b2 b3 n).2.1 (zfg n1 n2 n3 b1 b2 b3 n).2.2))
section
variable{cl:Cf}{T:Tab}{P:Program}{wo:PySem.World}{K:PySem.W.Frag}{mg:Z6}{base:Heap}{k:Nat}{fs:Fn3}
theorem GOk.addR3{m1 m2 m3 c q1 q2 q3:Str}{st1 st2 st3:Stmt}{f1 f2 f3:Addr}{fd1 fd2 fd3:FuncData}{N1 N2 N3 ps1 ps2 ps3:List Str}{b1 b2 b3:Rn->Rn->Rn->Fs}(g:GOk cl (Gn T fs) P wo K mg base k)
  (U1:Fun K m1 q1 st1 f1 fd1) (U2:Fun K m2 q2 st2 f2 fd2) (U3:Fun K m3 q3 st3 f3 fd3) (S1:FnScope N1 ps1 (zaa st1)) (S2:FnScope N2 ps2 (zaa st2)) (S3:FnScope N3 ps3 (zaa st3)) (hK:K=cl.K) (hP:P=cl.P) (hW:wo=cl.wo) (cc:Cls K (cl c))
  (e1:Meth K (cl c) m1 f1) (e2:Meth K (cl c) m2 f2) (e3:Meth K (cl c) m3 f3) (w1:zbJ K fd1 ps1 []) (w2:zbJ K fd2 ps2 []) (w3:zbJ K fd3 ps3 [])
  (d1:∀r1 r2 r3,zaf (Gn T ((((fs.mt m1 c ⟨ps1.length,false,r1⟩).mt m2 c ⟨ps2.length,false,r2⟩).mt m3 c ⟨ps3.length,false,r3⟩).at c)) false N1 st1=some (b1 r1 r2 r3))
  (d2:∀r1 r2 r3,zaf (Gn T ((((fs.mt m1 c ⟨ps1.length,false,r1⟩).mt m2 c ⟨ps2.length,false,r2⟩).mt m3 c ⟨ps3.length,false,r3⟩).at c)) false N2 st2=some (b2 r1 r2 r3))
  (d3:∀r1 r2 r3,zaf (Gn T ((((fs.mt m1 c ⟨ps1.length,false,r1⟩).mt m2 c ⟨ps2.length,false,r2⟩).mt m3 c ⟨ps3.length,false,r3⟩).at c)) false N3 st3=some (b3 r1 r2 r3)) :
  ∀n,GOk cl (Gn T (((fs.mt m1 c ⟨ps1.length,false,(zfg N1.length N2.length N3.length b1 b2 b3 n).1⟩).mt m2 c ⟨ps2.length,false,(zfg N1.length N2.length N3.length b1 b2 b3 n).2.1⟩).mt m3 c ⟨ps3.length,false,(zfg N1.length N2.length N3.length b1 b2 b3 n).2.2⟩)) P wo K mg base (k+n)
 | 0=>((g.addM cc e1 w1 ⟨fun vs H Q E h=>(zeh h).elim,fun A outer s H args us vs Q E hr he hb hv h=>(zeh h).elim⟩).addM cc e2 w2 ⟨fun vs H Q E h=>(zeh h).elim,fun A outer s H args us vs Q E hr he hb hv h=>(zeh h).elim⟩).addM cc e3 w3 ⟨fun vs H Q E h=>(zeh h).elim,fun A outer s H args us vs Q E hr he hb hv h=>(zeh h).elim⟩
 | n+1 =>
  have ih:=(GOk.addR3 g U1 U2 U3 S1 S2 S3 hK hP hW cc e1 e2 e3 w1 w2 w3 d1 d2 d3 n).at c
  (((g.up (Nat.le_add_right k (n+1))).addM cc e1 w1 (zg7 U1 S1 ih hK hP hW (d1 _ _ _))).addM cc e2 w2 (zg7 U2 S2 ih hK hP hW (d2 _ _ _))).addM cc e3 w3 (zg7 U3 S3 ih hK hP hW (d3 _ _ _))
theorem GOk.addR3x{m1 m2 m3 c q1 q2 q3:Str}{st1 st2 st3:Stmt}{f1 f2 f3:Addr}{fd1 fd2 fd3:FuncData}{N1 N2 N3 ps1 ps2 ps3:List Str}{b1 b2 b3:Rn->Rn->Rn->Fs}{n n1 n2 n3 l1 l2 l3:Nat}{r1 r2 r3:Rn}(g:GOk cl (Gn T fs) P wo K mg base k)
  (U1:Fun K m1 q1 st1 f1 fd1) (U2:Fun K m2 q2 st2 f2 fd2) (U3:Fun K m3 q3 st3 f3 fd3) (S1:FnScope N1 ps1 (zaa st1)) (S2:FnScope N2 ps2 (zaa st2)) (S3:FnScope N3 ps3 (zaa st3)) (hK:K=cl.K) (hP:P=cl.P) (hW:wo=cl.wo) (cc:Cls K (cl c))
  (e1:Meth K (cl c) m1 f1) (e2:Meth K (cl c) m2 f2) (e3:Meth K (cl c) m3 f3) (w1:zbJ K fd1 ps1 []) (w2:zbJ K fd2 ps2 []) (w3:zbJ K fd3 ps3 [])
  (d1:∀r1 r2 r3,zaf (Gn T ((((fs.mt m1 c ⟨ps1.length,false,r1⟩).mt m2 c ⟨ps2.length,false,r2⟩).mt m3 c ⟨ps3.length,false,r3⟩).at c)) false N1 st1=some (b1 r1 r2 r3))
  (d2:∀r1 r2 r3,zaf (Gn T ((((fs.mt m1 c ⟨ps1.length,false,r1⟩).mt m2 c ⟨ps2.length,false,r2⟩).mt m3 c ⟨ps3.length,false,r3⟩).at c)) false N2 st2=some (b2 r1 r2 r3))
  (d3:∀r1 r2 r3,zaf (Gn T ((((fs.mt m1 c ⟨ps1.length,false,r1⟩).mt m2 c ⟨ps2.length,false,r2⟩).mt m3 c ⟨ps3.length,false,r3⟩).at c)) false N3 st3=some (b3 r1 r2 r3))
  (a1:N1.length=n1) (a2:N2.length=n2) (a3:N3.length=n3) (p1:ps1.length=l1) (p2:ps2.length=l2) (p3:ps3.length=l3) (z1:r1=(zfg n1 n2 n3 b1 b2 b3 n).1) (z2:r2=(zfg n1 n2 n3 b1 b2 b3 n).2.1) (z3:r3=(zfg n1 n2 n3 b1 b2 b3 n).2.2) :
  GOk cl (Gn T (((fs.mt m1 c ⟨l1,false,r1⟩).mt m2 c ⟨l2,false,r2⟩).mt m3 c ⟨l3,false,r3⟩)) P wo K mg base (k+n):=by
 subst a1 a2 a3 p1 p2 p3 z1 z2 z3;exact GOk.addR3 g U1 U2 U3 S1 S2 S3 hK hP hW cc e1 e2 e3 w1 w2 w3 d1 d2 d3 n
end
end S2
namespace S2
open PySem PySem.Spec PyProof.Rows L2
structure FnT(K:PySem.W.Frag)(x q:Str)(st:Stmt)(f:Addr):Prop where
 ex:∃(oc:Value) (od:Option Addr) (kV dc pm:Value) (an:Option Addr) (cd ct:Value) (sl:Array (Option Value)),K.lookup f=some ⟨oc,od,.func (PySem.W.fnOf x q (zbH st) (zbs st) (zaa st) .none kV dc pm an cd ct),sl⟩/\PySem.W.codeIn K cd q=true/\PySem.W.keepIn K (.ref f)=true/\PySem.W.isFn K (.ref f)=true
structure GFn(K:PySem.W.Frag)(x:Str)(st:Stmt):Prop where
 ex:∃f,PySem.W.nsIn K mainGlobals x=some (some (.ref f))/\FnT K x x st f
structure MFn(K:PySem.W.Frag)(C:Addr)(m q:Str)(st:Stmt):Prop where
 ex:∃f,PySem.W.findIn K (.ref C) m=some (some (.ref f))/\FnT K m q st f
def BB(x q:Str)(st:Stmt)(ps:List Str):Prop:=∀(kV doc pm:Value) (an:Option Addr) (cdv ct:Value) (us:List Value),us.length=ps.length->bindArgs (PySem.W.fnOf x q (zbH st) (zbs st) (zaa st) .none kV doc pm an cdv ct) ⟨us,[]⟩=pure (ps.zip us)
theorem bb0{p:List Value->Prop}(h:p []):∀us:List Value,us.length=0->p us:=fun us e=>by rw [List.eq_nil_of_length_eq_zero e];exact h
theorem bbS{n:Nat}{p:List Value->Prop}(h:∀a:Value,∀us:List Value,us.length=n->p (a::us)):∀us:List Value,us.length=n+1->p us:=fun us e=>by
 cases us with
 | nil=>cases e
 | cons a us=>exact h a us (Nat.succ.inj e)
theorem bb1{p:List Value->Prop}(h:∀a0:Value,p [a0]):∀us:List Value,us.length=1->p us:=bbS fun a0=>bb0 (h a0)
theorem bb2{p:List Value->Prop}(h:∀a0 a1:Value,p [a0,a1]):∀us:List Value,us.length=2->p us:=bbS fun a0=>bbS fun a1=>bb0 (h a0 a1)
theorem bb3{p:List Value->Prop}(h:∀a0 a1 a2:Value,p [a0,a1,a2]):∀us:List Value,us.length=3->p us:=bbS fun a0=>bbS fun a1=>bbS fun a2=>bb0 (h a0 a1 a2)
theorem bb4{p:List Value->Prop}(h:∀a0 a1 a2 a3:Value,p [a0,a1,a2,a3]):∀us:List Value,us.length=4->p us:=bbS fun a0=>bbS fun a1=>bbS fun a2=>bbS fun a3=>bb0 (h a0 a1 a2 a3)
section
variable{cl:Cf}{T:Tab}{P:Program}{wo:PySem.World}{K:PySem.W.Frag}{mg:Z6}{base:Heap}{k:Nat}{fs:Fn3}
theorem FnT.un{x q:Str}{st:Stmt}{f:Addr}{ps:List Str}(p:FnT K x q st f)(b:BB x q st ps):∃fd,Fun K x q st f fd/\zbJ K fd ps []/\PySem.W.keepIn K (.ref f)=true/\PySem.W.isFn K (.ref f)=true:=by
 obtain ⟨oc,od,kV,dc,pm,an,cd,ct,sl,l,c,kp,i⟩:=p.ex;have U:=zni (st:=st) l c kp;exact ⟨_,U,U.binds b,kp,i⟩
theorem GOk.addG{x:Str}{st:Stmt}{N ps:List Str}{own:Bool}{f_:Fs}{h:Heap}(g:GOk cl (Gn T fs) P wo K mg base k)(X:K.In h)(G:h.Ns mainGlobals mg)(p:GFn K x st)(S:FnScope N ps (zaa st))(hK:K=cl.K)(hP:P=cl.P)(hW:wo=cl.wo)(b:BB x x st ps)(hd:zaf (Gn T fs) own N st=some f_) :
  GOk cl (Gn T (fs.fn x ⟨ps.length,own,zbv N.length own f_⟩)) P wo K mg base (k+1):=by
 obtain ⟨f,a,p⟩:=p.ex;obtain ⟨fd,U,B,kp,_⟩:=p.un b;exact GOk.add g (PySem.W.mg_of X G a) kp B (zg7 U S g hK hP hW hd)
theorem GOk.addMG{m c q:Str}{st:Stmt}{N ps:List Str}{own:Bool}{f_:Fs}(g:GOk cl (Gn T fs) P wo K mg base k)(cc:Cls K (cl c))(p:MFn K (cl c) m q st)(S:FnScope N ps (zaa st))(hK:K=cl.K)(hP:P=cl.P)(hW:wo=cl.wo)(b:BB m q st ps)(hd:zaf (Gn T (fs.at c)) own N st=some f_) :
  GOk cl (Gn T (fs.mt m c ⟨ps.length,own,zbv N.length own f_⟩)) P wo K mg base (k+1):=by
 obtain ⟨f,a,p⟩:=p.ex;obtain ⟨fd,U,B,kp,i⟩:=p.un b;exact GOk.addM (g.up (Nat.le_succ _)) cc ⟨a,i,kp⟩ B (zg7 U S (g.at c) hK hP hW hd)
theorem GOk.addRG{m c q:Str}{st:Stmt}{N ps:List Str}{own:Bool}{body:(List D->Sto->Out D)->Fs}(g:GOk cl (Gn T fs) P wo K mg base k)(cc:Cls K (cl c))(p:MFn K (cl c) m q st)(S:FnScope N ps (zaa st))(hK:K=cl.K)(hP:P=cl.P)(hW:wo=cl.wo)(b:BB m q st ps)
  (hd:∀r,zaf (Gn T ((fs.mt m c ⟨ps.length,own,r⟩).at c)) own N st=some (body r)) (n:Nat):GOk cl (Gn T (fs.mt m c ⟨ps.length,own,zlV N.length own body n⟩)) P wo K mg base (k+n):=by
 obtain ⟨f,a,p⟩:=p.ex;obtain ⟨fd,U,B,kp,i⟩:=p.un b;exact GOk.addR g U S hK hP hW cc ⟨a,i,kp⟩ B hd n
theorem GOk.addKG{c q:Str}{st:Stmt}{N ps:List Str}{f_:Fs}{h:Heap}(g:GOk cl (Gn T fs) P wo K mg base k)(X:K.In h)(G:h.Ns mainGlobals mg)(ny:PySem.W.nsIn K mainGlobals c=some (some (.ref (cl c))))(mk:PySem.W.makesIn K (cl c)=true)(kpc:PySem.W.keepIn K (.ref (cl c))=true)(p:MFn K (cl c) "__init__" q st)(S:FnScope N ps (zaa st))(hK:K=cl.K)(hP:P=cl.P)(hW:wo=cl.wo)(b:BB "__init__" q st ps)(hd:zaf (Gn T (fs.at c)) false N st=some f_) :
  GOk cl (Gn T (fs.cls c [] ⟨ps.length,false,zbv N.length false f_⟩)) P wo K mg base (k+2):=by
 obtain ⟨f,a,p⟩:=p.ex;obtain ⟨fd,U,B,kp,i⟩:=p.un b;exact GOk.addK (k':=k+1) (dvs:=[]) (fi:=⟨ps.length,false,zbv N.length false f_⟩) (g.up (Nat.le_add_right k 2)) (Nat.le_refl _) (PySem.W.mg_of X G ny) ⟨mk,a,i,kpc⟩ B B .nil (fun _=>.nil) (zg7 U S (g.at c) hK hP hW hd)
theorem GOk.addR3G{m1 m2 m3 c q1 q2 q3:Str}{st1 st2 st3:Stmt}{N1 N2 N3 ps1 ps2 ps3:List Str}{b1 b2 b3:Rn->Rn->Rn->Fs}{n n1 n2 n3 l1 l2 l3:Nat}{r1 r2 r3:Rn}(g:GOk cl (Gn T fs) P wo K mg base k)(cc:Cls K (cl c))(e1:MFn K (cl c) m1 q1 st1)(e2:MFn K (cl c) m2 q2 st2)(e3:MFn K (cl c) m3 q3 st3)
  (S1:FnScope N1 ps1 (zaa st1)) (S2:FnScope N2 ps2 (zaa st2)) (S3:FnScope N3 ps3 (zaa st3)) (hK:K=cl.K) (hP:P=cl.P) (hW:wo=cl.wo) (w1:BB m1 q1 st1 ps1) (w2:BB m2 q2 st2 ps2) (w3:BB m3 q3 st3 ps3)
  (d1:∀r1 r2 r3,zaf (Gn T ((((fs.mt m1 c ⟨ps1.length,false,r1⟩).mt m2 c ⟨ps2.length,false,r2⟩).mt m3 c ⟨ps3.length,false,r3⟩).at c)) false N1 st1=some (b1 r1 r2 r3))
  (d2:∀r1 r2 r3,zaf (Gn T ((((fs.mt m1 c ⟨ps1.length,false,r1⟩).mt m2 c ⟨ps2.length,false,r2⟩).mt m3 c ⟨ps3.length,false,r3⟩).at c)) false N2 st2=some (b2 r1 r2 r3))
  (d3:∀r1 r2 r3,zaf (Gn T ((((fs.mt m1 c ⟨ps1.length,false,r1⟩).mt m2 c ⟨ps2.length,false,r2⟩).mt m3 c ⟨ps3.length,false,r3⟩).at c)) false N3 st3=some (b3 r1 r2 r3))
  (a1:N1.length=n1) (a2:N2.length=n2) (a3:N3.length=n3) (p1:ps1.length=l1) (p2:ps2.length=l2) (p3:ps3.length=l3) (z1:r1=(zfg n1 n2 n3 b1 b2 b3 n).1) (z2:r2=(zfg n1 n2 n3 b1 b2 b3 n).2.1) (z3:r3=(zfg n1 n2 n3 b1 b2 b3 n).2.2) :
  GOk cl (Gn T (((fs.mt m1 c ⟨l1,false,r1⟩).mt m2 c ⟨l2,false,r2⟩).mt m3 c ⟨l3,false,r3⟩)) P wo K mg base (k+n):=by
 obtain ⟨f1,x1,y1⟩:=e1.ex;obtain ⟨f2,x2,y2⟩:=e2.ex;obtain ⟨f3,x3,y3⟩:=e3.ex;obtain ⟨_,U1,B1,k1,i1⟩:=y1.un w1;obtain ⟨_,U2,B2,k2,i2⟩:=y2.un w2;obtain ⟨_,U3,B3,k3,i3⟩:=y3.un w3;exact GOk.addR3x g U1 U2 U3 S1 S2 S3 hK hP hW cc ⟨x1,i1,k1⟩ ⟨x2,i2,k2⟩ ⟨x3,i3,k3⟩ B1 B2 B3 d1 d2 d3 a1 a2 a3 p1 p2 p3 z1 z2 z3
end
end S2
namespace S2
open PySem
open L2 hiding D
noncomputable def zb8:Fs :=
  (zaj (sFz [] (zbh (ziM (eUn (zes "tuple") (zax 0)) (zdu leD leD (zax 1) (zaW zew [(zax 0)]) (zax 2)))))
  sNx)
noncomputable def zaF:List S2.D->Sto->Out S2.D:=zbv 3 false zb8
noncomputable def ze8:Fs :=
  (zaj (sFz [] (zcl 1 false (eIf (zal gtD (zaW zew [(zax 0)]) (zak (.int 0))) (zaW zew [(zal ixD (zax 0) (zak (.int 0)))]) (zak (.int 0)))))
  (zaj (sFz [1] (zbh (zbc [(zaW zew [(zax 0)]),(zad 1)])))
  sNx))
noncomputable def zbz:List S2.D->Sto->Out S2.D:=zbv 2 false ze8
noncomputable def zca:Fs :=
  (zaj (sFz [3,4] (zj6 2 (zbc [(zad 3),(zad 4)]))) sNx)
noncomputable def zcZ:Fs :=
  (zaj (sFz [] (zjz (.one 4) (zfn (zal ixD (zax 1) (zak (.int 1)))) zca)) sNx)
noncomputable def zdD:Fs :=
  (zaj (sFz [0] (zcl 1 false (eFn zbz [(zad 0)])))
  (zaj (sFz [] (zcl 2 true (zhN [])))
  (zaj (sFz [] (zjz (.one 3) (zfn (zal ixD (zax 1) (zak (.int 0)))) zcZ))
  (zaj (sFz [] (zhp 2))
  sNx))))
noncomputable def zaC:List S2.D->Sto->Out S2.D:=zbv 5 true zdD
noncomputable def zcV:Fs :=
  (zaj (sFz [1] (zbh (eFn zaF [(zad 1),(zaW zew [(zax 0)]),(zaW zew [(zax 0)])])))
  sNx)
noncomputable def zbA:List S2.D->Sto->Out S2.D:=zbv 2 false zcV
noncomputable def zdU:Fs :=
  (zaj (sFz [1] (sIf (eUn zeU (eFn zaF [(zad 1),(zaW zew [(zax 0)]),(zaW zew [(zax 0)])])) (zaj (sFz [] (zbh (zak (.bl false)))) sNx) sNx))
  (zaj (sFz [0,1] (zbh (zaW znv [(zcX 2 (.tup [0,1]) (zpn (zad 0) (zad 1)) zfk (eFn zbA [(zad 0),(zad 1)]) [])])))
  sNx))
noncomputable def zcF:List S2.D->Sto->Out S2.D:=zbv 2 false zdU
noncomputable def zdE:Fs :=
  (zaj (sFz [] (zbh (zal ixD (zal ixD (zax 0) (zal ixD (zax 1) (zak (.int 0)))) (zal ixD (zax 1) (zak (.int 1))))))
  sNx)
noncomputable def zai:List S2.D->Sto->Out S2.D:=zbv 2 false zdE
noncomputable def zcU:Fs :=
  (zaj (sFz [0,0] (zbh (zcX 1 (.one 0) (zaV (eFn zaC [(zad 0)])) (zal zhB (eFn zai [(zad 1),(zad 0)]) (zak .non)) (zad 0) [0])))
  sNx)
noncomputable def zb7:List S2.D->Sto->Out S2.D:=zbv 1 true zcU
noncomputable def zcA:Fs :=
  (zaj (sFz [1,1,0] (zbh (zaW znv [(zcX 1 (.one 0) (zaV (eFn zb7 [(zad 1)])) zfk (zal eqD (eFn zai [(zad 2),(zad 0)]) (eFn zai [(zad 1),(zad 0)])) [1,0])])))
  sNx)
noncomputable def zbU:List S2.D->Sto->Out S2.D:=zbv 2 false zcA
noncomputable def zch:Fs :=
  (zaj (sFz [] (sIf (zal ltD (zax 1) (zaW zew [(zax 0)])) (zaj (sFz [] (zbh (zal ixD (zax 0) (zax 1)))) sNx) sNx))
  (zaj (sFz [] (sIf (zal eqD (zax 0) (zhN [])) (zaj (sFz [] (zbh (zak (.int 0)))) sNx) sNx))
  (zaj (sFz [] (zbh (zal zer (zal zfy (zal ixD (zax 0) (zal zkz (zax 1) (zaW zew [(zax 0)]))) (zak (.int 31))) (zax 1))))
  sNx)))
noncomputable def zbO:List S2.D->Sto->Out S2.D:=zbv 2 false zch
noncomputable def zdF:Fs :=
  (zaj (sFz [0,1] (zcl 3 false (zal zkz (zal zfy (zal zer (eFn zbO [(zad 0),(zad 1)]) (zal zfy (zak (.int 6151)) (zal zer (zax 1) (zak (.int 1))))) (zak (.int 40692))) (zak (.int 2147483399)))))
  (zaj (sFz [] (zbh (zal zkz (zal zkz (zal zer (zal zfy (zax 3) (zax 3)) (zal zrx (zax 3) (zak (.int 31)))) (zak (.int 2147483629))) (zax 2))))
  sNx))
noncomputable def za9:List S2.D->Sto->Out S2.D:=zbv 4 false zdF
noncomputable def zdl:Fs :=
  (zaj (sFz [] (zbh (ziM (eUn (zes "int") (zax 0)) (eUn zeU (eUn (zes "bool") (zax 0))))))
  sNx)
noncomputable def zbw:List S2.D->Sto->Out S2.D:=zbv 1 false zdl
noncomputable def zct:Fs :=
  (zaj (sFz [1] (zbh (ziM (eFn zbw [(zad 1)]) (zdu leD ltD (zak (.int 0)) (zax 1) (zaW zew [(zax 0)])))))
  sNx)
noncomputable def zaX:List S2.D->Sto->Out S2.D:=zbv 2 false zct
noncomputable def zbQ:Fs :=
  (zaj (sFz [1] (sIf (eOr (eUn zeU (eFn zaF [(zad 1),(zak (.int 2)),(zak (.int 2))])) (eOr (eUn zeU (eFn zbw [(zal ixD (zax 1) (zak (.int 0)))])) (eUn zeU (eFn zbw [(zal ixD (zax 1) (zak (.int 1)))])))) (zaj (sFz [] (zbh (zak (.bl false)))) sNx) sNx))
  (zaj (sFz [0] (zcl 2 false (eFn zbz [(zad 0)])))
  (zaj (sFz [] (zbh (ziM (zdu leD ltD (zak (.int 0)) (zal ixD (zax 1) (zak (.int 0))) (zal ixD (zax 2) (zak (.int 0)))) (zdu leD ltD (zak (.int 0)) (zal ixD (zax 1) (zak (.int 1))) (zal ixD (zax 2) (zak (.int 1)))))))
  sNx)))
noncomputable def zaY:List S2.D->Sto->Out S2.D:=zbv 3 false zbQ
noncomputable def zdc:Fs :=
  (zaj (sFz [1,2,0,1,2] (sIf (eOr (eUn zeU (eFn zaY [(zad 1),(zad 2)])) (eUn zeU (eFn zaX [(zad 0),(eFn zai [(zad 1),(zad 2)])]))) (zaj (sFz [] (zbh (zak .non))) sNx) sNx))
  (zaj (sFz [1,2] (zbh (zal ixD (zal ixD (zax 0) (eFn zai [(zad 1),(zad 2)])) (zax 3))))
  sNx))
noncomputable def zaR:List S2.D->Sto->Out S2.D:=zbv 4 false zdc
noncomputable def zcB:Fs :=
  (zaj (sFz [] (zcl 3 false (zbc [(zal ixD (zax 2) (zak (.int 0))),(zal zer (zal ixD (zax 2) (zak (.int 1))) (zak (.int 1)))])))
  (zaj (sFz [0,1,2,0,1,3] (zbh (zbc [(eFn zaR [(zad 0),(zad 1),(zad 2),(zak (.int 1))]),(eFn zaR [(zad 0),(zad 1),(zad 3),(zak (.int 3))])])))
  sNx))
noncomputable def zbV:List S2.D->Sto->Out S2.D:=zbv 4 false zcB
noncomputable def zcg:Fs :=
  (zaj (sFz [] (zcl 3 false (zbc [(zal zer (zal ixD (zax 2) (zak (.int 0))) (zak (.int 1))),(zal ixD (zax 2) (zak (.int 1)))])))
  (zaj (sFz [0,1,2,0,1,3] (zbh (zbc [(eFn zaR [(zad 0),(zad 1),(zad 2),(zak (.int 2))]),(eFn zaR [(zad 0),(zad 1),(zad 3),(zak (.int 0))])])))
  sNx))
noncomputable def zbB:List S2.D->Sto->Out S2.D:=zbv 4 false zcg
noncomputable def zec:Fs :=
  (zaj (sFz [] (zbh (ziM (zal zq2 (zak .non) (zax 0)) (zal neD (zal ixD (zax 0) (zak (.int 0))) (zal ixD (zax 0) (zak (.int 1)))))))
  sNx)
noncomputable def zcH:List S2.D->Sto->Out S2.D:=zbv 1 false zec
noncomputable def zdJ:Fs :=
  (zaj (sFz [0,1,3] (sIf (eFn zcH [(eFn zbV [(zad 0),(zad 1),(zad 3)])]) (zaj (sFz [3] (zj6 2 (zbc [(zad 3),(zak (.str "east"))]))) sNx) sNx)) (zaj (sFz [0,1,3] (sIf (eFn zcH [(eFn zbB [(zad 0),(zad 1),(zad 3)])]) (zaj (sFz [3] (zj6 2 (zbc [(zad 3),(zak (.str "south"))]))) sNx) sNx)) sNx))
noncomputable def zfb:Fs :=
  (zaj (sFz [] (zcl 2 true (zhN [])))
  (zaj (sFz [1] (zjz (.one 3) (zaV (eFn zaC [(zad 1)])) zdJ))
  (zaj (sFz [] (zhp 2))
  sNx)))
noncomputable def zdQ:List S2.D->Sto->Out S2.D:=zbv 4 true zfb
noncomputable def zdm:Fs :=
  (zaj (sFz [1,1,0] (sIf (eUn zeU (zaW znv [(zcX 1 (.one 0) (zaV (eFn zaC [(zad 1)])) zfk (eFn zaX [(zad 2),(eFn zai [(zad 1),(zad 0)])]) [1,0])])) (zaj (sFz [] (zbh (zak (.bl false)))) sNx) sNx))
  (zaj (sFz [0,1] (zbh (zal eqD (zaW zew [(eFn zdQ [(zad 0),(zad 1)])]) (zak (.int 0)))))
  sNx))
noncomputable def zcE:List S2.D->Sto->Out S2.D:=zbv 2 false zdm
noncomputable def zhL:Fs :=
  (zaj (sFz [] (zbh (zal zfy (zbc [(zal zfy (zbc [(zak .non)]) (zax 1))]) (zax 0))))
  sNx)
noncomputable def zeP:List S2.D->Sto->Out S2.D:=zbv 2 false zhL
noncomputable def zcf:Fs :=
  (zaj (sFz [0,1] (sIf (eUn zeU (eFn zcF [(zad 0),(zad 1)])) (zaj (sFz [] (sRz "Unlike" [(zak (.str "the sizes are unlike"))])) sNx) sNx))
  sNx)
noncomputable def zaJ:List S2.D->Sto->Out S2.D:=zbv 2 false zcf
noncomputable def zhK:Fs :=
  (zaj (sFz [] (zbh (eOr (zal zne (zax 0) (zak .non)) (zal eqD (zax 0) (zax 1)))))
  sNx)
noncomputable def zeO:List S2.D->Sto->Out S2.D:=zbv 2 false zhK
noncomputable def zcj:Fs :=
  (zaj (sFz [1] (zd2 "Ways" "tiles" (zad 0) (zad 1)))
  (zaj (sFz [2,2] (zd2 "Ways" "ground" (zad 0) (zcX 1 (.one 0) (zaV (eFn zaC [(zad 2)])) zfk (eFn zai [(zad 1),(zad 0)]) [2])))
  (zaj (sFz [2] (zd2 "Ways" "size" (zad 0) (eFn zbz [(zad 2)])))
  (zaj (sFz [3] (zd2 "Ways" "is_round" (zad 0) (zad 3)))
  (zaj (sFz [] (zfW "Ways" "known" 0))
  sNx)))))
noncomputable def zaT:List S2.D->Sto->Out S2.D:=zbv 4 false zcj
noncomputable def zbR:Fs :=
  (zaj (sFz [] (zbh (zal zfy (zbc [(zak .non)]) (zal zer (zal ixD (zed "Ways" "size" (zad 0)) (zak (.int 1))) (zak (.int 2))))))
  sNx)
noncomputable def zaH:List S2.D->Sto->Out S2.D:=zbv 1 false zbR
noncomputable def zci:Fs :=
  (zaj (sFz [] (zbh (zal eqD (zal zkz (zal zer (zax 1) (zak (.int 1))) (zal ixD (zed "Ways" "size" (zad 0)) (zak (.int 1)))) (zak (.int 0)))))
  sNx)
noncomputable def zba:List S2.D->Sto->Out S2.D:=zbv 2 false zci
noncomputable def za2:Fs :=
  (zaj (sFz [] (zbh (eIf (zal eqD (zal zkz (zax 1) (zal ixD (zed "Ways" "size" (zad 0)) (zak (.int 1)))) (zak (.int 0))) (zal ixD (zax 3) (zak (.int 3))) (zal ixD (zax 2) (eUn zow (zak (.int 1)))))))
  sNx)
noncomputable def zaA:List S2.D->Sto->Out S2.D:=zbv 4 false za2
noncomputable def zbG:Fs :=
  (zaj (sFz [1] (zcl 4 false (zbj "Ways" "ends_row" zba (zad 0) [(zad 1)])))
  (zaj (sFz [] (zcl 5 false (zal geD (zal zer (zax 1) (zal ixD (zed "Ways" "size" (zad 0)) (zak (.int 1)))) (zaW zew [(zed "Ways" "ground" (zad 0))]))))
  (zaj (sFz [4] (zcl 6 false (eIf (zad 4) (zak .non) (zal ixD (zax 3) (zak (.int 1))))))
  (zaj (sFz [5] (zcl 7 false (eIf (zad 5) (zak .non) (zal ixD (zax 3) (zak (.int 2))))))
  (zaj (sFz [4,1,2,3] (zcl 8 false (eIf (ziM (zed "Ways" "is_round" (zad 0)) (eUn zeU (zad 4))) (zbj "Ways" "colour_round" zaA (zad 0) [(zad 1),(zad 2),(zad 3)]) (zak .non))))
  (zaj (sFz [6,7,8] (zbh (zal zer (zal zer (zbc [(zad 6)]) (eSl (zax 2) (some (zak (.int 2))) (some (eUn zow (zak (.int 1)))))) (zbc [(zad 7),(zad 8)]))))
  sNx))))))
noncomputable def za7:List S2.D->Sto->Out S2.D:=zbv 9 false zbG
noncomputable def za8:Fs :=
  (zaj (sFz [] (zcl 2 false (zal ixD (zed "Ways" "ground" (zad 0)) (zax 1))))
  (zaj (sFz [] (sIf (zal zne (zax 2) (zak .non)) (zaj (sFz [] (zbh (eUn lrD (zaW zew [(zed "Ways" "tiles" (zad 0))])))) sNx) sNx))
  (zaj (sFz [2,2] (zbh (eIf (eFn zaX [(zed "Ways" "tiles" (zad 0)),(zad 2)]) (zhN [(zad 2)]) (zhN []))))
  sNx)))
noncomputable def zaK:List S2.D->Sto->Out S2.D:=zbv 3 false za8
noncomputable def zbe:Fs :=
  (zaj (sFz [1] (sIf (eOr (eUn zeU (zed "Ways" "is_round" (zad 0))) (eUn zeU (zbj "Ways" "ends_row" zba (zad 0) [(zad 1)]))) (zaj (sFz [] (zbh (zak (.bl true)))) sNx) sNx))
  (zaj (sFz [1,2,3] (zbh (zal eqD (zal ixD (zax 3) (zak (.int 1))) (zbj "Ways" "colour_round" zaA (zad 0) [(zad 1),(zad 2),(zad 3)]))))
  sNx))
noncomputable def zaS:List S2.D->Sto->Out S2.D:=zbv 4 false zbe
noncomputable def zdG:Fs :=
  (zaj (sFz [] (sIf (eOr (eUn zeU (eFn zeO [(zal ixD (zax 2) (zak (.int 0))),(zal ixD (zax 3) (zak (.int 3)))])) (eUn zeU (eFn zeO [(zal ixD (zax 2) (zak (.int 1))),(zal ixD (zax 3) (zak (.int 0)))]))) (zaj (sFz [] (zbh (zak (.bl false)))) sNx) sNx))
  (zaj (sFz [1,2,3] (zbh (zbj "Ways" "fits_round" zaS (zad 0) [(zad 1),(zad 2),(zad 3)])))
  sNx))
noncomputable def zcR:List S2.D->Sto->Out S2.D:=zbv 4 false zdG
noncomputable def za4:Fs :=
  (zaj (sFz [] (zcl 5 false (zal ixD (zed "Ways" "tiles" (zad 0)) (zax 4)))) (zaj (sFz [1,2,5] (sIf (zbj "Ways" "fits" zcR (zad 0) [(zad 1),(zad 2),(zad 5)]) (zaj (sFz [4,1,2,5] (zj6 3 (zbc [(zad 4),(zbj "Ways" "seam_behind" za7 (zad 0) [(zad 1),(zad 2),(zad 5)])]))) sNx) sNx)) sNx))
noncomputable def zcC:Fs :=
  (zaj (sFz [] (zcl 3 true (zhN [])))
  (zaj (sFz [1] (zjz (.one 4) (zaV (zbj "Ways" "numbers_for" zaK (zad 0) [(zad 1)])) za4))
  (zaj (sFz [] (zhp 3))
  sNx)))
noncomputable def zbl:List S2.D->Sto->Out S2.D:=zbv 6 true zcC
noncomputable def zag(rec_:List S2.D->Sto->Out S2.D):Fs :=
  (zaj (sFz [] (sIf (zal eqD (zax 1) (zaW zew [(zed "Ways" "ground" (zad 0))])) (zaj (sFz [] (zbh (zak (.int 1)))) sNx) sNx))
  (zaj (sFz [1,2] (zcl 3 false (zbc [(zad 1),(zad 2)])))
  (zaj (sFz [] (sIf (zmA "Ways" "known" (zad 3) (zad 0)) (zaj (sFz [1,2,0,1] (zhq "Ways" "known" (zad 0) 3 (zaW zlJ [(zcX 1 (.one 0) (zaV (zbj "Ways" "choices" zbl (zad 0) [(zad 1),(zad 2)])) zfk (zbj "Ways" "count_from" rec_ (zad 1) [(zal zer (zax 2) (zak (.int 1))),(zal ixD (zax 0) (zak (.int 1)))]) [0,1])]))) sNx) sNx))
  (zaj (sFz [] (zbh (zhP "Ways" "known" (zad 0) 3)))
  sNx))))
noncomputable def zbP:List S2.D->Sto->Out S2.D:=zlV 4 false zag 40
noncomputable def zb1:Fs :=
  (zaj (sFz [] (zbh (zbj "Ways" "count_from" zbP (zad 0) [(zak (.int 0)),(zbj "Ways" "first_seam" zaH (zad 0) [])])))
  sNx)
noncomputable def zbo:List S2.D->Sto->Out S2.D:=zbv 1 false zb1
noncomputable def zcW:Fs :=
  (zaj (sFz [0,1] (zbh (zbj "Ways" "count_all" zbo (eMk "Ways" [(.bl false)] zaT [(zad 0),(zad 1)]) [])))
  sNx)
noncomputable def zat:List S2.D->Sto->Out S2.D:=zbv 2 false zcW
noncomputable def ze9:Fs :=
  (zaj (sFz [0,1] (zbh (zaW zdK [(zcX 1 (.one 0) (zfn (zal ixD (zax 1) (zak (.int 0)))) zfk (zaW zdK [(eSl (zax 1) (some (zal zfy (zax 0) (zal ixD (zax 2) (zak (.int 1))))) (some (zal zfy (zal zer (zax 0) (zak (.int 1))) (zal ixD (zax 2) (zak (.int 1))))))]) [0,1])])))
  sNx)
noncomputable def zdP:List S2.D->Sto->Out S2.D:=zbv 2 false ze9
noncomputable def zdV:Fs :=
  (zaj (sFz [1,2,0,2] (sIf (eOr (eUn zeU (eFn zcF [(zad 1),(zad 2)])) (eUn zeU (eFn zcE [(zad 0),(zad 2)]))) (zaj (sFz [] (zbh (zak (.bl false)))) sNx) sNx))
  (zaj (sFz [2,1] (zbh (eFn zbU [(zad 2),(zad 1)])))
  sNx))
noncomputable def zcG:List S2.D->Sto->Out S2.D:=zbv 3 false zdV
noncomputable def zdW:Fs :=
  (zaj (sFz [1] (zbh (eIf (eOr (zal zne (zax 0) (zak .non)) (zal eqD (zax 0) (zax 2))) (zak (.int 0)) (zad 1))))
  sNx)
noncomputable def zcI:List S2.D->Sto->Out S2.D:=zbv 3 false zdW
noncomputable def zdI:Fs :=
  (zaj (sFz [0,4,1,4,2,4] (zj6 3 (eFn zcI [(eFn zai [(zad 0),(zad 4)]),(eFn zai [(zad 1),(zad 4)]),(eFn zai [(zad 2),(zad 4)])]))) sNx)
noncomputable def zfa:Fs :=
  (zaj (sFz [0,1] (zlQ (eFn zaJ [(zad 0),(zad 1)])))
  (zaj (sFz [0,2] (zlQ (eFn zaJ [(zad 0),(zad 2)])))
  (zaj (sFz [] (zcl 3 true (zhN [])))
  (zaj (sFz [0] (zjz (.one 4) (zaV (eFn zaC [(zad 0)])) zdI))
  (zaj (sFz [] (zbh (zaW zlJ [(zax 3)])))
  sNx)))))
noncomputable def zc5:List S2.D->Sto->Out S2.D:=zbv 5 false zfa
noncomputable def zb2:Fs :=
  (zaj (sFz [2] (zd2 "Mends" "size" (zad 0) (eFn zbz [(zad 2)])))
  (zaj (sFz [1] (zd2 "Mends" "ways" (zad 0) (eMk "Ways" [(.bl false)] zaT [(zad 1),(eFn zeP [(zal ixD (zed "Mends" "size" (zad 0)) (zak (.int 0))),(zal ixD (zed "Mends" "size" (zad 0)) (zak (.int 1)))])])))
  (zaj (sFz [2,2] (zd2 "Mends" "laid" (zad 0) (zcX 1 (.one 0) (zaV (eFn zaC [(zad 2)])) zfk (eFn zai [(zad 1),(zad 0)]) [2])))
  (zaj (sFz [2,3] (zd2 "Mends" "weights" (zad 0) (zcX 1 (.one 0) (zaV (eFn zaC [(zad 2)])) zfk (eFn zai [(zad 1),(zad 0)]) [3])))
  (zaj (sFz [] (zfW "Mends" "known" 0))
  sNx)))))
noncomputable def za3:List S2.D->Sto->Out S2.D:=zbv 4 false zb2
noncomputable def zbq(rec_least_from:List S2.D->Sto->Out S2.D):Fs :=
  (zaj (sFz [5] (zcl 6 false (zbj "Mends" "least_from" rec_least_from (zad 0) [(zal zer (zax 1) (zak (.int 1))),(zad 5)]))) (zaj (sFz [] (sIf (zal zhB (zax 6) (zak .non)) (zaj (sFz [4] (zcl 7 false (zal zer (eFn zcI [(zal ixD (zed "Mends" "laid" (zad 0)) (zax 1)),(zal ixD (zed "Mends" "weights" (zad 0)) (zax 1)),(zad 4)]) (zal ixD (zax 6) (zak (.int 0)))))) (zaj (sFz [7,4,5] (zj6 3 (zbc [(zad 7),(zal ixD (zax 6) (zak (.int 1))),(zad 4),(zad 5)]))) sNx)) sNx)) sNx))
noncomputable def zaG(rec_offers rec_least_by_offers rec_least_from:List S2.D->Sto->Out S2.D):Fs :=
  (zaj (sFz [] (zcl 3 true (zhN [])))
  (zaj (sFz [1,2] (zjz (.tup [4,5]) (zaV (zbj "Ways" "choices" zbl (zed "Mends" "ways" (zad 0)) [(zad 1),(zad 2)])) (zbq rec_least_from)))
  (zaj (sFz [3] (zbh (zad 3)))
  sNx)))
noncomputable def zae(rec_offers rec_least_by_offers rec_least_from:List S2.D->Sto->Out S2.D):Fs :=
  (zaj (sFz [1,2] (zcl 3 false (zbj "Mends" "offers" rec_offers (zad 0) [(zad 1),(zad 2)])))
  (zaj (sFz [] (sIf (zal eqD (zaW zew [(zax 3)]) (zak (.int 0))) (zaj (sFz [] (zbh (zak .non))) sNx) sNx))
  (zaj (sFz [3] (zcl 4 false (zaW zjd [(zcX 1 (.one 0) (zaV (zad 3)) zfk (zal ixD (zax 0) (zak (.int 0))) [])])))
  (zaj (sFz [4,3,4] (zbh (zbc [(zad 4),(zaW zlJ [(zcX 1 (.one 0) (zaV (zad 3)) (zal eqD (zal ixD (zax 0) (zak (.int 0))) (zax 1)) (zal ixD (zax 0) (zak (.int 1))) [4])])])))
  sNx))))
noncomputable def zah(rec_offers rec_least_by_offers rec_least_from:List S2.D->Sto->Out S2.D):Fs :=
  (zaj (sFz [] (sIf (zal eqD (zax 1) (zaW zew [(zed "Mends" "laid" (zad 0))])) (zaj (sFz [] (zbh (zbc [(zak (.int 0)),(zak (.int 1))]))) sNx) sNx))
  (zaj (sFz [1,2] (zcl 3 false (zbc [(zad 1),(zad 2)])))
  (zaj (sFz [] (sIf (zmA "Mends" "known" (zad 3) (zad 0)) (zaj (sFz [1,2] (zhq "Mends" "known" (zad 0) 3 (zbj "Mends" "least_by_offers" rec_least_by_offers (zad 0) [(zad 1),(zad 2)]))) sNx) sNx))
  (zaj (sFz [] (zbh (zhP "Mends" "known" (zad 0) 3)))
  sNx))))
noncomputable def zbW:List S2.D->Sto->Out S2.D:=(zfg 8 5 4 zaG zae zah 60).1
noncomputable def zbC:List S2.D->Sto->Out S2.D:=(zfg 8 5 4 zaG zae zah 60).2.1
noncomputable def zay:List S2.D->Sto->Out S2.D:=(zfg 8 5 4 zaG zae zah 60).2.2
noncomputable def zbS:Fs :=
  (zaj (sFz [] (zbh (zbj "Mends" "least_from" zay (zad 0) [(zak (.int 0)),(zbj "Ways" "first_seam" zaH (zed "Mends" "ways" (zad 0)) [])])))
  sNx)
noncomputable def zaU:List S2.D->Sto->Out S2.D:=zbv 1 false zbS
noncomputable def zaM:Fs :=
  (zaj (sFz [3,2] (zcl 4 false (zal ixD (zbj "Mends" "least_from" zay (zad 0) [(zad 3),(zad 2)]) (zak (.int 0))))) (zaj (sFz [3,2,4] (zcl 5 false (zal ixD (zcX 1 (.one 0) (zaV (zbj "Mends" "offers" zbW (zad 0) [(zad 3),(zad 2)])) (zal eqD (zal ixD (zax 0) (zak (.int 0))) (zax 1)) (zad 0) [4]) (zak (.int 0))))) (zaj (sFz [] (zj6 1 (zal ixD (zax 5) (zak (.int 2))))) (zaj (sFz [] (zcl 2 false (zal ixD (zax 5) (zak (.int 3))))) sNx))))
noncomputable def zbr:Fs :=
  (zaj (sFz [] (zcl 1 true (zhN [])))
  (zaj (sFz [] (zcl 2 false (zbj "Ways" "first_seam" zaH (zed "Mends" "ways" (zad 0)) [])))
  (zaj (sFz [] (zjz (.one 3) (zfn (zaW zew [(zed "Mends" "laid" (zad 0))])) zaM))
  (zaj (sFz [1] (zbh (eFn zdP [(zad 1),(zed "Mends" "size" (zad 0))])))
  sNx))))
noncomputable def zaZ:List S2.D->Sto->Out S2.D:=zbv 6 false zbr
noncomputable def zdb:Fs :=
  (zaj (sFz [1,2] (zlQ (eFn zaJ [(zad 1),(zad 2)])))
  (zaj (sFz [0,1,2] (zbh (zbj "Mends" "least_all" zaU (eMk "Mends" [] za3 [(zad 0),(zad 1),(zad 2)]) [])))
  sNx))
noncomputable def zap:List S2.D->Sto->Out S2.D:=zbv 3 false zdb
noncomputable def zeA:Fs :=
  (zaj (sFz [1,2] (zlQ (eFn zaJ [(zad 1),(zad 2)])))
  (zaj (sFz [0,1,2] (zcl 3 false (eMk "Mends" [] za3 [(zad 0),(zad 1),(zad 2)])))
  (zaj (sFz [] (sIf (zal zne (zbj "Mends" "least_all" zaU (zad 3) []) (zak .non)) (zaj (sFz [] (sRz "NoFill" [(zak (.str "there is no right floor of this size"))])) sNx) sNx))
  (zaj (sFz [] (zbh (zbj "Mends" "least_whole" zaZ (zad 3) [])))
  sNx))))
noncomputable def zcn:List S2.D->Sto->Out S2.D:=zbv 4 false zeA
end S2
namespace S2
open PySem
open L2 hiding D
def Fo.seq(b:Fs):Fo->Fo | .nx ρ' S'=>b ρ' S' | o=>o
def zr7(a b:Fs)(ρ:Env):Out D->Fo | .ok d S'=>(match isB d with | some true=>a ρ S' | some false=>b ρ S' | none=>.bad) | .exc x S'=>.ex x ρ S' | .bad=>.bad
def ztr(i:Nat)(o:Bool)(ρ:Env):Out D->Fo | .ok d S'=>.nx (ρ.set i (some (o,d))) S' | .exc c S'=>.ex c ρ S' | .bad=>.bad
def ztp(ρ:Env):Out D->Fo | .ok _ S'=>.nx ρ S' | .exc c S'=>.ex c ρ S' | .bad=>.bad
def ztn(ρ:Env):Out D->Fo | .ok d S'=>.rt d S' | .exc c S'=>.ex c ρ S' | .bad=>.bad
def zrg(S:Sto):Option (Option (Bool×D))->Fo | some (some (true,d))=>.rt d S | _=>.bad
def zms(i:Nat)(ρ:Env)(l:List D):Out D->Fo
 | .ok d S'=>if zby l.length then .nx (ρ.set i (some (true,.lst (l++[d])))) S' else .bad
 | .exc c S'=>.ex c ρ S' | .bad=>.bad
def zvR(i:Nat)(f:Fe)(ρ:Env)(S:Sto):Option (Option (Bool×D))->Fo | some (some (true,.lst l))=>zms i ρ l (f ρ S) | _=>.bad
def zoE(i j:Nat)(o1 o2:Bool)(d1:D)(ρ:Env):Out D->Fo | .ok d2 S2=>.nx ((ρ.set i (some (o1,d1))).set j (some (o2,d2))) S2 | .exc c S'=>.ex c ρ S' | .bad=>.bad
def zvI(i j:Nat)(o1 o2:Bool)(g:Fe)(ρ:Env):Out D->Fo | .ok d1 S1=>zoE i j o1 o2 d1 ρ (g ρ S1) | .exc c S'=>.ex c ρ S' | .bad=>.bad
def zto(S:Sto):Option Env->Fo | some ρ'=>.nx ρ' S | none=>.bad
def zoJ(t:Tg)(ρ:Env):Out D->Fo | .ok d S'=>zto S' (t.put ρ d) | .exc c S'=>.ex c ρ S' | .bad=>.bad
def zvN(t:Tg)(a:Fs)(ρ:Env):Out (List D)->Fo | .ok ds S'=>zfi t a ds ρ S' | .exc c S'=>.ex c ρ S' | .bad=>.bad
def zvF(S:Sto):Option (Option (Bool×D))->Out D | some (some (false,d))=>.ok d S | _=>.bad
def zvQ(S:Sto):Option (Option (Bool×D))->Out D | some (some (_,d))=>.ok d S | _=>.bad
def kUn(u:D->Option D):Out D->Out D | .ok a S=>Out.of (u a) S | .exc c S=>.exc c S | .bad=>.bad
def zkR(u:D->D->Option D)(a:D):Out D->Out D | .ok b S=>Out.of (u a b) S | .exc c S=>.exc c S | .bad=>.bad
def ztq(u:D->D->Option D)(g:Fe)(ρ:Env):Out D->Out D | .ok a S=>zkR u a (g ρ S) | .exc c S=>.exc c S | .bad=>.bad
def kIf(f g:Fe)(ρ:Env):Out D->Out D | .ok d S1=>(match isB d with | some true=>f ρ S1 | some false=>g ρ S1 | none=>.bad) | .exc c S=>.exc c S | .bad=>.bad
def zts(g:Fe)(ρ:Env):Out D->Out D | .ok d S1=>(match isB d with | some true=>g ρ S1 | some false=>.ok (.bl false) S1 | none=>.bad) | .exc c S=>.exc c S | .bad=>.bad
def kOr(g:Fe)(ρ:Env):Out D->Out D | .ok d S1=>(match isB d with | some true=>.ok (.bl true) S1 | some false=>g ρ S1 | none=>.bad) | .exc c S=>.exc c S | .bad=>.bad
def zg1(d:D):Out (List D)->Out (List D) | .ok ds S=>.ok (d::ds) S | .exc c S=>.exc c S | .bad=>.bad
def zoG(fs:List Fe)(ρ:Env):Out D->Out (List D) | .ok d S=>zg1 d (zaq fs ρ S) | .exc c S=>.exc c S | .bad=>.bad
def zvG:Out (List D)->Out D | .ok ds S=>if zby ds.length then .ok (.tup ds) S else .bad | .exc c S=>.exc c S | .bad=>.bad
def zvK:Out (List D)->Out D | .ok ds S=>if zby ds.length then .ok (.lst ds) S else .bad | .exc c S=>.exc c S | .bad=>.bad
def zoI(u:List D->Option D):Out (List D)->Out D | .ok ds S=>Out.of (u ds) S | .exc c S=>.exc c S | .bad=>.bad
def kFn(r:List D->Sto->Out D):Out (List D)->Out D | .ok ds S=>r ds S | .exc c S=>.exc c S | .bad=>.bad
def ze3(v:D->D->Option D)(b:D):Out D->Out D | .ok c S=>Out.of (v b c) S | .exc c S=>.exc c S | .bad=>.bad
def ze2(v:D->D->Option D)(h:Fe)(ρ:Env)(b:D)(S:Sto):Option D->Out D | some d=>(match isB d with | some true=>ze3 v b (h ρ S) | some false=>.ok (.bl false) S | none=>.bad) | none=>.bad
def zf8(u v:D->D->Option D)(h:Fe)(ρ:Env)(a:D):Out D->Out D | .ok b S=>ze2 v h ρ b S (u a b) | .exc c S=>.exc c S | .bad=>.bad
def zm9(u v:D->D->Option D)(g h:Fe)(ρ:Env):Out D->Out D | .ok a S=>zf8 u v h ρ a (g ρ S) | .exc c S=>.exc c S | .bad=>.bad
def zvL:Out D->Out (Option Int) | .ok (.int i) S=>.ok (some i) S | .ok _ _=>.bad | .exc c S=>.exc c S | .bad=>.bad
def zr3(d:D)(l:Option Int):Out (Option Int)->Out D | .ok u S=>Out.of (slD d l u) S | .exc c S=>.exc c S | .bad=>.bad
def zr4(d:D)(u:Option Fe)(ρ:Env):Out (Option Int)->Out D | .ok l S=>zr3 d l (zc3 u ρ S) | .exc c S=>.exc c S | .bad=>.bad
def kSl(l u:Option Fe)(ρ:Env):Out D->Out D | .ok d S=>zr4 d u ρ (zc3 l ρ S) | .exc c S=>.exc c S | .bad=>.bad
def zkP:Out D->Out (List D) | .ok (.lst l) S=>.ok l S | .ok (.tup l) S=>.ok l S | .ok _ _=>.bad | .exc c S=>.exc c S | .bad=>.bad
def zrd:Out (List D)->Out (List D) | .ok ds S1=>(match ds with | [x,y]=>(match zp3 x,zp3 y with | some l,some k=>.ok (zfo l k) S1 | _,_=>.bad) | _=>.bad) | .exc c S=>.exc c S | .bad=>.bad
def zrf:Out (List D)->Out (List D) | .ok ds S1=>(match ds with | [.int j]=>if -1000000<=j/\j<=1000000 then .ok (zaP 0 j) S1 else .bad | _=>.bad) | .exc c S=>.exc c S | .bad=>.bad
def zre:Out (List D)->Out (List D) | .ok ds S1=>(match ds with | [.int i,.int j]=>if (-1000000<=i/\i<=1000000)/\-1000000<=j/\j<=1000000 then .ok (zaP i j) S1 else .bad | _=>.bad) | .exc c S=>.exc c S | .bad=>.bad
def zkQ:Out (List D)->Out D | .ok ys S2=>if zby ys.length then .ok (.lst ys) S2 else .bad | _=>.bad
def zoH(tg:Tg)(c elt:Fe)(ρ0:Env):Out (List D)->Out D | .ok ds S1=>zkQ (zb4 tg c elt ρ0 ds S1) | .exc c S=>.exc c S | .bad=>.bad
def zvP:Option (Option (Bool×D))->Option (Bool×D) | some (some (false,d))=>some (false,d) | _=>none
def zr8(ρ:Env)(i:Nat):Option (Option (Bool×D))->Env | some (some (true,d))=>ρ.set i (some (false,d)) | _=>ρ
def zr5(own:Bool):Fo->Out D | .rt d S'=>.ok d S' | .nx _ S'=>if own then .bad else .ok .non S' | .ex c _ S'=>.exc c S' | _=>.bad
def kRz(c:Str)(ρ:Env):Out (List D)->Fo | .ok ds S'=>if zby ds.length then .ex c ρ S' else .bad | .exc x S'=>.ex x ρ S' | .bad=>.bad
section
variable{ρ:Env}{S:Sto}{f g h k c:Fe}{a b:Fs}
@[simp] theorem zt0:zaj a b ρ S=(a ρ S).seq b:=by
 show (match a ρ S with | .nx ρ' S'=>b ρ' S' | o=>o)=_
 cases a ρ S<;>rfl
@[simp] theorem zu7:(Fo.nx ρ S).seq b=b ρ S:=(rfl)
@[simp] theorem zu6{d:D}:(Fo.rt d S).seq b=.rt d S:=(rfl)
@[simp] theorem zu5:(Fo.bk ρ S).seq b=.bk ρ S:=(rfl)
@[simp] theorem zu4:(Fo.ct ρ S).seq b=.ct ρ S:=(rfl)
@[simp] theorem zu3{x:Str}:(Fo.ex x ρ S).seq b=.ex x ρ S:=(rfl)
@[simp] theorem zu2:Fo.bad.seq b=.bad:=(rfl)
@[simp] theorem zv8{is:List Nat}:sFz is a ρ S=a (frz is ρ) S:=(rfl)
@[simp] theorem zus:frz [] ρ=ρ:=(rfl)
@[simp] theorem zur{i:Nat}{is:List Nat}:frz (i::is) ρ=frz is (frz1 ρ i):=(rfl)
@[simp] theorem zwn(i:Nat):frz1 ρ i=zr8 ρ i ρ[i]?:=(rfl)
@[simp] theorem zvp{i:Nat}{d:D}:zr8 ρ i (some (some (true,d)))=ρ.set i (some (false,d)):=(rfl)
@[simp] theorem zvo{i:Nat}{d:D}:zr8 ρ i (some (some (false,d)))=ρ:=(rfl)
@[simp] theorem zvn{i:Nat}:zr8 ρ i (some none)=ρ:=(rfl)
@[simp] theorem zv6:sNx ρ S=.nx ρ S:=(rfl)
@[simp] theorem zv9:sBk ρ S=.bk ρ S:=(rfl)
@[simp] theorem zt5{i:Nat}{o:Bool}:zcl i o f ρ S=ztr i o ρ (f ρ S):=(rfl)
@[simp] theorem zvA{i:Nat}{o:Bool}{d:D}:ztr i o ρ (.ok d S)=.nx (ρ.set i (some (o,d))) S:=(rfl)
@[simp] theorem zvz{i:Nat}{o:Bool}{x:Str}:ztr i o ρ (.exc x S)=.ex x ρ S:=(rfl)
@[simp] theorem zt4:zlQ f ρ S=ztp ρ (f ρ S):=(rfl)
@[simp] theorem zvs{d:D}:ztp ρ (.ok d S)=.nx ρ S:=(rfl)
@[simp] theorem zvr{x:Str}:ztp ρ (.exc x S)=.ex x ρ S:=(rfl)
@[simp] theorem zt1:zbh f ρ S=ztn ρ (f ρ S):=(rfl)
@[simp] theorem zvf{d:D}:ztn ρ (.ok d S)=.rt d S:=(rfl)
@[simp] theorem zve{x:Str}:ztn ρ (.exc x S)=.ex x ρ S:=(rfl)
@[simp] theorem zsm:zlP ρ S=.rt .non S:=(rfl)
@[simp] theorem zsl{i:Nat}:zhp i ρ S=zrg S ρ[i]?:=(rfl)
@[simp] theorem zvd{d:D}:zrg S (some (some (true,d)))=.rt d S:=(rfl)
@[simp] theorem zv7:sIf c a b ρ S=zr7 a b ρ (c ρ S):=(rfl)
@[simp] theorem zvm:zr7 a b ρ (.ok (.bl true) S)=a ρ S:=(rfl)
@[simp] theorem zvl:zr7 a b ρ (.ok (.bl false) S)=b ρ S:=(rfl)
@[simp] theorem zvk{x:Str}:zr7 a b ρ (.exc x S)=.ex x ρ S:=(rfl)
@[simp] theorem zt6{i:Nat}:zj6 i f ρ S=zvR i f ρ S ρ[i]?:=(rfl)
@[simp] theorem zxm{i:Nat}{l:List D}:zvR i f ρ S (some (some (true,.lst l)))=zms i ρ l (f ρ S):=(rfl)
@[simp] theorem zvC{i:Nat}{l:List D}{d:D}:zms i ρ l (.ok d S)=if zby l.length then .nx (ρ.set i (some (true,.lst (l++[d])))) S else .bad:=(rfl)
@[simp] theorem zvB{i:Nat}{l:List D}{x:Str}:zms i ρ l (.exc x S)=.ex x ρ S:=(rfl)
@[simp] theorem zt2{i j:Nat}{o1 o2:Bool}:zn0 i j o1 f o2 g ρ S=zvI i j o1 o2 g ρ (f ρ S):=(rfl)
@[simp] theorem zwZ{i j:Nat}{o1 o2:Bool}{d:D}:zvI i j o1 o2 g ρ (.ok d S)=zoE i j o1 o2 d ρ (g ρ S):=(rfl)
@[simp] theorem zvh{i j:Nat}{o1 o2:Bool}{d e:D}:zoE i j o1 o2 d ρ (.ok e S)=.nx ((ρ.set i (some (o1,d))).set j (some (o2,e))) S:=(rfl)
@[simp] theorem zsp{t:Tg}:zhr t f ρ S=zoJ t ρ (f ρ S):=by
 unfold zhr zoJ
 cases f ρ S with
 | ok d S'=>dsimp only;cases t.put ρ d<;>rfl
 | exc c S'=>rfl
 | bad=>rfl
@[simp] theorem zvy{t:Tg}{d:D}:zoJ t ρ (.ok d S)=zto S (t.put ρ d):=(rfl)
@[simp] theorem zwY{ρ':Env}:zto S (some ρ')=.nx ρ' S:=(rfl)
@[simp] theorem zt3{t:Tg}{it:Fi}:zjz t it a ρ S=zvN t a ρ (it ρ S):=(rfl)
@[simp] theorem zxb{t:Tg}{ds:List D}:zvN t a ρ (.ok ds S)=zfi t a ds ρ S:=(rfl)
@[simp] theorem zv5{x:Str}{fs:List Fe}:sRz x fs ρ S=kRz x ρ (zaq fs ρ S):=(rfl)
@[simp] theorem zxK{x:Str}{ds:List D}:kRz x ρ (.ok ds S)=if zby ds.length then .ex x ρ S else .bad:=(rfl)
@[simp] theorem zuc{i:Nat}{d:D}:(Tg.one i).put ρ d=some (ρ.set i (some (false,d))):=(rfl)
@[simp] theorem zt9{is:List Nat}{ds:List D}:(Tg.tup is).put ρ (.tup ds)=zel is ds ρ:=(rfl)
@[simp] theorem zub{i:Nat}{is:List Nat}{d:D}{ds:List D}:zel (i::is) (d::ds) ρ=zel is ds (ρ.set i (some (false,d))):=(rfl)
@[simp] theorem zua:zel [] [] ρ=some ρ:=(rfl)
@[simp] theorem zut{i:Nat}:zad i ρ S=zvF S ρ[i]?:=(rfl)
@[simp] theorem zwS{d:D}:zvF S (some (some (false,d)))=.ok d S:=(rfl)
@[simp] theorem zuA{i:Nat}:zax i ρ S=zvQ S ρ[i]?:=(rfl)
@[simp] theorem zxl{o:Bool}{d:D}:zvQ S (some (some (o,d)))=.ok d S:=(rfl)
@[simp] theorem zuz{d:D}:zak d ρ S=.ok d S:=(rfl)
@[simp] theorem zwp{u:D->Option D}:eUn u f ρ S=kUn u (f ρ S):=by
 unfold eUn;cases f ρ S<;>rfl
@[simp] theorem zwU{u:D->Option D}{d:D}:kUn u (.ok d S)=Out.of (u d) S:=(rfl)
@[simp] theorem zwT{u:D->Option D}{x:Str}:kUn u (.exc x S)=.exc x S:=(rfl)
@[simp] theorem zuB{u:D->D->Option D}:zal u f g ρ S=ztq u g ρ (f ρ S):=by
 unfold zal
 cases f ρ S with
 | ok a S1=>show ((g ρ S1).bind fun b S2=>Out.of (u a b) S2)=zkR u a (g ρ S1);cases g ρ S1<;>rfl
 | exc c S=>rfl
 | bad=>rfl
@[simp] theorem zvx{u:D->D->Option D}{d:D}:ztq u g ρ (.ok d S)=zkR u d (g ρ S):=(rfl)
@[simp] theorem zvw{u:D->D->Option D}{x:Str}:ztq u g ρ (.exc x S)=.exc x S:=(rfl)
@[simp] theorem zvv{u:D->D->Option D}{d e:D}:zkR u d (.ok e S)=Out.of (u d e) S:=(rfl)
@[simp] theorem zvu{u:D->D->Option D}{d:D}{x:Str}:zkR u d (.exc x S)=.exc x S:=(rfl)
@[simp] theorem zwt:eIf c f g ρ S=kIf f g ρ (c ρ S):=by
 unfold eIf;cases c ρ S<;>rfl
@[simp] theorem zw9:kIf f g ρ (.ok (.bl true) S)=f ρ S:=(rfl)
@[simp] theorem zw8:kIf f g ρ (.ok (.bl false) S)=g ρ S:=(rfl)
@[simp] theorem zuC:ziM f g ρ S=zts g ρ (f ρ S):=by
 unfold ziM;cases f ρ S<;>rfl
@[simp] theorem zvE:zts g ρ (.ok (.bl true) S)=g ρ S:=(rfl)
@[simp] theorem zvD:zts g ρ (.ok (.bl false) S)=.ok (.bl false) S:=(rfl)
@[simp] theorem zwr:eOr f g ρ S=kOr g ρ (f ρ S):=by
 unfold eOr;cases f ρ S<;>rfl
@[simp] theorem zw1:kOr g ρ (.ok (.bl true) S)=.ok (.bl true) S:=(rfl)
@[simp] theorem zw0:kOr g ρ (.ok (.bl false) S)=g ρ S:=(rfl)
@[simp] theorem zsr:zaq [] ρ S=.ok [] S:=(rfl)
@[simp] theorem zss{fs:List Fe}:zaq (f::fs) ρ S=zoG fs ρ (f ρ S):=by
 show ((f ρ S).bind fun d S1=>(zaq fs ρ S1).bind fun ds S2=>.ok (d::ds) S2)=_
 cases f ρ S with
 | ok a S1=>show ((zaq fs ρ S1).bind fun ds S2=>.ok (a::ds) S2)=zg1 a (zaq fs ρ S1);cases zaq fs ρ S1<;>rfl
 | exc c S=>rfl
 | bad=>rfl
@[simp] theorem ztj{fs:List Fe}{d:D}:zoG fs ρ (.ok d S)=zg1 d (zaq fs ρ S):=(rfl)
@[simp] theorem zti{fs:List Fe}{x:Str}:zoG fs ρ (.exc x S)=.exc x S:=(rfl)
@[simp] theorem zth{d:D}{ds:List D}:zg1 d (.ok ds S)=.ok (d::ds) S:=(rfl)
@[simp] theorem ztg{d:D}{x:Str}:zg1 d (.exc x S)=.exc x S:=(rfl)
@[simp] theorem zuu{fs:List Fe}:zbc fs ρ S=zvG (zaq fs ρ S):=by
 unfold zbc;cases zaq fs ρ S<;>rfl
@[simp] theorem zwV{ds:List D}:zvG (.ok ds S)=if zby ds.length then .ok (.tup ds) S else .bad:=(rfl)
@[simp] theorem zuw{fs:List Fe}:zhN fs ρ S=zvK (zaq fs ρ S):=by
 unfold zhN;cases zaq fs ρ S<;>rfl
@[simp] theorem zw4{ds:List D}:zvK (.ok ds S)=if zby ds.length then .ok (.lst ds) S else .bad:=(rfl)
@[simp] theorem zsu{u:List D->Option D}{fs:List Fe}:zaW u fs ρ S=zoI u (zaq fs ρ S):=by
 unfold zaW;cases zaq fs ρ S<;>rfl
@[simp] theorem ztm{u:List D->Option D}{ds:List D}:zoI u (.ok ds S)=Out.of (u ds) S:=(rfl)
@[simp] theorem ztl{u:List D->Option D}{x:Str}:zoI u (.exc x S)=.exc x S:=(rfl)
@[simp] theorem zwu{r:List D->Sto->Out D}{fs:List Fe}:eFn r fs ρ S=kFn r (zaq fs ρ S):=by
 unfold eFn;cases zaq fs ρ S<;>rfl
@[simp] theorem zxd{r:List D->Sto->Out D}{ds:List D}:kFn r (.ok ds S)=r ds S:=(rfl)
@[simp] theorem zxc{r:List D->Sto->Out D}{x:Str}:kFn r (.exc x S)=.exc x S:=(rfl)
@[simp] theorem zrV{u v:D->D->Option D}:zdu u v f g h ρ S=zm9 u v g h ρ (f ρ S):=by
 show ((f ρ S).bind fun a S1=>(g ρ S1).bind fun b S2=>match (u a b).bind isB with
  | some true=>(h ρ S2).bind fun c S3=>Out.of (v b c) S3
  | some false=>.ok (.bl false) S2
  | none=>.bad)=_
 cases f ρ S with
 | ok a S1 =>
  show ((g ρ S1).bind fun b S2=>match (u a b).bind isB with
   | some true=>(h ρ S2).bind fun c S3=>Out.of (v b c) S3
   | some false=>.ok (.bl false) S2
   | none=>.bad)=zf8 u v h ρ a (g ρ S1)
  cases g ρ S1 with
  | ok b S2 =>
   show (match (u a b).bind isB with
    | some true=>(h ρ S2).bind fun c S3=>Out.of (v b c) S3
    | some false=>.ok (.bl false) S2
    | none=>.bad)=ze2 v h ρ b S2 (u a b)
   cases hu:u a b with
   | none=>rfl
   | some d =>
    show (match isB d with
     | some true=>(h ρ S2).bind fun c S3=>Out.of (v b c) S3
     | some false=>.ok (.bl false) S2
     | none=>.bad)=(match isB d with | some true=>ze3 v b (h ρ S2) | some false=>.ok (.bl false) S2 | none=>.bad)
    cases hb:isB d with
    | none=>rfl
    | some x=>cases x with
     | true=>show ((h ρ S2).bind fun c S3=>Out.of (v b c) S3)=ze3 v b (h ρ S2);cases h ρ S2<;>rfl
     | false=>rfl
  | exc c S=>rfl
  | bad=>rfl
 | exc c S=>rfl
 | bad=>rfl
@[simp] theorem zxj{u v:D->D->Option D}{d:D}:zm9 u v g h ρ (.ok d S)=zf8 u v h ρ d (g ρ S):=(rfl)
@[simp] theorem zxi{u v:D->D->Option D}{d e:D}:zf8 u v h ρ d (.ok e S)=ze2 v h ρ e S (u d e):=(rfl)
@[simp] theorem zxh{v:D->D->Option D}{e:D}:ze2 v h ρ e S (some (.bl true))=ze3 v e (h ρ S):=(rfl)
@[simp] theorem zxg{v:D->D->Option D}{e:D}:ze2 v h ρ e S (some (.bl false))=.ok (.bl false) S:=(rfl)
@[simp] theorem zxf{v:D->D->Option D}{d e:D}:ze3 v e (.ok d S)=Out.of (v e d) S:=(rfl)
@[simp] theorem zrU:zc3 none ρ S=.ok none S:=(rfl)
@[simp] theorem zrT:zc3 (some f) ρ S=zvL (f ρ S):=by
 show ((f ρ S).bind fun d S1=>match d with | .int i=>.ok (some i) S1 | _=>.bad)=_
 cases f ρ S with
 | ok d S'=>cases d<;>rfl
 | exc c S'=>rfl
 | bad=>rfl
@[simp] theorem zw7{i:Int}:zvL (.ok (.int i) S)=.ok (some i) S:=(rfl)
@[simp] theorem zwq{l u:Option Fe}:eSl f l u ρ S=kSl l u ρ (f ρ S):=by
 unfold eSl
 cases f ρ S with
 | ok d S1 =>
  show ((zc3 l ρ S1).bind fun l S2=>(zc3 u ρ S2).bind fun u S3=>Out.of (slD d l u) S3)=zr4 d u ρ (zc3 l ρ S1)
  cases zc3 l ρ S1 with
  | ok l S2=>show ((zc3 u ρ S2).bind fun u S3=>Out.of (slD d l u) S3)=zr3 d l (zc3 u ρ S2);cases zc3 u ρ S2<;>rfl
  | exc c S=>rfl
  | bad=>rfl
 | exc c S=>rfl
 | bad=>rfl
@[simp] theorem zxJ{l u:Option Fe}{d:D}:kSl l u ρ (.ok d S)=zr4 d u ρ (zc3 l ρ S):=(rfl)
@[simp] theorem zwX{u:Option Fe}{d:D}{l:Option Int}:zr4 d u ρ (.ok l S)=zr3 d l (zc3 u ρ S):=(rfl)
@[simp] theorem zwW{d:D}{l u:Option Int}:zr3 d l (.ok u S)=Out.of (slD d l u) S:=(rfl)
@[simp] theorem zsq:zaV f ρ S=zkP (f ρ S):=by
 show ((f ρ S).bind fun d S1=>match d with | .lst l=>.ok l S1 | .tup l=>.ok l S1 | _=>.bad)=_
 cases f ρ S with
 | ok d S'=>cases d<;>rfl
 | exc c S'=>rfl
 | bad=>rfl
@[simp] theorem zw6{l:List D}:zkP (.ok (.lst l) S)=.ok l S:=(rfl)
@[simp] theorem zw5{l:List D}:zkP (.ok (.tup l) S)=.ok l S:=(rfl)
@[simp] theorem zv0:zpn f g ρ S=zrd (zaq [f,g] ρ S):=by
 unfold zpn;cases zaq [f,g] ρ S<;>rfl
@[simp] theorem zuZ{l k:List D}:zrd (.ok [.tup l,.tup k] S)=.ok (zfo l k) S:=(rfl)
@[simp] theorem zuY{l k:List D}:zrd (.ok [.lst l,.tup k] S)=.ok (zfo l k) S:=(rfl)
@[simp] theorem zuX{l k:List D}:zrd (.ok [.tup l,.lst k] S)=.ok (zfo l k) S:=(rfl)
@[simp] theorem zuW{l k:List D}:zrd (.ok [.lst l,.lst k] S)=.ok (zfo l k) S:=(rfl)
@[simp] theorem zt8:zfn f ρ S=zrf (zaq [f] ρ S):=by
 unfold zfn;cases zaq [f] ρ S<;>rfl
@[simp] theorem zvc{j:Int}:zrf (.ok [.int j] S)=if -1000000<=j/\j<=1000000 then .ok (zaP 0 j) S else .bad:=(rfl)
@[simp] theorem zt7:zk8 f g ρ S=zre (zaq [f,g] ρ S):=by
 unfold zk8;cases zaq [f,g] ρ S<;>rfl
@[simp] theorem zvb{i j:Int}:zre (.ok [.int i,.int j] S)=if (-1000000<=i/\i<=1000000)/\-1000000<=j/\j<=1000000 then .ok (zaP i j) S else .bad:=(rfl)
@[simp] theorem zuD{n:Nat}{t:Tg}{it:Fi}{caps:List Nat}:zcX n t it c f caps ρ S=zoH t c f (zb3 n caps ρ) (it ρ S):=by
 unfold zcX
 cases it ρ S with
 | ok ds S' =>
  simp only [Out.bind,zoH]
  cases zb4 t c f (zb3 n caps ρ) ds S'<;>rfl
 | exc c S'=>rfl
 | bad=>rfl
@[simp] theorem zvt{t:Tg}{ρ0:Env}{ds:List D}:zoH t c f ρ0 (.ok ds S)=zkQ (zb4 t c f ρ0 ds S):=(rfl)
@[simp] theorem ztk{ys:List D}:zkQ (.ok ys S)=if zby ys.length then .ok (.lst ys) S else .bad:=(rfl)
@[simp] theorem zv1:zfk ρ S=.ok (.bl true) S:=(rfl)
@[simp] theorem zpt{n:Nat}{caps:List Nat}:zb3 n caps ρ=List.replicate n none++caps.map (zrG ρ):=(rfl)
@[simp] theorem zuE{i:Nat}:zrG ρ i=zvP ρ[i]?:=(rfl)
@[simp] theorem zxk{d:D}:zvP (some (some (false,d)))=some (false,d):=(rfl)
theorem zar{n:Nat}{own:Bool}{fs:Fs}{ds:List D}:zbv n own fs ds S=zr5 own (fs (ds.map (fun d=>some (false,d))++List.replicate (n-ds.length) none) S):=(rfl)
@[simp] theorem zva{own:Bool}{d:D}:zr5 own (.rt d S)=.ok d S:=(rfl)
@[simp] theorem zu9:zr5 false (.nx ρ S)=.ok .non S:=(rfl)
@[simp] theorem zu8{own:Bool}{x:Str}:zr5 own (.ex x ρ S)=.exc x S:=(rfl)
@[simp] theorem zwm{b:Bool}:isB (.bl b)=some b:=(rfl)
@[simp] theorem zwa{b:Bool}:zeU (.bl b)=some (.bl (!b)):=(rfl)
@[simp] theorem zwb{i:Int}:zow (.int i)=some (.int (-i)):=(rfl)
@[simp] theorem zuH{i j:Int}:zer (.int i) (.int j)=some (.int (i+j)):=(rfl)
@[simp] theorem zuF{x y:List D}:zer (.tup x) (.tup y)=if zby (x.length+y.length) then some (.tup (x++y)) else none:=(rfl)
@[simp] theorem zuG{x y:List D}:zer (.lst x) (.lst y)=if zby (x.length+y.length) then some (.lst (x++y)) else none:=(rfl)
@[simp] theorem zv2{i j:Int}:zrY (.int i) (.int j)=some (.int (i-j)):=(rfl)
@[simp] theorem zwd{i j:Int}:zfy (.int i) (.int j)=if zcs i||zcs j then some (.int (i*j)) else none:=(rfl)
@[simp] theorem zwe{i j:Int}:zkz (.int i) (.int j)=if 0<j then some (.int (i % j)) else none:=(rfl)
@[simp] theorem zwv{i j:Int}:zrx (.int i) (.int j)=if 0<j/\j<1073741824 then some (.int (i / j)) else none:=(rfl)
@[simp] theorem zxD{i j:Int}:ltD (.int i) (.int j)=some (.bl (decide (i<j))):=(rfl)
@[simp] theorem zxE{i j:Int}:leD (.int i) (.int j)=some (.bl (decide (i<=j))):=(rfl)
@[simp] theorem zxF{i j:Int}:gtD (.int i) (.int j)=some (.bl (decide (j<i))):=(rfl)
@[simp] theorem zxG{i j:Int}:geD (.int i) (.int j)=some (.bl (decide (j<=i))):=(rfl)
@[simp] theorem zwi{l:List D}{i:Int}:ixD (.lst l) (.int i)=atI l i:=(rfl)
@[simp] theorem zwg{l:List D}{i:Int}:ixD (.tup l) (.int i)=atI l i:=(rfl)
@[simp] theorem zwh{l:List Int}{i:Int}:ixD (.scr l) (.int i)=(atI l i).map D.int:=(rfl)
@[simp] theorem zuq{l:List D}:zew [.lst l]=some (.int l.length):=(rfl)
@[simp] theorem zuo{l:List D}:zew [.tup l]=some (.int l.length):=(rfl)
@[simp] theorem zup{l:List Int}:zew [.scr l]=some (.int l.length):=(rfl)
@[simp] theorem ztZ{l:List D}:zdK [.lst l]=some (.tup l):=(rfl)
@[simp] theorem ztY{l:List D}:zdK [.tup l]=some (.tup l):=(rfl)
@[simp] theorem zun{l:List D}:zkI [.lst l]=some (.lst l):=(rfl)
@[simp] theorem zum{l:List D}:zkI [.tup l]=some (.lst l):=(rfl)
@[simp] theorem zwk{d:D}:zne d .non=some (.bl (zc9 d)):=(rfl)
@[simp] theorem zud{d:D}:zhB d .non=some (.bl (!zc9 d)):=(rfl)
@[simp] theorem zuj:zc9 .non=true:=(rfl)
@[simp] theorem zui{i:Int}:zc9 (.int i)=false:=(rfl)
@[simp] theorem zuh{l:List D}:zc9 (.tup l)=false:=(rfl)
@[simp] theorem zv3{l:List D}{x y:Option Int}:slD (.tup l) x y=some (.tup (zjq l x y)):=(rfl)
@[simp] theorem zv4{l:List D}{x y:Option Int}:slD (.lst l) x y=some (.lst (zjq l x y)):=(rfl)
@[simp] theorem zue{x y:Bool}:zkv (.bl x) (.bl y)=some (.bl (!decide (x=y))):=(rfl)
@[simp] theorem zul{i j:Int}:zjd [.int i,.int j]=some (.int (if j<i then j else i)):=(rfl)
@[simp] theorem zwf{i j:Int}:zr2 [.int i,.int j]=some (.int (if j<i then j else i)):=(rfl)
@[simp] theorem zsk{n:Nat}:zby n=decide (n<=100000):=(rfl)
theorem zbX{α:Type}(xs:List α)(j:Nat):atI xs (j:Int)=xs[j]?:=by
 unfold atI ixN
 by_cases h:j<xs.length
 ·simp [h]
 ·simp [h]
@[simp] theorem zsf{α:Type}(xs:List α):atI xs 0=xs[0]?:=zbX xs 0
@[simp] theorem ztN{α:Type}(xs:List α):atI xs 1=xs[1]?:=zbX xs 1
@[simp] theorem ztM{α:Type}(xs:List α):atI xs 2=xs[2]?:=zbX xs 2
@[simp] theorem zrL{α:Type}(xs:List α):atI xs 3=xs[3]?:=zbX xs 3
theorem zgn{α:Type}{xs:List α}{i:Int}(h:0<=i):atI xs i=xs[i.toNat]?:=by
 obtain ⟨n,rfl⟩:=Int.eq_ofNat_of_zero_le h;exact zbX xs n
end
theorem ziG{tg:Tg}{body:Fs}{ds:List D}{S:Sto}(Iv:Nat->Env->Prop)(step:∀k d ρ,ds[k]?=some d->Iv k ρ->∃ρ1 ρ2,tg.put ρ d=some ρ1/\body ρ1 S=.nx ρ2 S/\Iv (k+1) ρ2){ρ:Env}(h0:Iv 0 ρ):∃ρ',zfi tg body ds ρ S=.nx ρ' S/\Iv ds.length ρ':=by
 have go:∀(n:Nat) (es:List D) (k:Nat) (ρ:Env),es.length=n->ds.drop k=es->k+n=ds.length->Iv k ρ->∃ρ',zfi tg body es ρ S=.nx ρ' S/\Iv ds.length ρ':=by
  intro n
  induction n with
  | zero =>
   intro es k ρ hl he hk hi;obtain rfl:es=[]:=List.eq_nil_of_length_eq_zero hl;exact ⟨ρ,rfl,by rw [show ds.length=k by omega];exact hi⟩
  | succ n ih =>
   intro es k ρ hl he hk hi
   cases es with
   | nil=>cases hl
   | cons d es =>
    have hd:ds[k]?=some d:=by
     have:=congrArg (fun l=>l[0]?) he;rw [List.getElem?_drop] at this;simpa using this
    obtain ⟨ρ1,ρ2,e1,e2,hi2⟩:=step k d ρ hd hi;obtain ⟨ρ',e3,e4⟩:=ih es (k+1) ρ2 (by simpa using hl) (by rw [<-List.drop_drop,he];rfl) (by omega) hi2;refine ⟨ρ',?_,e4⟩;unfold zfi;rw [e1];dsimp only;rw [e2];exact e3
 exact go ds.length ds 0 ρ rfl (by simp) (by omega) h0
theorem zdd{tg:Tg}{c elt:Fe}{ρ0:Env}{S:Sto}{g:D->D}{p:D->Bool}:∀{ds:List D},(∀d∈ds,∃ρ1,tg.put ρ0 d=some ρ1/\c ρ1 S=.ok (.bl (p d)) S/\(p d=true->elt ρ1 S=.ok (g d) S))->zb4 tg c elt ρ0 ds S=.ok ((ds.filter p).map g) S
 | [],_=>rfl
 | d::ds,h=>by
  obtain ⟨ρ1,e1,e2,e3⟩:=h d List.mem_cons_self;have ih:=zdd (ds:=ds) fun x hx=>h x (List.mem_cons_of_mem _ hx)
  unfold zb4;rw [e1];dsimp only;rw [e2]
  cases hp:p d with
  | true=>simp [e3 hp,ih,hp]
  | false=>simp [ih,hp]
theorem zb0{tg:Tg}{elt:Fe}{ρ0:Env}{S:Sto}{g:D->D}{ds:List D}(h:∀d∈ds,∃ρ1,tg.put ρ0 d=some ρ1/\elt ρ1 S=.ok (g d) S):zb4 tg zfk elt ρ0 ds S=.ok (ds.map g) S:=by
 have:=zdd (c:=zfk) (p:=fun _=>true) (tg:=tg) (elt:=elt) (ρ0:=ρ0) (S:=S) (g:=g) (ds:=ds) fun d hd=>by
  obtain ⟨ρ1,e1,e2⟩:=h d hd;exact ⟨ρ1,e1,rfl,fun _=>e2⟩
 rw [this,List.filter_eq_self.mpr (fun _ _=>rfl)]
mutual
def D.pl:D->Bool
 | .non=>true
 | .int _=>true
 | .str _=>true
 | .tup l=>D.pls l
 | .lst l=>D.pls l
 | _=>false
def D.pls:List D->Bool
 | []=>true
 | d::l=>d.pl&&D.pls l
end
mutual
theorem zk7:∀(d e:D),d.pl=true->e.pl=true->(d.py.eqv e.py=true↔d=e)
 | .non,e,_,h=>by cases e<;>simp [D.py,PyData.eqv,D.pl] at h ⊢
 | .int i,e,_,h=>by cases e<;>simp [D.py,PyData.eqv,D.pl] at h ⊢
 | .str x,e,_,h=>by cases e<;>simp [D.py,PyData.eqv,D.pl] at h ⊢
 | .tup l,e,hd,h=>by
  cases e with
  | tup k =>
   simp only [D.py,PyData.eqv,D.pl] at hd h ⊢;rw [zhM l k hd h];simp
  | _=>simp [D.py,PyData.eqv,D.pl] at h ⊢
 | .lst l,e,hd,h=>by
  cases e with
  | lst k =>
   simp only [D.py,PyData.eqv,D.pl] at hd h ⊢;rw [zhM l k hd h];simp
  | _=>simp [D.py,PyData.eqv,D.pl] at h ⊢
 | .bl _,_,hd,_=>by simp [D.pl] at hd
 | .dic _,_,hd,_=>by simp [D.pl] at hd
 | .ref _,_,hd,_=>by simp [D.pl] at hd
 | .exc _,_,hd,_=>by simp [D.pl] at hd
 | .scr _,_,hd,_=>by simp [D.pl] at hd
theorem zhM:∀(l k:List D),D.pls l=true->D.pls k=true->(PyData.eqvAll (D.pys l) (D.pys k)=true↔l=k)
 | [],[],_,_=>by simp [D.pys,PyData.eqvAll]
 | [],_::_,_,_=>by simp [D.pys,PyData.eqvAll]
 | _::_,[],_,_=>by simp [D.pys,PyData.eqvAll]
 | d::l,e::k,h1,h2=>by
  simp only [D.pls,Bool.and_eq_true] at h1 h2;simp only [D.pys,PyData.eqvAll,Bool.and_eq_true,List.cons.injEq];rw [zk7 d e h1.1 h2.1,zhM l k h1.2 h2.2]
end
end S2
namespace S2
open PySem
open L2 hiding D
@[simp] theorem ztH{n:Nat}{i:Int}:D.fit n (.int i)=true:=by cases n<;>rfl
@[simp] theorem ztF{n:Nat}:D.fit n .non=true:=by cases n<;>rfl
@[simp] theorem ztE{n:Nat}{l:List D}:D.fit (n+1) (.tup l)=D.fits n l:=(rfl)
@[simp] theorem ztG{n:Nat}{l:List D}:D.fit (n+1) (.lst l)=D.fits n l:=(rfl)
@[simp] theorem zsa{n:Nat}:D.fits n []=true:=by cases n<;>rfl
@[simp] theorem zru{n:Nat}{d:D}{l:List D}:D.fits n (d::l)=(d.fit n&&D.fits n l):=by cases n<;>rfl
@[simp] theorem zwo{i j:Int}:eqD (.int i) (.int j)=some (.bl (decide (i=j))):=by
 unfold eqD zjA;simp [D.py,PyData.eqv]
 cases h:(i == j)<;>simp_all
@[simp] theorem zwc{i j:Int}:neD (.int i) (.int j)=some (.bl (!decide (i=j))):=by
 unfold neD zjA;simp [D.py,PyData.eqv]
 cases h:(i == j)<;>simp_all
theorem zfI{l:List Int}:eqD (.scr l) (.lst [])=some (.bl (decide (l=[]))):=by
 cases l with
 | nil=>rfl
 | cons a l=>simp [eqD,D.fit,D.fits,zjA,D.py,D.pys,PyData.eqv,PyData.eqvAll]
def zju(l:List Int)(k:Int):Int:=if k<l.length then l.getD k.toNat 0 else if l=[] then 0 else l.getD (k % l.length).toNat 0*31+k
def zja(l:List Int)(k:Int)(many:Int):Int :=
 let d:=(zju l k+6151*(k+1))*40692 % 2147483399
 (d*d+d / 31) % 2147483629 % many
theorem zhy(l:List Int)(k:Int){many:Int}(h:0<many):0<=zja l k many/\zja l k many<many:=⟨Int.emod_nonneg _ (by omega),Int.emod_lt_of_pos _ h⟩
@[simp] theorem zvU:zcs 31=true:=by decide
@[simp] theorem zsb:zcs 6151=true:=by decide
@[simp] theorem zrw:zcs 40692=true:=by decide
theorem znk{i:Int}(h0:-(2 ^ 64)<i)(h:i<2 ^ 64):zcs i=true:=by unfold zcs;simp;omega
theorem zlU{l:List Int}{k:Int}{S:Sto}(hk:0<=k):zbO [.scr l,.int k] S=.ok (.int (zju l k)) S:=by
 unfold zju
 by_cases h:k<l.length
 ·have hx:l[k.toNat]?=some l[k.toNat]:=List.getElem?_eq_getElem (by omega);rw [if_pos h,List.getD_eq_getElem?_getD,hx];simp [zbO,zar,zch,h,zgn hk,hx]
 ·by_cases h0:l=[]
  ·subst h0;simp [zbO,zar,zch,zfI,show ¬ k<0 by omega]
  ·have hl:0<l.length:=by cases l with | nil=>exact absurd rfl h0 | cons _ _=>simp
   have hm0:0<=k % (l.length:Int):=Int.emod_nonneg _ (by omega);have hm1:k % (l.length:Int)<l.length:=Int.emod_lt_of_pos _ (by omega);have hx:l[(k % (l.length:Int)).toNat]?=some (l[(k % (l.length:Int)).toNat]'(by omega)):=List.getElem?_eq_getElem (by omega);rw [if_neg h,if_neg h0,List.getD_eq_getElem?_getD,hx];simp [zbO,zar,zch,h,h0,zfI,zgn hm0,hx,hl]
theorem zfX{l:List Int}{k many:Int}{S:Sto}(hk:0<=k)(hm:0<many):za9 [.scr l,.int k,.int many] S=.ok (.int (zja l k many)) S:=by
 unfold zja;have h0:0<=(zju l k+6151*(k+1))*40692 % 2147483399:=Int.emod_nonneg _ (by omega);have h1:(zju l k+6151*(k+1))*40692 % 2147483399<2147483399:=Int.emod_lt_of_pos _ (by omega);have hf:zcs ((zju l k+6151*(k+1))*40692 % 2147483399)=true:=znk (by omega) (by omega);simp [za9,zar,zdF,zlU hk,hf,hm]
def zao(t:List Int):D:=.tup (t.map D.int)
theorem zgJ{hi:Int}{k:Nat}{d:D}(h:(zaP 0 hi)[k]?=some d):d=.int k/\(k:Int)<hi:=by
 unfold zaP at h;rw [List.getElem?_map] at h
 cases hr:(List.range (hi-0).toNat)[k]? with
 | none=>rw [hr] at h;cases h
 | some j =>
  rw [hr] at h;obtain ⟨h1,h2⟩:=List.getElem?_eq_some_iff.mp hr;simp at h1 h2;subst h2;simp at h;exact ⟨h.symm,by omega⟩
@[simp] theorem zqk{hi:Int}:(zaP 0 hi).length=hi.toNat:=by unfold zaP;simp
end S2
namespace S2
open PySem
open L2 hiding D
@[simp] theorem zxw:zcs 4=true:=by decide
@[simp] theorem zxv:zcs 7=true:=by decide
end S2
namespace S2
open PySem
open L2 hiding D
def oD:Option Int->D | none=>.non | some i=>.int i
def zgp(c:Nat)(g:Nat->Option Int):List D:=(List.range c).map fun j=>oD (g j)
def zka(c:Nat)(g:Nat->Option Int):D:=.tup (zgp c g)
def zfj(r c:Nat)(g:Z1):List D:=(List.range r).map fun i=>zka c (g i)
def flr(r c:Nat)(g:Z1):D:=.tup (zfj r c g)
@[simp] theorem zrZ{c:Nat}{g:Nat->Option Int}:(zgp c g).length=c:=by simp [zgp]
@[simp] theorem zmz{r c:Nat}{g:Z1}:(zfj r c g).length=r:=by simp [zfj]
theorem zii{c j:Nat}{g:Nat->Option Int}(h:j<c):(zgp c g)[j]?=some (oD (g j)):=by simp [zgp,h]
theorem zgf{r c i:Nat}{g:Z1}(h:i<r):(zfj r c g)[i]?=some (zka c (g i)):=by simp [zfj,h]
@[simp] theorem zsU{c j:Nat}{g:Nat->Option Int}(h:j<(zgp c g).length):(zgp c g)[j]=oD (g j):=by simp [zgp]
@[simp] theorem ztC{r c i:Nat}{g:Z1}(h:i<(zfj r c g).length):(zfj r c g)[i]=zka c (g i):=by simp [zfj]
end S2
namespace S2
open PySem
open L2 hiding D
abbrev plD(i j:Nat):D:=.tup [.int i,.int j]
def zco(r c:Nat):List D:=(List.range r).flatMap fun i=>(List.range c).map fun j=>plD i j
theorem zgO{k c:Nat}:zco (k+1) c=zco k c++(List.range c).map fun j=>plD k j:=by simp [zco,List.range_succ]
theorem zcy{r c:Nat}{d:D}(h:d∈zco r c):∃i j,i<r/\j<c/\d=plD i j:=by
 simp only [zco,List.mem_flatMap,List.mem_range,List.mem_map] at h;obtain ⟨i,hi,j,hj,e⟩:=h;exact ⟨i,j,hi,hj,e.symm⟩
theorem zki{r c i j:Nat}(hi:i<r)(hj:j<c):plD i j∈zco r c:=by
 simp only [zco,List.mem_flatMap,List.mem_range,List.mem_map];exact ⟨i,hi,j,hj,rfl⟩
theorem zdz{r c:Nat}:(zco r c).length=r*c:=by
 induction r with
 | zero=>simp [zco]
 | succ k ih=>rw [zgO,List.length_append,ih];simp [Nat.succ_mul]
theorem zcQ{r c:Nat}{g:Z1}{S:Sto}(h:1<=r):zbz [flr r c g] S=.ok (.tup [.int r,.int c]) S:=by
 have e:=zgf (c:=c) (g:=g) (i:=0) (r:=r) (by omega);simp [zbz,zar,ze8,flr,e,zka,show 0<r by omega]
theorem zbN{r c:Nat}{g:Z1}{S:Sto}(h:1<=r)(hr:r<=100)(hc:c<=100):zaC [flr r c g] S=.ok (.lst (zco r c)) S:=by
 have inner:∀(k:Nat) (y:Option (Bool×D)),k<r->∃y',zfi (.one 4) zca (zaP 0 c) [some (false,flr r c g),some (false,.tup [.int r,.int c]),some (true,.lst (zco k c)),some (false,.int k),y] S
   = .nx [some (false,flr r c g),some (false,.tup [.int r,.int c]),some (true,.lst (zco (k+1) c)),some (false,.int k),y'] S:=by
  intro k y hk
  obtain ⟨ρ',e,y',rfl⟩:=ziG (tg:=.one 4) (body:=zca) (ds:=zaP 0 c) (S:=S) (fun j ρ=>∃y,ρ=[some (false,flr r c g),some (false,.tup [.int r,.int c]),some (true,.lst (zco k c++(List.range j).map fun j=>plD k j)),some (false,.int k),y]) (by
   rintro j d ρ hd ⟨y,rfl⟩;obtain ⟨rfl,hj⟩:=zgJ hd
   have hl:k*c+j<=100000:=by
    have:k*c<=100*100:=Nat.mul_le_mul (by omega) (by omega);omega
   refine ⟨_,_,rfl,?_,some (false,.int j),rfl⟩
   simp [zca,List.range_succ,zdz,hl])
   (ρ:=[some (false,flr r c g),some (false,.tup [.int r,.int c]),some (true,.lst (zco k c)),some (false,.int k),y]) ⟨y,by simp⟩
  refine ⟨y',?_⟩;rw [e,zgO];simp
 obtain ⟨ρ',e,x,y,rfl⟩:=ziG (tg:=.one 3) (body:=zcZ) (ds:=zaP 0 r) (S:=S) (fun k ρ=>∃x y,ρ=[some (false,flr r c g),some (false,.tup [.int r,.int c]),some (true,.lst (zco k c)),x,y]) (by
  rintro k d ρ hd ⟨x,y,rfl⟩;obtain ⟨rfl,hk⟩:=zgJ hd;obtain ⟨y',e⟩:=inner k y (by omega);refine ⟨_,_,rfl,?_,some (false,.int k),y',rfl⟩
  simp [zcZ,e,show -1000000<=(c:Int)/\(c:Int)<=1000000 by omega])
  (ρ:=[some (false,flr r c g),some (false,.tup [.int r,.int c]),some (true,.lst []),none,none]) ⟨none,none,rfl⟩
 simp at e;simp [zaC,zar,zdD,zcQ h,e,show -1000000<=(r:Int)/\(r:Int)<=1000000 by omega]
theorem zbd{r c i j:Nat}{g:Z1}{S:Sto}(hi:i<r)(hj:j<c):zai [flr r c g,plD i j] S=.ok (oD (g i j)) S:=by
 simp [zai,zar,zdE,flr,plD,zbX,zgf hi,zii hj,zka]
theorem zc4{l:List D}{a b:Int}{S:Sto}:zaF [.tup l,.int a,.int b] S=.ok (.bl (decide (a<=l.length/\(l.length:Int)<=b))) S:=by
 by_cases h1:a<=(l.length:Int)
 ·by_cases h2:(l.length:Int)<=b<;>simp [zaF,zar,zb8,zes,h1,h2]
 ·simp [zaF,zar,zb8,zes,h1]
theorem zgF{l k:List D}{S:Sto}:zbA [.tup l,.tup k] S=.ok (.bl (decide (l.length=k.length))) S:=by
 simp [zbA,zar,zcV,zc4];rw [<-Bool.decide_and,decide_eq_decide];omega
theorem zpb{α:Type}{xs:List α}{p:α->Bool}:zgm (xs.map fun x=>D.bl (p x))=some (xs.map p):=by
 induction xs with
 | nil=>rfl
 | cons x xs ih=>simp [zgm,ih]
theorem all_map{α:Type}{xs:List α}{p:α->Bool}:znv [.lst (xs.map fun x=>D.bl (p x))]=some (.bl (xs.all p)):=by
 show Option.map _ (zgm _)=_;rw [zpb];simp [List.all_map]
end S2
namespace S2
open PySem
open L2 hiding D
@[simp] theorem zxx{a b:Option Int}:eqD (oD a) (oD b)=some (.bl (decide (a=b))):=by
 cases a<;>cases b<;>simp [oD]
 ·rfl
 ·rfl
 ·rfl
@[simp] theorem zuU{a:Option Int}:zc9 (oD a)=decide (a=none):=by cases a<;>simp [oD]
theorem zeH{l:List D}{n:Nat}{S:Sto}:zaF [.tup l,.int n,.int n] S=.ok (.bl (decide (l.length=n))) S:=by
 rw [zc4];congr 3;apply propext;omega
theorem zih{r c r' c':Nat}{g h:Z1}{S:Sto}(h1:1<=r)(hr:r<=1000):zcF [flr r c g,flr r' c' h] S=.ok (.bl (decide (r'=r/\c'=c))) S:=by
 by_cases e:r'=r
 ·subst e
  have hz:zfo (zfj r' c g) (zfj r' c' h)=(List.range r').map fun i=>.tup [zka c (g i),zka c' (h i)]:=by
   apply List.ext_getElem?;intro i
   by_cases hi:i<r'
   ·have:i<(zfo (zfj r' c g) (zfj r' c' h)).length:=by rw [zet];simp;omega
    obtain ⟨x,y,e1,e2,e3⟩:=zfR (List.getElem?_eq_getElem this);rw [zgf hi] at e1 e2;cases e1;cases e2;rw [List.getElem?_eq_getElem this,e3];simp [hi]
   ·rw [List.getElem?_eq_none (by rw [zet];simp;omega),List.getElem?_eq_none (by simp;omega)]
  have ec:zb4 (.tup [0,1]) zfk (eFn zbA [(zad 0),(zad 1)]) [none,none] (zfo (zfj r' c g) (zfj r' c' h)) S=.ok ((List.range r').map fun _=>.bl (decide (c=c'))) S:=by
   rw [hz,zb0 (g:=fun _=>.bl (decide (c=c')))]
   ·simp
   ·intro d hd;simp only [List.mem_map,List.mem_range] at hd;obtain ⟨i,hi,rfl⟩:=hd;exact ⟨_,rfl,by simp [zka,zgF]⟩
  have ea:znv [.lst ((List.range r').map fun _=>.bl (decide (c=c')))]=some (.bl (decide (c'=c))):=by
   rw [all_map (p:=fun _=>decide (c=c'))]
   by_cases hc:c=c'
   ·subst hc;simp
   ·have:((List.range r').all fun _=>false)=false:=by
     cases r' with
     | zero=>omega
     | succ n=>simp [List.range_succ]
    simp only [hc,show ¬ c'=c from fun z=>hc z.symm,decide_false,this]
  simp only [List.map_const',List.length_range] at ec ea;simp [zcF,zar,zdU,flr,zeH,ec,ea,show r'<=100000 by omega]
 ·simp [zcF,zar,zdU,flr,zeH,e]
def zdq(g:Z1):D->Bool | .tup [.int i,.int j]=>(g i.toNat j.toNat).isSome | _=>false
theorem zlR{r c:Nat}{g:Z1}{S:Sto}(h:1<=r)(hr:r<=100)(hc:c<=100):zb7 [flr r c g] S=.ok (.lst ((zco r c).filter (zdq g))) S:=by
 have hl:((zco r c).filter (zdq g)).length<=100000:=by
  refine Nat.le_trans (List.length_filter_le _ _) ?_;rw [zdz];have:r*c<=100*100:=Nat.mul_le_mul hr hc;omega
 have e:zb4 (.one 0) (zal zhB (eFn zai [(zad 1),(zad 0)]) (zak .non)) (zad 0) [none,some (false,flr r c g)] (zco r c) S=.ok ((zco r c).filter (zdq g)) S:=by
  rw [zdd (g:=id) (p:=zdq g)]
  ·simp
  ·intro d hd;obtain ⟨i,j,hi,hj,rfl⟩:=zcy hd;refine ⟨_,rfl,?_,fun _=>by simp⟩;simp [zbd hi hj,zdq]
   cases g i j<;>rfl
 simp [zb7,zar,zcU,zbN h hr hc,e,hl]
def zjo(r c:Nat)(g h:Z1):Bool:=decide (∀i,i<r->∀j,j<c->h i j=none\/g i j=h i j)
theorem zgD{r c:Nat}{g h:Z1}{S:Sto}(h1:1<=r)(hr:r<=100)(hc:c<=100):zbU [flr r c g,flr r c h] S=.ok (.bl (zjo r c g h)) S:=by
 have hl:((zco r c).filter (zdq h)).length<=100000:=by
  refine Nat.le_trans (List.length_filter_le _ _) ?_;rw [zdz];have:r*c<=100*100:=Nat.mul_le_mul hr hc;omega
 have e:zb4 (.one 0) zfk (zal eqD (eFn zai [(zad 2),(zad 0)]) (eFn zai [(zad 1),(zad 0)])) [none,some (false,flr r c h),some (false,flr r c g)] ((zco r c).filter (zdq h)) S=.ok (((zco r c).filter (zdq h)).map fun d=>.bl ((fun d=>match d with | .tup [.int i,.int j]=>decide (g i.toNat j.toNat=h i.toNat j.toNat) | _=>true) d)) S:=by
  rw [zb0];intro d hd;obtain ⟨i,j,hi,hj,rfl⟩:=zcy ((List.mem_filter.mp hd).1);exact ⟨_,rfl,by simp [zbd hi hj]⟩
 have ea:(((zco r c).filter (zdq h)).all fun d=>match d with | .tup [.int i,.int j]=>decide (g i.toNat j.toNat=h i.toNat j.toNat) | _=>true)=zjo r c g h:=by
  rw [Bool.eq_iff_iff];unfold zjo;rw [List.all_eq_true,decide_eq_true_iff];constructor
  ·intro H i hi j hj
   cases hh:h i j with
   | none=>exact .inl rfl
   | some x =>
    have:=H (plD i j) (List.mem_filter.mpr ⟨zki hi hj,by simp [zdq,hh]⟩);simp [hh] at this;exact .inr this
  ·intro H d hd;obtain ⟨i,j,hi,hj,rfl⟩:=zcy ((List.mem_filter.mp hd).1);have hp:=(List.mem_filter.mp hd).2;simp [zdq] at hp
   rcases H i hi j hj with z | z
   ·rw [z] at hp;cases hp
   ·simp [z]
 simp [zbU,zar,zcA,zlR h1 hr hc,e,hl,all_map,ea]
end S2
namespace S2
open PySem
open L2 hiding D
theorem zex{tg:Tg}{body:Fs}{S:Sto}{α:Type}(mk:List D->α->Env)(g:D->List D)(N:Nat):∀{ds:List D},(∀d∈ds,∀(L:List D) (x:α),L.length+(g d).length<=N->∃ρ1 x',tg.put (mk L x) d=some ρ1/\body ρ1 S=.nx (mk (L++g d) x') S) →
  ∀(L0:List D) (x0:α),L0.length+(ds.flatMap g).length<=N->∃x',zfi tg body ds (mk L0 x0) S=.nx (mk (L0++ds.flatMap g) x') S
 | [],_,L0,x0,_=>⟨x0,by simp [zfi]⟩
 | d::ds,step,L0,x0,hN=>by
  rw [List.flatMap_cons,List.length_append] at hN;obtain ⟨ρ1,x',e1,e2⟩:=step d List.mem_cons_self L0 x0 (by omega);obtain ⟨x2,e3⟩:=zex mk g N (ds:=ds) (fun d hd=>step d (List.mem_cons_of_mem _ hd)) (L0++g d) x' (by rw [List.length_append];omega);refine ⟨x2,?_⟩;unfold zfi;rw [e1];dsimp only;rw [e2];dsimp only;rw [e3,List.flatMap_cons,List.append_assoc]
theorem ziI{α:Type}{g:α->List D}{m:Nat}:∀{ds:List α},(∀d∈ds,(g d).length<=m)->(ds.flatMap g).length<=ds.length*m
 | [],_=>by simp
 | d::ds,h=>by
  have h1:=h d List.mem_cons_self;have h2:=ziI (ds:=ds) fun d hd=>h d (List.mem_cons_of_mem _ hd)
  rw [List.flatMap_cons,List.length_append,List.length_cons,Nat.succ_mul];omega
theorem zd5{d:D}(h:d.pl=true)(f:d.fit 9=true):neD d d=some (.bl false):=by
 unfold neD zjA;rw [f,(zk7 d d h h).mpr rfl];rfl
theorem zoT{d:D}(h:d.pl=true)(f:d.fit 9=true):eqD d d=some (.bl true):=by
 unfold eqD zjA;rw [f,(zk7 d d h h).mpr rfl];rfl
end S2
namespace S2
open PySem
open L2 hiding D
structure TOk(ts:Z2):Prop where
 four:∀t∈ts,t.length=4
 le:ts.length<=100
def zbp(ts:Z2)(n:Int)(s:Nat):Int:=(ts.getD n.toNat []).getD s 0
theorem zgv{ts:Z2}(ht:TOk ts){n:Int}(h0:0<=n)(h1:n<ts.length):atI (ts.map zao) n=some (.tup ([zbp ts n 0,zbp ts n 1,zbp ts n 2,zbp ts n 3].map D.int)):=by
 rw [zgn h0,List.getElem?_map,List.getElem?_eq_getElem (by omega)];have h4:=ht.four _ (List.getElem_mem (show n.toNat<ts.length by omega))
 have e:ts.getD n.toNat []=ts[n.toNat]:=by rw [List.getD_eq_getElem?_getD,List.getElem?_eq_getElem (by omega)];rfl
 unfold zbp;rw [e];generalize ts[n.toNat]=t at *
 match t,h4 with
 | [a,b,c,d],_=>rfl
theorem zcd{i:Int}{S:Sto}:zbw [.int i] S=.ok (.bl true) S:=by simp [zbw,zar,zdl,zes]
theorem zhs{S:Sto}:zbw [.non] S=.ok (.bl false) S:=by simp [zbw,zar,zdl,zes]
theorem zcw{ts:List D}{o:Option Int}{S:Sto}(h:∀x,o=some x->0<=x/\x<ts.length):zaX [.tup ts,oD o] S=.ok (.bl o.isSome) S:=by
 cases o with
 | none=>simp [zaX,zar,zct,oD,zhs]
 | some x=>obtain ⟨h0,h1⟩:=h x rfl;simp [zaX,zar,zct,oD,zcd,h0,h1]
theorem zdN{r c:Nat}{g:Z1}{i j:Int}{S:Sto}(h1:1<=r):zaY [flr r c g,.tup [.int i,.int j]] S=.ok (.bl (decide ((0<=i/\i<r)/\0<=j/\j<c))) S:=by
 have ht:zaF [.tup [.int i,.int j],.int 2,.int 2] S=.ok (.bl true) S:=by rw [zc4];simp
 by_cases a:0<=i
 ·by_cases b:i<r
  ·by_cases d:0<=j
   ·by_cases e:j<c<;>simp [zaY,zar,zbQ,ht,zcd,zcQ h1,a,b,d,e]
   ·simp [zaY,zar,zbQ,ht,zcd,zcQ h1,a,b,d]
  ·simp [zaY,zar,zbQ,ht,zcd,zcQ h1,a,b]
 ·simp [zaY,zar,zbQ,ht,zcd,zcQ h1,a]
def InT(ts:Z2)(g:Z1):Prop:=∀i j x,g i j=some x->0<=x/\x<ts.length
def zbx(ts:Z2)(r c:Nat)(g:Z1)(i j s:Nat):Option Int:=if i<r/\j<c then (g i j).map fun x=>zbp ts x s else none
theorem zeu{ts:Z2}{r c:Nat}{g:Z1}{i j s:Nat}{S:Sto}(ht:TOk ts)(hg:InT ts g)(h1:1<=r)(hs:s<4):zaR [.tup (ts.map zao),flr r c g,plD i j,.int s] S=.ok (oD (zbx ts r c g i j s)) S:=by
 unfold zbx
 by_cases h:i<r/\j<c
 ·have hp:zaY [flr r c g,plD i j] S=.ok (.bl true) S:=by rw [zdN h1];congr 3;simp;omega
  have hn:=zbd (g:=g) (S:=S) h.1 h.2;have hh:=zcw (ts:=ts.map zao) (o:=g i j) (S:=S) (fun x hx=>by simpa using hg i j x hx);rw [if_pos h]
  cases hx:g i j with
  | none =>
   rw [hx] at hn hh;simp only [oD] at hn hh;simp [zaR,zar,zdc,hp,hn,hh,oD]
  | some x =>
   obtain ⟨x0,x1⟩:=hg i j x hx;rw [hx] at hn hh;have e:=zgv ht x0 x1
   have es:atI ([zbp ts x 0,zbp ts x 1,zbp ts x 2,zbp ts x 3].map D.int) (s:Int)=some (.int (zbp ts x s)):=by
    rw [zbX]
    match s,hs with
    | 0,_=>rfl
    | 1,_=>rfl
    | 2,_=>rfl
    | 3,_=>rfl
   simp only [oD] at hn hh;simp only [List.map_cons,List.map_nil] at e es;simp [zaR,zar,zdc,hp,hn,hh,oD,e,es]
 ·have hp:zaY [flr r c g,plD i j] S=.ok (.bl false) S:=by rw [zdN h1];congr 3;simp;omega
  rw [if_neg h];simp [zaR,zar,zdc,hp,oD]
theorem zlT{ts:Z2}{r c:Nat}{g:Z1}{i j:Nat}{S:Sto}(ht:TOk ts)(hg:InT ts g)(h1:1<=r):zbV [.tup (ts.map zao),flr r c g,plD i j] S=.ok (.tup [oD (zbx ts r c g i j 1),oD (zbx ts r c g i (j+1) 3)]) S:=by
 have e1:zaR [.tup (ts.map zao),flr r c g,.tup [.int i,.int j],.int 1] S=_:=zeu (i:=i) (j:=j) (s:=1) (S:=S) (c:=c) ht hg h1 (by omega);have e2:zaR [.tup (ts.map zao),flr r c g,.tup [.int i,.int ((j:Int)+1)],.int 3] S=_:=zeu (i:=i) (j:=j+1) (s:=3) (S:=S) (c:=c) ht hg h1 (by omega);simp [zbV,zar,zcB,plD,e1,e2]
theorem zj7{ts:Z2}{r c:Nat}{g:Z1}{i j:Nat}{S:Sto}(ht:TOk ts)(hg:InT ts g)(h1:1<=r):zbB [.tup (ts.map zao),flr r c g,plD i j] S=.ok (.tup [oD (zbx ts r c g i j 2),oD (zbx ts r c g (i+1) j 0)]) S:=by
 have e1:zaR [.tup (ts.map zao),flr r c g,.tup [.int i,.int j],.int 2] S=_:=zeu (i:=i) (j:=j) (s:=2) (S:=S) (c:=c) ht hg h1 (by omega);have e2:zaR [.tup (ts.map zao),flr r c g,.tup [.int ((i:Int)+1),.int j],.int 0] S=_:=zeu (i:=i+1) (j:=j) (s:=0) (S:=S) (c:=c) ht hg h1 (by omega);simp [zbB,zar,zcg,plD,e1,e2]
def cl2:Option Int->Option Int->Bool | some a,some b=>!decide (a=b) | _,_=>false
theorem zgH{a b:Option Int}{S:Sto}:zcH [.tup [oD a,oD b]] S=.ok (.bl (cl2 a b)) S:=by
 cases a<;>cases b
 all_goals simp [zcH,zar,zec,oD,cl2,zq2,zj1,zoA,zjA,D.py,PyData.eqv]
def clD(d:D)(s:Str):D:=.tup [d,.str s]
def clG(ts:Z2)(r c:Nat)(g:Z1):D->List D
 | .tup [.int i,.int j]=>(if cl2 (zbx ts r c g i.toNat j.toNat 1) (zbx ts r c g i.toNat (j.toNat+1) 3) then [clD (.tup [.int i,.int j]) "east"] else [])++(if cl2 (zbx ts r c g i.toNat j.toNat 2) (zbx ts r c g (i.toNat+1) j.toNat 0) then [clD (.tup [.int i,.int j]) "south"] else [])
 | _=>[]
def clL(ts:Z2)(r c:Nat)(g:Z1):List D:=(zco r c).flatMap (clG ts r c g)
theorem zo3{ts:Z2}{r c:Nat}{g:Z1}{d:D}:(clG ts r c g d).length<=2:=by
 unfold clG;split
 ·rw [List.length_append];split<;>split<;>simp
 ·simp
theorem zo2{ts:Z2}{r c:Nat}{g:Z1}(hr:r<=100)(hc:c<=100):(clL ts r c g).length<=20000:=by
 refine Nat.le_trans (ziI fun d _=>zo3) ?_;rw [zdz];have:r*c<=100*100:=Nat.mul_le_mul hr hc;omega
theorem zhw{ts:Z2}{r c:Nat}{g:Z1}{S:Sto}(ht:TOk ts)(hg:InT ts g)(h1:1<=r)(hr:r<=100)(hc:c<=100):zdQ [.tup (ts.map zao),flr r c g] S=.ok (.lst (clL ts r c g)) S:=by
 obtain ⟨x',e⟩:=zex (tg:=.one 3) (body:=zdJ) (S:=S) (fun L (x:Option (Bool×D))=>[some (false,.tup (ts.map zao)),some (false,flr r c g),some (true,.lst L),x]) (clG ts r c g) 50000 (ds:=zco r c) (by
  intro d hd L x hL;obtain ⟨i,j,hi,hj,rfl⟩:=zcy hd;refine ⟨_,some (false,plD i j),rfl,?_⟩;have e1:=zlT (i:=i) (j:=j) (S:=S) (c:=c) ht hg h1;have e2:=zj7 (i:=i) (j:=j) (S:=S) (c:=c) ht hg h1
  have hl:L.length<=100000:=by omega
  have hl1:L.length+1<=100000:=by omega
  simp only [plD] at e1 e2
  cases a1:cl2 (zbx ts r c g i j 1) (zbx ts r c g i (j+1) 3)<;>cases a2:cl2 (zbx ts r c g i j 2) (zbx ts r c g (i+1) j 0)<;>simp [zdJ,plD,e1,e2,zgH,a1,a2,clG,clD,hl,hl1]) [] none (by have:=zo2 (ts:=ts) (g:=g) hr hc;unfold clL at this;simp only [List.length_nil];omega)
 simp at e;simp [zdQ,zar,zfb,zbN h1 hr hc,e,clL]
def zjn(r c:Nat)(g:Z1):Bool:=decide (∀i,i<r->∀j,j<c->(g i j).isSome=true)
theorem zj8{ts:Z2}{r c:Nat}{g:Z1}{S:Sto}(ht:TOk ts)(hg:InT ts g)(h1:1<=r)(hr:r<=100)(hc:c<=100):zcE [.tup (ts.map zao),flr r c g] S=.ok (.bl (zjn r c g&&decide (clL ts r c g=[]))) S:=by
 have e:zb4 (.one 0) zfk (eFn zaX [(zad 2),(eFn zai [(zad 1),(zad 0)])]) [none,some (false,flr r c g),some (false,.tup (ts.map zao))] (zco r c) S=.ok ((zco r c).map fun d=>.bl (zdq g d)) S:=by
  rw [zb0];intro d hd;obtain ⟨i,j,hi,hj,rfl⟩:=zcy hd;exact ⟨_,rfl,by simp [zbd hi hj,zcw (ts:=ts.map zao) (o:=g i j) (fun x hx=>by simpa using hg i j x hx),zdq]⟩
 have ea:(zco r c).all (zdq g)=zjn r c g:=by
  rw [Bool.eq_iff_iff];unfold zjn;rw [List.all_eq_true,decide_eq_true_iff];constructor
  ·intro H i hi j hj;simpa [zdq] using H (plD i j) (zki hi hj)
  ·intro H d hd;obtain ⟨i,j,hi,hj,rfl⟩:=zcy hd;simpa [zdq] using H i hi j hj
 have hl:(zco r c).length<=100000:=by
  rw [zdz];have:r*c<=100*100:=Nat.mul_le_mul hr hc;omega
 have hz:decide ((clL ts r c g).length=0)=decide (clL ts r c g=[]):=by rw [decide_eq_decide];exact List.length_eq_zero_iff
 cases hf:zjn r c g
 ·simp [zcE,zar,zdm,zbN h1 hr hc,e,hl,all_map,ea,hf]
 ·simp [zcE,zar,zdm,zbN h1 hr hc,e,hl,all_map,ea,hf,zhw ht hg h1 hr hc]
end S2
namespace S2
open PySem
open L2 hiding D
end S2
namespace S2
open PySem
open L2 hiding D
def zlB(ts:Z2)(c:Nat)(t:List Int)(n:Int):Bool:=decide ((0<t.length % c->zbp ts (t.getLastD 0) 1=zbp ts n 3)/\(c<=t.length->zbp ts (t.getD (t.length-c) 0) 2=zbp ts n 0))
def InR(ts:Z2)(t:List Int):Prop:=∀x∈t,0<=x/\x<ts.length
end S2
namespace S2
open PySem
open L2 hiding D
theorem ziF{t:List Int}{n:Int}{m:Nat}:(t++[n]).getD m 0=if m<t.length then t.getD m 0 else if m=t.length then n else 0:=by
 simp only [List.getD_eq_getElem?_getD]
 by_cases h:m<t.length
 ·rw [List.getElem?_append_left h,if_pos h]
 ·rw [List.getElem?_append_right (by omega),if_neg h]
  by_cases e:m=t.length
  ·subst e;simp
  ·rw [if_neg e,List.getElem?_eq_none (by simp;omega)];rfl
def unI:D->Int | .int i=>i | _=>0
section
variable{ts:Z2}{c:Nat}{S:Sto}{s1 s3 s4:Option (Bool×D)}
end
end S2
namespace S2
open PySem
open L2 hiding D
theorem zn4{c:Nat}:(List.replicate c [D.non]).flatten=zgp c fun _=>none:=by
 simp [zgp,oD,List.flatten_replicate_singleton,List.map_const']
theorem zn5{r c:Nat}:(List.replicate r [D.tup (zgp c fun _=>none)]).flatten=zfj r c fun _ _=>none:=by
 simp [zfj,zka,List.flatten_replicate_singleton,List.map_const']
def zwx:D->List D | .tup l=>l | _=>[]
end S2
namespace S2
open PySem
open L2 hiding D
theorem zn3{n:Nat}{f:D->D}:(zaP 0 (n:Int)).map f=(List.range n).map fun k:Nat=>f (.int k):=by
 simp [zaP,List.map_map,Function.comp_def]
end S2
namespace S2
open PySem
open L2 hiding D
def zvH(und:Str->Str->Bool)(C:Str)(i j:Nat):Fo->Fo
 | .ex c ρ' S'=>if und c C&&decide (i<ρ'.length) then .nx ((ρ'.set j (some (false,.exc c))).set i none) S' else .bad
 | o=>o
section
variable{ρ:Env}{S:Sto}{f g:Fe}{a:Fs}
@[simp] theorem zu1{und:Str->Str->Bool}{C:Str}{i j:Nat}:zvH und C i j (.nx ρ S)=.nx ρ S:=(rfl)
@[simp] theorem zu0{und:Str->Str->Bool}{C c:Str}{i j:Nat}:zvH und C i j (.ex c ρ S)=if und c C&&decide (i<ρ.length) then .nx ((ρ.set j (some (false,.exc c))).set i none) S else .bad:=(rfl)
@[simp] theorem zwj{w:Str->Str->Option Bool}{C c:Str}:zxn w C (.exc c)=(w c C).map .bl:=(rfl)
@[simp] theorem zug{c:Str}:zc9 (.exc c)=false:=(rfl)
@[simp] theorem zuf{l:List D}:zc9 (.lst l)=false:=(rfl)
@[simp] theorem zuk{l:List D}{j:Int}:zjc (.lst l) (.int j)=if decide (0<=j/\j<=1000/\l.length<=1000) then some (.lst (List.replicate j.toNat l).flatten) else none:=(rfl)
end
abbrev Gf:=Nat->Nat->Option Int
def ov(g h:Gf):Gf:=fun i j=>(h i j).or (g i j)
def un(g h:Gf):Gf:=fun i j=>if (h i j).isSome then none else g i j
end S2
namespace S2
open PySem
open L2 hiding D
end S2
namespace S2
open PySem
open L2 hiding D
def sh1:D->Bool | .non=>true | .bl _=>true | .int _=>true | .str _=>true | .tup _=>true | .lst _=>true | _=>false
def sh2:D->Bool | .tup l=>l.all sh1 | d=>sh1 d
end S2
namespace S2
open PySem
open L2 hiding D
def zvO(c f:Str):Out D->Out D | .ok d S=>(match zey c f d S with | some r=>.ok r S | none=>.bad) | .exc c S=>.exc c S | .bad=>.bad
def ziC(G:List D->Sto->Out D)(d:D):Out (List D)->Out D | .ok ds S=>G (d::ds) S | .exc c S=>.exc c S | .bad=>.bad
def zrh(c m:Str)(G:List D->Sto->Out D)(fs:List Fe)(ρ:Env):Out D->Out D | .ok d S=>if zcM c m d S then ziC G d (zaq fs ρ S) else .bad | .exc c S=>.exc c S | .bad=>.bad
def zr6(n:Nat):Out D->Out D | .ok r S=>(match r with | .non=>.ok (.ref n) S | _=>.bad) | .exc c S=>.exc c S | .bad=>.bad
def kMk(c:Str)(dds:List D)(G:List D->Sto->Out D):Out (List D)->Out D | .ok ds S=>zr6 S.length (G (.ref S.length::(ds++dds)) (S++[⟨c,[]⟩])) | .exc c S=>.exc c S | .bad=>.bad
def zmr(c f:Str)(dk:D):Out D->Out D | .ok d S=>(match ziw dk,zfJ c f d S with | some k,some (_,_,ds)=>.ok (.bl (zaN k ds).isNone) S | _,_=>.bad) | .exc c S=>.exc c S | .bad=>.bad
def zvJ(c f:Str)(fo:Fe)(ρ:Env):Out D->Out D | .ok d S=>zmr c f d (fo ρ S) | .exc c S=>.exc c S | .bad=>.bad
def zvM(c f:Str)(o:Option NK):Out D->Out D | .ok d S=>(match o,zfJ c f d S with | some k,some (_,_,ds)=>(match zaN k ds with | some r=>.ok r S | none=>.bad) | _,_=>.bad) | .exc c S=>.exc c S | .bad=>.bad
section
variable{ρ:Env}{S:Sto}{f g h k:Fe}
@[simp] theorem zuy{c x:Str}:zed c x f ρ S=zvO c x (f ρ S):=by unfold zed;cases f ρ S<;>rfl
@[simp] theorem zxe{c x:Str}{d:D}:zvO c x (.ok d S)=(match zey c x d S with | some r=>.ok r S | none=>.bad):=(rfl)
@[simp] theorem zst{c m:Str}{G:List D->Sto->Out D}{fs:List Fe}:zbj c m G f fs ρ S=zrh c m G fs ρ (f ρ S):=by
 unfold zbj
 cases f ρ S with
 | ok d S1 =>
  show (if zcM c m d S1 then (zaq fs ρ S1).bind fun ds S2=>G (d::ds) S2 else .bad)=(if zcM c m d S1 then ziC G d (zaq fs ρ S1) else .bad)
  cases zaq fs ρ S1<;>rfl
 | exc c S=>rfl
 | bad=>rfl
@[simp] theorem zvj{c m:Str}{G:List D->Sto->Out D}{fs:List Fe}{d:D}:zrh c m G fs ρ (.ok d S)=if zcM c m d S then ziC G d (zaq fs ρ S) else .bad:=(rfl)
@[simp] theorem ztf{G:List D->Sto->Out D}{d:D}{ds:List D}:ziC G d (.ok ds S)=G (d::ds) S:=(rfl)
@[simp] theorem zws{c:Str}{dds:List D}{G:List D->Sto->Out D}{fs:List Fe}:eMk c dds G fs ρ S=kMk c dds G (zaq fs ρ S):=by
 unfold eMk
 cases zaq fs ρ S with
 | ok ds S1 =>
  show ((G (.ref S1.length::(ds++dds)) (S1++[⟨c,[]⟩])).bind fun r S2=>match r with | .non=>.ok (.ref S1.length) S2 | _=>.bad)=zr6 S1.length (G (.ref S1.length::(ds++dds)) (S1++[⟨c,[]⟩]))
  cases G (.ref S1.length::(ds++dds)) (S1++[⟨c,[]⟩])<;>rfl
 | exc c S=>rfl
 | bad=>rfl
@[simp] theorem zxL{c:Str}{dds:List D}{G:List D->Sto->Out D}{ds:List D}:kMk c dds G (.ok ds S)=zr6 S.length (G (.ref S.length::(ds++dds)) (S++[⟨c,[]⟩])):=(rfl)
@[simp] theorem zw3{n:Nat}:zr6 n (.ok .non S)=.ok (.ref n) S:=(rfl)
@[simp] theorem zuv{c x:Str}:zmA c x f g ρ S=zvJ c x g ρ (f ρ S):=by
 unfold zmA
 cases f ρ S with
 | ok d S1 =>
  show ((g ρ S1).bind fun d' S2=>match ziw d,zfJ c x d' S2 with | some k,some (_,_,ds)=>.ok (.bl (zaN k ds).isNone) S2 | _,_=>.bad)=zmr c x d (g ρ S1)
  cases g ρ S1<;>rfl
 | exc c S=>rfl
 | bad=>rfl
@[simp] theorem zw2{c x:Str}{d:D}:zvJ c x g ρ (.ok d S)=zmr c x d (g ρ S):=(rfl)
@[simp] theorem zvi{c x:Str}{dk d:D}:zmr c x dk (.ok d S)=(match ziw dk,zfJ c x d S with | some k,some (_,_,ds)=>.ok (.bl (zaN k ds).isNone) S | _,_=>.bad):=(rfl)
@[simp] theorem zux{c x:Str}{i:Nat}:zhP c x f i ρ S=zvM c x (ziA ρ i) (f ρ S):=by unfold zhP;cases f ρ S<;>rfl
@[simp] theorem zxa{c x:Str}{d:D}{o:Option NK}:zvM c x o (.ok d S)=(match o,zfJ c x d S with | some k,some (_,_,ds)=>(match zaN k ds with | some r=>.ok r S | none=>.bad) | _,_=>.bad):=(rfl)
end
def wOb(T Gd Sz:D)(b:Bool)(ds:List (D×D)):Ob:=⟨"Ways",[("tiles",false,T),("ground",false,Gd),("size",false,Sz),("is_round",false,.bl b),("known",true,.dic ds)]⟩
theorem zqZ(o:Option Int):oDn o=oD o:=by cases o<;>rfl
structure WAt(S:Sto)(n:Nat)(ts:Z2)(gr:Z4)(r c:Nat)(b:Bool)(ds:List (D×D)):Prop where
 at_:S[n]?=some (wOb (.tup (ts.map zao)) (.lst (gr.map oD)) (.tup [.int r,.int c]) b ds)
section
variable{S:Sto}{n:Nat}{ts:Z2}{gr:Z4}{r c:Nat}{b:Bool}{ds:List (D×D)}
theorem WAt.tiles(h:WAt S n ts gr r c b ds):zey "Ways" "tiles" (.ref n) S=some (.tup (ts.map zao)):=by
 unfold zey;dsimp only;rw [h.at_];rfl
theorem WAt.ground(h:WAt S n ts gr r c b ds):zey "Ways" "ground" (.ref n) S=some (.lst (gr.map oD)):=by
 unfold zey;dsimp only;rw [h.at_];rfl
theorem WAt.size(h:WAt S n ts gr r c b ds):zey "Ways" "size" (.ref n) S=some (.tup [.int r,.int c]):=by
 unfold zey;dsimp only;rw [h.at_];rfl
theorem WAt.round(h:WAt S n ts gr r c b ds):zey "Ways" "is_round" (.ref n) S=some (.bl b):=by
 unfold zey;dsimp only;rw [h.at_];rfl
theorem WAt.known(h:WAt S n ts gr r c b ds):zfJ "Ways" "known" (.ref n) S=some (n,wOb (.tup (ts.map zao)) (.lst (gr.map oD)) (.tup [.int r,.int c]) b ds,ds):=by
 unfold zfJ;dsimp only;rw [h.at_];rfl
theorem WAt.meth(h:WAt S n ts gr r c b ds)(m:Str)(hm:(m == "tiles")=false/\(m == "ground")=false/\(m == "size")=false/\(m == "is_round")=false/\(m == "known")=false):zcM "Ways" m (.ref n) S=true:=by
 unfold zcM;dsimp only;rw [h.at_];obtain ⟨h1,h2,h3,h4,h5⟩:=hm;simp [wOb,List.lookup_cons,h1,h2,h3,h4,h5]
theorem WAt.len(h:WAt S n ts gr r c b ds):n<S.length:=(List.getElem?_eq_some_iff.mp h.at_).1
theorem WAt.put(h:WAt S n ts gr r c b ds)(ds':List (D×D)):WAt (S.set n (wOb (.tup (ts.map zao)) (.lst (gr.map oD)) (.tup [.int r,.int c]) b ds')) n ts gr r c b ds':=⟨by rw [List.getElem?_set_self h.len]⟩
def zaw(s:Z4):D:=.tup (s.map oD)
theorem zif{k:Int}{s:Z4}:ziw (.tup [.int k,zaw s])=some (k,s):=by
 have:zaw s=.tup (s.map oDn):=by unfold zaw;rw [show oDn=oD from funext zqZ]
 rw [this];exact zcp (k,s)
theorem ziH{α:Type}{a:α}:∀m:Nat,(List.replicate m [a]).flatten=List.replicate m a
 | 0=>rfl
 | m+1=>by rw [List.replicate_succ,List.flatten_cons,ziH m,List.replicate_succ];rfl
theorem zcx(h:WAt S n ts gr r c b ds)(hc:c<=100):zaH [.ref n] S=.ok (zaw (List.replicate (c+2) none)) S:=by
 have e:zfy (.tup [.non]) (.int ((c:Int)+2))=some (zaw (List.replicate (c+2) none)):=by
  show (if _ then _ else _)=_;rw [if_pos (by simp;omega),show ((c:Int)+2).toNat=c+2 by omega,ziH];simp [zaw,oD]
 simp [zaH,zar,zbR,h.size,e]
theorem zei{k:Nat}(h:WAt S n ts gr r c b ds)(hc:1<=c):zba [.ref n,.int k] S=.ok (.bl (decide ((k+1) % c=0))) S:=by
 have e:(((k:Int)+1) % (c:Int))=(((k+1) % c:Nat):Int):=by rw [Int.natCast_emod];rfl
 have e3:(((k:Int)+1) % (c:Int)=0)=((k+1) % c=0):=propext (by rw [e];omega);simp [zba,zar,zci,h.size,show 0<c from hc,e3]
def crO(ts:Z2)(c k:Nat)(s:Z4)(x:Int):Option Int:=if k % c=0 then some (zbp ts x 3) else (s.getLastD none)
def zhn(ts:Z2)(L c:Nat)(b:Bool)(k:Nat)(s:Z4)(x:Int):List (Option Int) :=
 (if (k+1) % c=0 then none else some (zbp ts x 1))::((s.drop 2).dropLast++[if L<=k+c then none else some (zbp ts x 2),if b&&!decide ((k+1) % c=0) then crO ts c k s x else none])
def tl(ts:Z2)(x:Int):D:=.tup [.int (zbp ts x 0),.int (zbp ts x 1),.int (zbp ts x 2),.int (zbp ts x 3)]
def okO:Option Int->Int->Bool | none,_=>true | some a,y=>decide (a=y)
def zjp(ts:Z2)(c:Nat)(b:Bool)(k:Nat)(s:Z4)(x:Int):Bool :=
 okO (s.getD 0 none) (zbp ts x 3)&&okO (s.getD 1 none) (zbp ts x 0)&&(!b||!decide ((k+1) % c=0)||decide (some (zbp ts x 1)=crO ts c k s x))
theorem zgE{o:Option Int}{y:Int}:zeO [oD o,.int y] S=.ok (.bl (okO o y)) S:=by
 cases o<;>simp [zeO,zar,zhK,oD,okO]
theorem zkL{s:Z4}(h:s≠[]):atI (s.map oD) (-1)=some (oD (s.getLastD none)):=by
 have hl:0<s.length:=List.length_pos_iff.mpr h;unfold atI ixN;rw [List.length_map,if_neg (by omega),if_pos (by omega)];show (s.map oD)[(-1+(s.length:Int)).toNat]?=_;rw [show (-1+(s.length:Int)).toNat=s.length-1 by omega,List.getElem?_map,List.getLastD_eq_getLast?,List.getLast?_eq_getElem?,List.getElem?_eq_getElem (by omega)];rfl
theorem zc1{k:Nat}{s:Z4}{x:Int}(h:WAt S n ts gr r c b ds)(hc:1<=c)(hs:s.length=c+2):zaA [.ref n,.int k,zaw s,tl ts x] S=.ok (oD (crO ts c k s x)) S:=by
 have e:((k:Int) % (c:Int))=((k % c:Nat):Int):=by rw [Int.natCast_emod]
 have e3:((k:Int) % (c:Int)=0)=(k % c=0):=propext (by rw [e];omega);have el:=zkL (s:=s) (by rintro rfl;simp at hs)
 by_cases z:k % c=0
 ·simp [zaA,zar,za2,h.size,show 0<c from hc,e3,z,crO,tl,oD]
 ·simp [zaA,zar,za2,h.size,show 0<c from hc,e3,z,crO,zaw,el]
theorem zoX{α:Type}{l:List α}(h:3<=l.length):zjq l (some 2) (some (-1))=(l.drop 2).dropLast:=by
 unfold zjq
 have e1:HT.sIx l.length 0 (some 2)=2:=by
  unfold HT.sIx;simp;omega
 have e2:HT.sIx l.length l.length (some (-1))=l.length-1:=by
  unfold HT.sIx;simp;omega
 rw [e1,e2,List.dropLast_eq_take,List.length_drop];congr 1
theorem zeI{k:Nat}{s:Z4}{x:Int}(h:WAt S n ts gr r c b ds)(hc:1<=c)(hc2:c<=100)(hs:s.length=c+2):za7 [.ref n,.int k,zaw s,tl ts x] S=.ok (zaw (zhn ts gr.length c b k s x)) S:=by
 have e1:=zei (k:=k) h hc;have e2:=zc1 (k:=k) (s:=s) (x:=x) h hc hs;have m1:=h.meth "ends_row" (by decide +kernel);have m2:=h.meth "colour_round" (by decide +kernel);have eg:((gr.length:Int)<=(k:Int)+(c:Int))=(gr.length<=k+c):=propext (by omega)
 have ec:zjq (s.map oD) (some 2) (some (-1))=((s.drop 2).dropLast).map oD:=by
  rw [zoX (by rw [List.length_map];omega),List.map_dropLast,List.map_drop]
 have hl:((s.drop 2).dropLast).length<=100:=by rw [List.length_dropLast,List.length_drop,hs];omega
 unfold zhn;unfold zaw at e2 ⊢;have tlE:tl ts x=.tup [.int (zbp ts x 0),.int (zbp ts x 1),.int (zbp ts x 2),.int (zbp ts x 3)]:=rfl;generalize (s.drop 2).dropLast=M at ec hl;generalize s.map oD=sd at e2 ec;generalize crO ts c k s x=cr at e2;rw [tlE] at e2 ⊢
 have l1:1+M.length<=100000:=by omega
 have l2:M.length+1+2<=100000:=by omega
 have l3:M.length+1+1+1<=100000:=by omega
 by_cases z1:(k+1) % c=0<;>by_cases z2:gr.length<=k+c<;>cases b <;>
  simp [za7,zar,zbG,h.size,h.ground,h.round,m1,m2,e1,e2,eg,z1,z2,ec,l1,l2,l3,oD]
end
end S2
namespace S2
open PySem
open L2 hiding D
def zit(ts:Z2):Option Int->List Int | none=>(List.range ts.length).map fun (i:Nat)=>(i:Int) | some x=>[x]
theorem zov{ts:Z2}{o:Option Int}(ho:∀x,o=some x->0<=x/\x<ts.length):∀x∈zit ts o,0<=x/\x<ts.length:=by
 intro x hx
 cases o with
 | none =>
  obtain ⟨i,hi,rfl⟩:=List.mem_map.mp hx;have:=List.mem_range.mp hi;omega
 | some y=>rw [List.mem_singleton.mp hx];exact ho y rfl
section
variable{S:Sto}{n:Nat}{ts:Z2}{gr:Z4}{r c:Nat}{b:Bool}{ds:List (D×D)}
theorem zeJ{k:Nat}{o:Option Int}(h:WAt S n ts gr r c b ds)(ht:ts.length<=100)(hk:gr[k]?=some o)(ho:∀x,o=some x->0<=x/\x<ts.length):zaK [.ref n,.int k] S=.ok (.lst ((zit ts o).map D.int)) S:=by
 have e1:atI (gr.map oD) (k:Int)=some (oD o):=by rw [zbX,List.getElem?_map,hk];rfl
 have e2:=zcw (ts:=ts.map zao) (o:=o) (S:=S) (fun x hx=>by simpa using ho x hx)
 cases o with
 | none =>
  have e3:lrD (.int (ts.length:Int))=some (.lst (((List.range ts.length).map fun (i:Nat)=>(i:Int)).map D.int)):=by
   show (if decide (0<=(ts.length:Int)/\(ts.length:Int)<=1000)=true then _ else none)=_;rw [if_pos (decide_eq_true ⟨by omega,by omega⟩),Int.toNat_natCast,List.map_map];rfl
  simp [zaK,zar,za8,h.ground,h.tiles,e1,oD,e3,zit]
 | some x =>
  simp only [oD] at e2;simp [zaK,zar,za8,h.ground,h.tiles,e1,oD,e2,zit]
theorem zlS{k:Nat}{s:Z4}{x:Int}(h:WAt S n ts gr r c b ds)(hc:1<=c)(hs:s.length=c+2):zcR [.ref n,.int k,zaw s,tl ts x] S=.ok (.bl (zjp ts c b k s x)) S:=by
 have e1:=zei (k:=k) h hc;have e2:=zc1 (k:=k) (s:=s) (x:=x) h hc hs;have m1:=h.meth "ends_row" (by decide +kernel);have m2:=h.meth "colour_round" (by decide +kernel);have m3:=h.meth "fits_round" (by decide +kernel);have tlE:tl ts x=.tup [.int (zbp ts x 0),.int (zbp ts x 1),.int (zbp ts x 2),.int (zbp ts x 3)]:=rfl
 have e3:zaS [.ref n,.int k,zaw s,tl ts x] S=.ok (.bl (!b||!decide ((k+1) % c=0)||decide (some (zbp ts x 1)=crO ts c k s x))) S:=by
  have eq:∀o:Option Int,eqD (.int (zbp ts x 1)) (oD o)=some (.bl (decide (some (zbp ts x 1)=o))):=by
   intro o
   cases o with
   | none=>rfl
   | some y=>simp [oD]
  rw [tlE] at e2 ⊢;generalize zaw s=sd at e2 ⊢;generalize crO ts c k s x=cr at e2 ⊢
  cases b with
  | false=>simp [zaS,zar,zbe,h.round]
  | true=>by_cases z:(k+1) % c=0<;>simp [zaS,zar,zbe,h.round,m1,m2,e1,e2,z,eq]
 have g0:(s.map oD)[0]?=some (oD (s.getD 0 none)):=by
  rw [List.getElem?_map,List.getD_eq_getElem?_getD,List.getElem?_eq_getElem (by omega)];rfl
 have g1:(s.map oD)[1]?=some (oD (s.getD 1 none)):=by
  rw [List.getElem?_map,List.getD_eq_getElem?_getD,List.getElem?_eq_getElem (by omega)];rfl
 have s0:=zgE (S:=S) (o:=s.getD 0 none) (y:=zbp ts x 3);have s1:=zgE (S:=S) (o:=s.getD 1 none) (y:=zbp ts x 0);unfold zjp;generalize (!b||!decide ((k+1) % c=0)||decide (some (zbp ts x 1)=crO ts c k s x))=rr at e3 ⊢;unfold zaw at e3 ⊢;generalize s.map oD=sd at e3 g0 g1 ⊢;generalize s.getD 0 none=q0 at g0 s0 ⊢;generalize s.getD 1 none=q1 at g1 s1 ⊢;rw [tlE] at e3 ⊢
 cases h0:okO q0 (zbp ts x 3)<;>cases h1:okO q1 (zbp ts x 0)<;>rw [h0] at s0<;>rw [h1] at s1 <;>
  simp [zcR,zar,zdG,g0,g1,s0,s1,m3,e3]
def chD(p:Int×List (Option Int)):D:=.tup [.int p.1,zaw p.2]
def chs(ts:Z2)(gr:Z4)(c:Nat)(b:Bool)(k:Nat)(s:Z4):List (Int×List (Option Int)) :=
 ((zit ts (gr.getD k none)).filter (zjp ts c b k s)).map fun x=>(x,zhn ts gr.length c b k s x)
def chG(ts:Z2)(L c:Nat)(b:Bool)(k:Nat)(s:Z4):D->List D
 | .int x=>if zjp ts c b k s x then [chD (x,zhn ts L c b k s x)] else []
 | _=>[]
theorem zgk{L:Nat}{k:Nat}{s:Z4}:∀l:List Int,(l.map D.int).flatMap (chG ts L c b k s)=((l.filter (zjp ts c b k s)).map fun x=>(x,zhn ts L c b k s x)).map chD
 | []=>rfl
 | x::l=>by
  rw [List.map_cons,List.flatMap_cons,zgk l,List.filter_cons];show (if zjp ts c b k s x then [chD (x,zhn ts L c b k s x)] else [])++_=_
  cases zjp ts c b k s x<;>simp
theorem zeN{k:Nat}{s:Z4}(h:WAt S n ts gr r c b ds)(ht:TOk ts)(hk:k<gr.length)(hg:∀o∈gr,∀x,o=some x->0<=x/\x<ts.length)(hc:1<=c)(hc2:c<=100)(hs:s.length=c+2) :
  zbl [.ref n,.int k,zaw s] S=.ok (.lst ((chs ts gr c b k s).map chD)) S:=by
 have hk':gr[k]?=some (gr.getD k none):=by rw [List.getD_eq_getElem?_getD,List.getElem?_eq_getElem hk];rfl
 have ho:=hg _ (List.mem_of_getElem? hk');have e1:=zeJ h ht.le hk' ho;have m1:=h.meth "numbers_for" (by decide +kernel);have m2:=h.meth "fits" (by decide +kernel);have m3:=h.meth "seam_behind" (by decide +kernel);have hin:=zov ho
 have hlen:(zit ts (gr.getD k none)).length<=100:=by
  cases gr.getD k none with
  | none=>simp only [zit,List.length_map,List.length_range];exact ht.le
  | some x=>simp [zit]
 unfold chs;generalize zit ts (gr.getD k none)=nums at e1 hin hlen ⊢
 have fl:((nums.map D.int).flatMap (chG ts gr.length c b k s)).length<=100:=by
  rw [zgk,List.length_map,List.length_map];exact Nat.le_trans (List.length_filter_le _ _) hlen
 obtain ⟨x',e⟩:=zex (tg:=.one 4) (body:=za4) (S:=S) (fun L (x:Option (Bool×D)×Option (Bool×D))=>[some (false,.ref n),some (false,.int k),some (false,zaw s),some (true,.lst L),x.1,x.2]) (chG ts gr.length c b k s) 50000 (ds:=nums.map D.int) (by
  intro d hd L x hL;obtain ⟨y,hy,rfl⟩:=List.mem_map.mp hd;obtain ⟨y0,y1⟩:=hin y hy;have et:=zgv ht y0 y1;have et':atI (ts.map zao) y=some (tl ts y):=et;have ef:=zlS (k:=k) (s:=s) (x:=y) h hc hs;have eb:=zeI (k:=k) (s:=s) (x:=y) h hc hc2 hs
  have hLs:L.length<=100000:=by omega
  refine ⟨_,(some (false,.int y),some (false,tl ts y)),rfl,?_⟩;show za4 [some (false,.ref n),some (false,.int k),some (false,zaw s),some (true,.lst L),some (false,.int y),x.2] S=.nx [some (false,.ref n),some (false,.int k),some (false,zaw s),some (true,.lst (L++(if zjp ts c b k s y then [chD (y,zhn ts gr.length c b k s y)] else []))),some (false,.int y),some (false,tl ts y)] S
  cases hf:zjp ts c b k s y with
  | true =>
   rw [hf] at ef;simp [za4,h.tiles,et',m2,ef,m3,eb,chD,hLs]
  | false =>
   rw [hf] at ef
   simp [za4,h.tiles,et',m2,ef]) [] (none,none) (by simp only [List.length_nil];omega)
 rw [zgk] at e;simp only [List.nil_append] at e;generalize ((nums.filter (zjp ts c b k s)).map fun x=>(x,zhn ts gr.length c b k s x)).map chD=res at e ⊢;simp [zbl,zar,zcC,m1,e1,e]
end
end S2
namespace S2
open PySem
open L2 hiding D
def ziB(c x:Str)(i:Nat)(ρ:Env)(r:D):Out D->Fo
 | .bad=>.bad
 | .exc c S2=>.ex c ρ S2
 | .ok d S2=>(match ziA ρ i,zfJ c x d S2 with
   | some k,some (n,ob,ds)=>if (zaN k ds).isNone&&decide (ds.length<=1000000)&&zen ob then .nx ρ (S2.set n (ob.put x true (.dic (ds++[(nkD k,r)])))) else .bad
   | _,_=>.bad)
def zoD(c x:Str)(f:Fe)(i:Nat)(ρ:Env):Out D->Fo
 | .bad=>.bad
 | .exc c S2=>.ex c ρ S2
 | .ok r S1=>ziB c x i ρ r (f ρ S1)
@[simp] theorem zsn{c x:Str}{f g:Fe}{i:Nat}{ρ:Env}{S:Sto}:zhq c x f i g ρ S=zoD c x f i ρ (g ρ S):=by
 unfold zhq zoD
 cases g ρ S with
 | ok r S1=>dsimp only;unfold ziB;cases f ρ S1<;>rfl
 | exc c S=>rfl
 | bad=>rfl
@[simp] theorem zvg{c x:Str}{f:Fe}{i:Nat}{ρ:Env}{S:Sto}{r:D}:zoD c x f i ρ (.ok r S)=ziB c x i ρ r (f ρ S):=(rfl)
theorem zkN{c x:Str}{i n:Nat}{ρ:Env}{S:Sto}{r d:D}{k:NK}{ob:Ob}{ds:List (D×D)}(hk:ziA ρ i=some k)(hd:zfJ c x d S=some (n,ob,ds))(h1:zaN k ds=none)(h2:ds.length<=1000000)(h3:zen ob=true):ziB c x i ρ r (.ok d S)=.nx ρ (S.set n (ob.put x true (.dic (ds++[(nkD k,r)])))):=by
 show (match ziA ρ i,zfJ c x d S with | some k,some (n,ob,ds)=>_ | _,_=>_)=_;rw [hk,hd];show (if _ then _ else _)=_;rw [if_pos];rw [h1,h3,decide_eq_true h2];rfl
def ways(ts:Z2)(gr:Z4)(c:Nat)(b:Bool):Nat->Nat->List (Option Int)->Nat
 | 0,_,_=>1
 | m+1,k,s=>((chs ts gr c b k s).map fun p=>ways ts gr c b m (k+1) p.2).sum
def zaz(q:Nat):Nat->Nat
 | 0=>0
 | m+1=>1+q*zaz q m
theorem zck{k:NK}{q d:D}:∀ds:List (D×D),zaN k (ds++[(q,d)])=(zaN k ds).or (if ziw q=some k then some d else none)
 | []=>by show (if _ then _ else _)=_;simp [zaN]
 | (q',d')::ds=>by
  show (if ziw q'=some k then some d' else zaN k (ds++[(q,d)]))=_;rw [zck ds];show _=(if ziw q'=some k then some d' else zaN k ds).or _
  split<;>simp
def zsi(ts:Z2)(gr:Z4)(c:Nat)(b:Bool)(ds:List (D×D)):Prop:=∀(k:Nat) s d,zaN ((k:Int),s) ds=some d->d=.int (ways ts gr c b (gr.length-k) k s)
theorem zcO{S:Sto}{n:Nat}{ob:Ob}(h:S[n]?=some ob):S.set n ob=S:=by
 obtain ⟨hn,e⟩:=List.getElem?_eq_some_iff.mp h;apply List.ext_getElem?;intro i
 by_cases z:n=i
 ·subst z;rw [List.getElem?_set_self hn,h]
 ·rw [List.getElem?_set_ne z]
theorem zef{ts:Z2}{gr:Z4}{c:Nat}{b:Bool}{k:Nat}{s:Z4}(h1:1<=ts.length):(chs ts gr c b k s).length<=ts.length:=by
 unfold chs;rw [List.length_map];refine Nat.le_trans (List.length_filter_le _ _) ?_
 cases gr.getD k none with
 | none=>simp [zit]
 | some x=>simpa [zit] using h1
theorem zlr{ts:Z2}{L c:Nat}{b:Bool}{k:Nat}{s:Z4}{x:Int}(hc:1<=c)(hs:s.length=c+2):(zhn ts L c b k s x).length=c+2:=by
 unfold zhn;rw [List.length_cons,List.length_append,List.length_dropLast,List.length_drop,hs];simp only [List.length_cons,List.length_nil];omega
theorem zgj{ts:Z2}{gr:Z4}{c:Nat}{b:Bool}{k:Nat}{s:Z4}(hc:1<=c)(hs:s.length=c+2):∀p∈chs ts gr c b k s,p.2.length=c+2:=by
 intro p hp;obtain ⟨x,_,rfl⟩:=List.mem_map.mp hp;exact zlr hc hs
theorem zjD{α:Type}{f:α->Nat}{m:Nat}:∀{l:List α},(∀x∈l,f x<=m)->(l.map f).sum<=l.length*m
 | [],_=>by simp
 | x::l,h=>by
  have h1:=h x List.mem_cons_self;have h2:=zjD (l:=l) fun y hy=>h y (List.mem_cons_of_mem _ hy)
  rw [List.map_cons,List.sum_cons,List.length_cons,Nat.add_mul];omega
theorem zjF{ts:Z2}{gr:Z4}{c:Nat}{b:Bool}(h1:1<=ts.length):∀m k s,ways ts gr c b m k s<=ts.length ^ m
 | 0,_,_=>by simp [ways]
 | m+1,k,s=>by
  unfold ways;refine Nat.le_trans (zjD fun p _=>zjF h1 m (k+1) p.2) ?_;rw [Nat.pow_succ,Nat.mul_comm];exact Nat.mul_le_mul_left _ (zef h1)
structure CfOk(n:Nat)(ts:Z2)(gr:Z4)(r c:Nat)(b:Bool)(m:Nat)(rc:List D->Sto->Out D):Prop where
 run:∀(S:Sto) (ds:List (D×D)) (k:Nat) (s:Z4),WAt S n ts gr r c b ds->zsi ts gr c b ds->k+m=gr.length->s.length=c+2->ds.length+zaz ts.length m<=1000000 →
  ∃ds',rc [.ref n,.int k,zaw s] S=.ok (.int (ways ts gr c b m k s)) (S.set n (wOb (.tup (ts.map zao)) (.lst (gr.map oD)) (.tup [.int r,.int c]) b ds'))/\zsi ts gr c b ds'/\ds'.length<=ds.length+zaz ts.length m/\∀k' s',k'<k->zaN (((k':Nat):Int),s') ds'=zaN (((k':Nat):Int),s') ds
section
variable{n:Nat}{ts:Z2}{gr:Z4}{r c:Nat}{b:Bool}
theorem ziR{m k:Nat}{rc:List D->Sto->Out D}(C:CfOk n ts gr r c b m rc)(hk:k+1+m=gr.length):∀(l:List (Int×List (Option Int))) (S:Sto) (ds:List (D×D)),(∀p∈l,p.2.length=c+2)->WAt S n ts gr r c b ds->zsi ts gr c b ds->ds.length+l.length*zaz ts.length m<=1000000 →
  ∃ds',zb4 (.one 0) zfk (zbj "Ways" "count_from" rc (zad 1) [(zal zer (zax 2) (zak (.int 1))),(zal ixD (zax 0) (zak (.int 1)))]) [none,some (false,.ref n),some (false,.int k)] (l.map chD) S
   = .ok (l.map fun p=>.int (ways ts gr c b m (k+1) p.2)) (S.set n (wOb (.tup (ts.map zao)) (.lst (gr.map oD)) (.tup [.int r,.int c]) b ds'))/\zsi ts gr c b ds'/\ds'.length<=ds.length+l.length*zaz ts.length m/\∀k' s',k'<k+1->zaN (((k':Nat):Int),s') ds'=zaN (((k':Nat):Int),s') ds
 | [],S,ds,_,W,M,_=>⟨ds,by rw [zcO W.at_];rfl,M,by simp,fun _ _ _=>rfl⟩
 | p::l,S,ds,hl,W,M,hz=>by
  rw [List.length_cons,Nat.add_mul] at hz;obtain ⟨ds1,e1,M1,z1,u1⟩:=C.run S ds (k+1) p.2 W M hk (hl p List.mem_cons_self) (by omega);obtain ⟨ds2,e2,M2,z2,u2⟩:=ziR C hk l _ ds1 (fun q hq=>hl q (List.mem_cons_of_mem _ hq)) (W.put ds1) M1 (by omega);refine ⟨ds2,?_,M2,by rw [List.length_cons,Nat.add_mul];omega,fun k' s' hk'=>(u2 k' s' hk').trans (u1 k' s' hk')⟩;rw [List.set_set] at e2;have mo:=W.meth "count_from" (by decide +kernel);have e1':rc [.ref n,.int ((k:Int)+1),zaw p.2] S=_:=e1;unfold zb4;rw [List.map_cons];dsimp only;generalize hob:wOb (.tup (ts.map zao)) (.lst (gr.map oD)) (.tup [.int r,.int c]) b ds1=ob1 at *;simp [chD,mo,e1',e2]
theorem zo4{f:Nat}:CfOk n ts gr r c b 0 (zlV 4 false zag (f+1)) where
 run:=fun S ds k s W M hk hs hz=>by
  refine ⟨ds,?_,M,Nat.le_add_right _ _,fun _ _ _=>rfl⟩;rw [zcO W.at_]
  have hk':k=gr.length:=by omega
  subst hk';show zbv 4 false (zag _) _ _=_;simp [zar,zag,W.ground,ways]
theorem zo5{m f:Nat}(C:CfOk n ts gr r c b m (zlV 4 false zag f))(ht:TOk ts)(h1:1<=ts.length)(hg:∀o∈gr,∀x,o=some x->0<=x/\x<ts.length)(hc:1<=c)(hc2:c<=100)(hp:ts.length ^ m<=1000000):CfOk n ts gr r c b (m+1) (zlV 4 false zag (f+1)) where
 run:=fun S ds k s W M hk hs hz=>by
  have hkl:k<gr.length:=by omega
  have hne:decide ((k:Int)=(gr.length:Int))=false:=decide_eq_false (by omega);have ek:=zif (k:=(k:Int)) (s:=s);show ∃ds',zbv 4 false (zag _) _ _=_/\_;generalize zlV 4 false zag f=rc at C
  cases hd:zaN ((k:Int),s) ds with
  | some d =>
   have hd':=M k s d hd;rw [show gr.length-k=m+1 by omega] at hd';subst hd';refine ⟨ds,?_,M,Nat.le_add_right _ _,fun _ _ _=>rfl⟩;rw [zcO W.at_];generalize zaw s=sd at ek;generalize ways ts gr c b (m+1) k s=cc at hd;simp [zar,zag,W.ground,W.known,hne,ek,hd,ziA]
  | none =>
   have hcl:=zef (gr:=gr) (c:=c) (b:=b) (k:=k) (s:=s) h1;have hmul:(chs ts gr c b k s).length*zaz ts.length m<=ts.length*zaz ts.length m:=Nat.mul_le_mul_right _ hcl;have hz':ds.length+(1+ts.length*zaz ts.length m)<=1000000:=hz;have ech:=zeN (k:=k) (s:=s) W ht hkl hg hc hc2 hs;obtain ⟨ds1,e1,M1,z1,u1⟩:=ziR C (k:=k) (by omega) (chs ts gr c b k s) S ds (zgj hc hs) W M (by omega);have hd1:zaN ((k:Int),s) ds1=none:=(u1 k s (Nat.lt_succ_self k)).trans hd
   have hsum:zlJ [.lst ((chs ts gr c b k s).map fun p=>D.int (ways ts gr c b m (k+1) p.2:Nat))]=some (.int (ways ts gr c b (m+1) k s:Nat)):=by
    have ei:∀l:List (Int×List (Option Int)),zbL (l.map fun p=>D.int (ways ts gr c b m (k+1) p.2:Nat))=some (l.map fun p=>((ways ts gr c b m (k+1) p.2:Nat):Int)):=by
     intro l
     induction l with
     | nil=>rfl
     | cons p l ih=>rw [List.map_cons,List.map_cons];simp [zbL,ih]
    have es:∀l:List (Int×List (Option Int)),(l.map fun p=>((ways ts gr c b m (k+1) p.2:Nat):Int)).sum=(((l.map fun p=>ways ts gr c b m (k+1) p.2).sum:Nat):Int):=by
     intro l
     induction l with
     | nil=>rfl
     | cons p l ih=>rw [List.map_cons,List.map_cons,List.sum_cons,List.sum_cons,ih,Int.natCast_add]
    show (zbL _).bind _=_;rw [ei];show (if _ then some (D.int _) else none)=_;rw [if_pos,es]
    ·rfl
    ·rw [Bool.and_eq_true];refine ⟨decide_eq_true (by rw [List.length_map];exact Nat.le_trans hcl (Nat.le_trans ht.le (by decide))),?_⟩;rw [List.all_eq_true];intro x hx;obtain ⟨p,_,rfl⟩:=List.mem_map.mp hx;have:=zjF (gr:=gr) (c:=c) (b:=b) h1 m (k+1) p.2;exact decide_eq_true (by omega)
   have W1:=W.put ds1;have mo:=W.meth "choices" (by decide +kernel);have hlen:(chs ts gr c b k s).length<=100000:=Nat.le_trans hcl (Nat.le_trans ht.le (by decide))
   have hnd:zen (wOb (.tup (ts.map zao)) (.lst (gr.map oD)) (.tup [.int r,.int c]) b ds1)=true:=by
    unfold zen;show decide ((["tiles","ground","size","is_round","known"]:List Str).Nodup)=true;decide +kernel
   have hput:(wOb (.tup (ts.map zao)) (.lst (gr.map oD)) (.tup [.int r,.int c]) b ds1).put "known" true (.dic (ds1++[(nkD ((k:Int),s),.int (ways ts gr c b (m+1) k s:Nat))]))=wOb (.tup (ts.map zao)) (.lst (gr.map oD)) (.tup [.int r,.int c]) b (ds1++[(nkD ((k:Int),s),.int (ways ts gr c b (m+1) k s:Nat))]):=by rfl
   refine ⟨ds1++[(nkD ((k:Int),s),.int (ways ts gr c b (m+1) k s:Nat))],?_,?_,?_,?_⟩
   ·have W2:=W.put (ds1++[(nkD ((k:Int),s),.int (ways ts gr c b (m+1) k s:Nat))])
    have hl2:zaN ((k:Int),s) (ds1++[(nkD ((k:Int),s),.int (ways ts gr c b (m+1) k s:Nat))])=some (.int (ways ts gr c b (m+1) k s:Nat)):=by
     rw [zck,hd1,zcp,if_pos rfl];rfl
    generalize hres:(chs ts gr c b k s).map (fun p=>D.int (ways ts gr c b m (k+1) p.2:Nat))=res at e1 hsum
    have hrl:res.length<=100000:=by rw [<-hres,List.length_map];exact hlen
    have hkey:ziA [some (false,D.ref n),some (false,.int k),some (false,zaw s),some (false,.tup [.int k,zaw s])] 3=some ((k:Int),s):=ek;have hpk:=zkN (r:=.int (ways ts gr c b (m+1) k s:Nat)) hkey W1.known hd1 (by omega) hnd;rw [hput,List.set_set] at hpk;have hkn:=W2.known;have hkn0:=W.known;have hgr:=W.ground;generalize wOb (.tup (ts.map zao)) (.lst (gr.map oD)) (.tup [.int r,.int c]) b (ds1++[(nkD ((k:Int),s),.int (ways ts gr c b (m+1) k s:Nat))])=ob2 at hpk hkn ⊢;generalize wOb (.tup (ts.map zao)) (.lst (gr.map oD)) (.tup [.int r,.int c]) b ds1=ob1 at hpk e1;generalize ds1++[(nkD ((k:Int),s),D.int (ways ts gr c b (m+1) k s:Nat))]=ds2 at hkn hl2;generalize ways ts gr c b (m+1) k s=vv at hsum hpk hl2 ⊢;generalize zaw s=sd at ek ech hkey hpk ⊢;generalize (chs ts gr c b k s).map chD=cs at ech e1;simp [zar,zag,hgr,hkn0,hne,ek,hd,mo,ech,e1,hrl,hsum,hpk,hkey,hkn,hl2]
   ·intro k' s' d h';rw [zck] at h'
    cases h2:zaN ((k':Int),s') ds1 with
    | some d'=>rw [h2] at h';cases h';exact M1 k' s' _ h2
    | none =>
     rw [h2,zcp] at h';have h'':(if some ((k:Int),s)=some ((k':Int),s') then some (D.int (ways ts gr c b (m+1) k s:Nat)) else none)=some d:=h';split at h''
     ·rename_i ee;cases h'';have ee':=Option.some.inj ee
      have ek':k=k':=by have z:(k:Int)=(k':Int):=congrArg Prod.fst ee';omega
      have es':s=s':=congrArg Prod.snd ee';subst ek';subst es';rw [show gr.length-k=m+1 by omega]
     ·cases h''
   ·rw [List.length_append,List.length_singleton];show _<=ds.length+(1+ts.length*zaz ts.length m);omega
   ·intro k' s' hk';rw [zck,u1 k' s' (by omega),zcp,if_neg]
    ·cases zaN ((k':Int),s') ds<;>rfl
    ·intro z;have:=congrArg Prod.fst (Option.some.inj z);simp at this;omega
end
end S2
namespace S2
open PySem
open L2 hiding D
def zg0(c x:Str)(ρ:Env)(r:D):Out D->Fo
 | .bad=>.bad
 | .exc c S2=>.ex c ρ S2
 | .ok (.ref n) S2=>(match S2[n]? with
   | some ob=>if decide (ob.cls=c)&&decide (ob.fs.length<1000) then .nx ρ (S2.set n (ob.put x false r)) else .bad
   | none=>.bad)
 | .ok _ _=>.bad
def zoF(c x:Str)(f:Fe)(ρ:Env):Out D->Fo
 | .bad=>.bad
 | .exc c S2=>.ex c ρ S2
 | .ok r S1=>zg0 c x ρ r (f ρ S1)
@[simp] theorem zso{c x:Str}{f g:Fe}{ρ:Env}{S:Sto}:zd2 c x f g ρ S=zoF c x f ρ (g ρ S):=by
 unfold zd2 zoF
 cases g ρ S with
 | ok r S1 =>
  dsimp only;unfold zg0
  cases f ρ S1 with
  | ok d S2=>cases d<;>rfl
  | exc c S=>rfl
  | bad=>rfl
 | exc c S=>rfl
 | bad=>rfl
@[simp] theorem zvq{c x:Str}{f:Fe}{ρ:Env}{S:Sto}{r:D}:zoF c x f ρ (.ok r S)=zg0 c x ρ r (f ρ S):=(rfl)
theorem zkO{c x:Str}{n:Nat}{ρ:Env}{S:Sto}{r:D}{fs:List (Str×Bool×D)}(h:fs.length<1000)(hn:S.length=n):zg0 c x ρ r (.ok (.ref n) (S++[⟨c,fs⟩]))=.nx ρ (S++[⟨c,zam x false r fs⟩]):=by
 subst hn;show (match (S++[(⟨c,fs⟩:Ob)])[S.length]? with | some ob=>_ | none=>_)=_;rw [List.getElem?_append_right (Nat.le_refl _),Nat.sub_self];show (if _ then Fo.nx ρ ((S++[(⟨c,fs⟩:Ob)]).set S.length _) else _)=_;rw [if_pos,List.set_append_right _ _ (Nat.le_refl _),Nat.sub_self]
 ·rfl
 ·rw [Bool.and_eq_true];exact ⟨decide_eq_true rfl,decide_eq_true h⟩
theorem zny{c x:Str}{n i:Nat}{ρ:Env}{S:Sto}{fs:List (Str×Bool×D)}(hi:ρ[i]?=some (some (false,.ref n)))(h:fs.length<1000)(hn:S.length=n):zfW c x i ρ (S++[⟨c,fs⟩])=.nx ρ (S++[⟨c,zam x true (.dic []) fs⟩]):=by
 subst hn;unfold zfW;rw [hi];show (match (S++[(⟨c,fs⟩:Ob)])[S.length]? with | some ob=>_ | none=>_)=_;rw [List.getElem?_append_right (Nat.le_refl _),Nat.sub_self];show (if _ then Fo.nx ρ ((S++[(⟨c,fs⟩:Ob)]).set S.length _) else _)=_;rw [if_pos,List.set_append_right _ _ (Nat.le_refl _),Nat.sub_self]
 ·rfl
 ·rw [Bool.and_eq_true];exact ⟨decide_eq_true rfl,decide_eq_true h⟩
theorem zbD{x:Str}{o:Bool}{d:D}:∀{gs:List (Str×Bool×D)},(zam x o d gs).length<=gs.length+1
 | []=>by simp [zam]
 | (y,z)::gs=>by
  unfold zam;split
  ·simp
  ·have:=zbD (x:=x) (o:=o) (d:=d) (gs:=gs);simp only [List.length_cons];omega
def zac(r c:Nat)(g:Z1):List (Option Int):=(List.range r).flatMap fun i=>(List.range c).map fun j=>g i j
def zwQ(g:Z1):D->D | .tup [.int i,.int j]=>oD (g i.toNat j.toNat) | _=>.non
theorem zd6{r c:Nat}{g:Z1}:(zco r c).map (zwQ g)=(zac r c g).map oD:=by
 unfold zco zac;rw [List.map_flatMap,List.map_flatMap];congr 1;funext i;rw [List.map_map,List.map_map];rfl
theorem zas{r c:Nat}{g:Z1}:(zac r c g).length=r*c:=by
 have:=congrArg List.length (zd6 (r:=r) (c:=c) (g:=g));rw [List.length_map,List.length_map,zdz] at this;exact this.symm
theorem zig{r c:Nat}{g:Z1}{T:D}{b:Bool}{S:Sto}(h1:1<=r)(hr:r<=100)(hc:c<=100) :
  zaT [.ref S.length,T,flr r c g,.bl b] (S++[⟨"Ways",[]⟩])=.ok .non (S++[wOb T (.lst ((zac r c g).map oD)) (.tup [.int r,.int c]) b []]):=by
 have e1:∀S',zaC [flr r c g] S'=.ok (.lst (zco r c)) S':=fun S'=>zbN h1 hr hc
 have e2:∀S',zbz [flr r c g] S'=.ok (.tup [.int r,.int c]) S':=fun S'=>zcQ h1
 have e3:∀S',zb4 (.one 0) zfk (eFn zai [(zad 1),(zad 0)]) [none,some (false,flr r c g)] (zco r c) S'=.ok ((zac r c g).map oD) S':=fun S'=>by
  rw [<-zd6];refine zb0 fun d hd=>?_
  obtain ⟨i,j,hi,hj,rfl⟩:=zcy hd;refine ⟨_,rfl,?_⟩;have:=zbd (g:=g) (S:=S') hi hj;simp [this];rfl
 have hl:((zac r c g).map oD).length<=100000:=by
  rw [List.length_map,zas];exact Nat.le_trans (Nat.mul_le_mul hr hc) (by decide)
 generalize (zac r c g).map oD=gl at e3 hl;generalize flr r c g=fl at *;have l1:=zbD (x:="tiles") (o:=false) (d:=T) (gs:=[]);have l2:=zbD (x:="ground") (o:=false) (d:=.lst gl) (gs:=zam "tiles" false T []);have l3:=zbD (x:="size") (o:=false) (d:=.tup [.int r,.int c]) (gs:=zam "ground" false (.lst gl) (zam "tiles" false T []));have l4:=zbD (x:="is_round") (o:=false) (d:=.bl b) (gs:=zam "size" false (.tup [.int r,.int c]) (zam "ground" false (.lst gl) (zam "tiles" false T [])));have p1:=fun (x:Str) (ρ:Env) (d:D) (fs:List (Str×Bool×D)) (h:fs.length<1000)=>zkO (c:="Ways") (x:=x) (ρ:=ρ) (S:=S) (r:=d) (fs:=fs) h rfl
 have l0:([]:List (Str×Bool×D)).length=0:=rfl;have p2:=zny (c:="Ways") (x:="known") (i:=0) (ρ:=[some (false,.ref S.length),some (false,T),some (false,fl),some (false,.bl b)]) (S:=S) (n:=S.length) (fs:=zam "is_round" false (.bl b) (zam "size" false (.tup [.int r,.int c]) (zam "ground" false (.lst gl) (zam "tiles" false T [])))) rfl (by omega) rfl;have q1:=p1 "tiles" [some (false,.ref S.length),some (false,T),some (false,fl),some (false,.bl b)] T [] (by omega);have q2:=p1 "ground" [some (false,.ref S.length),some (false,T),some (false,fl),some (false,.bl b)] (.lst gl) (zam "tiles" false T []) (by omega);have q3:=p1 "size" [some (false,.ref S.length),some (false,T),some (false,fl),some (false,.bl b)] (.tup [.int r,.int c]) (zam "ground" false (.lst gl) (zam "tiles" false T [])) (by omega);have q4:=p1 "is_round" [some (false,.ref S.length),some (false,T),some (false,fl),some (false,.bl b)] (.bl b) (zam "size" false (.tup [.int r,.int c]) (zam "ground" false (.lst gl) (zam "tiles" false T []))) (by omega);clear l1 l2 l3 l4 l0
 have fin:(⟨"Ways",zam "known" true (.dic []) (zam "is_round" false (.bl b) (zam "size" false (.tup [.int r,.int c]) (zam "ground" false (.lst gl) (zam "tiles" false T []))))⟩:Ob)=wOb T (.lst gl) (.tup [.int r,.int c]) b []:=by rfl
 rw [fin] at p2;generalize zam "is_round" false (.bl b) (zam "size" false (.tup [.int r,.int c]) (zam "ground" false (.lst gl) (zam "tiles" false T [])))=f4 at *;generalize zam "size" false (.tup [.int r,.int c]) (zam "ground" false (.lst gl) (zam "tiles" false T []))=f3 at *;generalize zam "ground" false (.lst gl) (zam "tiles" false T [])=f2 at *;generalize zam "tiles" false T []=f1 at *;generalize wOb T (.lst gl) (.tup [.int r,.int c]) b []=ob at *;simp [zaT,zar,zcj,e1,e2,e3,hl,q1,q2,q3,q4,p2]
theorem zns{n:Nat}{ts:Z2}{gr:Z4}{r c:Nat}{b:Bool}(ht:TOk ts)(h1:1<=ts.length)(hg:∀o∈gr,∀x,o=some x->0<=x/\x<ts.length)(hc:1<=c)(hc2:c<=100):∀m f,m+1<=f->ts.length ^ m<=1000000->CfOk n ts gr r c b m (zlV 4 false zag f)
 | 0,f+1,_,_=>zo4
 | m+1,f+1,hf,hp=>by
  have hp':ts.length ^ m<=1000000:=Nat.le_trans (Nat.pow_le_pow_right h1 (Nat.le_succ m)) hp;exact zo5 (zns ht h1 hg hc hc2 m f (by omega) hp') ht h1 hg hc hc2 hp'
theorem zfZ{n:Nat}{ts:Z2}{gr:Z4}{r c:Nat}{b:Bool}{S:Sto}(W:WAt S n ts gr r c b [])(ht:TOk ts)(h1:1<=ts.length)(hg:∀o∈gr,∀x,o=some x->0<=x/\x<ts.length)(hc:1<=c)(hc2:c<=100)(hm:gr.length<=30)(hp:ts.length ^ gr.length<=1000000)(hq:zaz ts.length gr.length<=1000000) :
  ∃ds',zbo [.ref n] S=.ok (.int (ways ts gr c b gr.length 0 (List.replicate (c+2) none))) (S.set n (wOb (.tup (ts.map zao)) (.lst (gr.map oD)) (.tup [.int r,.int c]) b ds')):=by
 obtain ⟨ds',e,_⟩:=(zns (n:=n) (r:=r) (b:=b) ht h1 hg hc hc2 gr.length 40 (by omega) hp).run S [] 0 (List.replicate (c+2) none) W (fun k s d h=>by cases h) (by omega) (List.length_replicate ..) (by simpa using hq);refine ⟨ds',?_⟩;have e':zbP [.ref n,.int 0,zaw (List.replicate (c+2) none)] S=_:=e;have e2:=zcx W hc2;have m1:=W.meth "count_from" (by decide +kernel);have m2:=W.meth "first_seam" (by decide +kernel);generalize wOb (.tup (ts.map zao)) (.lst (gr.map oD)) (.tup [.int r,.int c]) b ds'=ob at *;simp [zbo,zar,zb1,m1,m2,e2,e']
def zlF(ts:Z2)(r c:Nat)(g:Z1)(b:Bool):Nat:=ways ts (zac r c g) c b (r*c) 0 (List.replicate (c+2) none)
theorem zeL{ts:Z2}{r c:Nat}{g:Z1}{S:Sto}(ht:TOk ts)(h1:1<=ts.length)(hg:InT ts g)(hr1:1<=r)(hr:r<=100)(hc:1<=c)(hc2:c<=100)(hm:r*c<=30)(hp:ts.length ^ (r*c)<=1000000)(hq:zaz ts.length (r*c)<=1000000) :
  ∃S',zat [.tup (ts.map zao),flr r c g] S=.ok (.int (zlF ts r c g false)) S':=by
 have e1:=zig (T:=.tup (ts.map zao)) (b:=false) (S:=S) (g:=g) (c:=c) hr1 hr hc2;have W:WAt (S++[wOb (.tup (ts.map zao)) (.lst ((zac r c g).map oD)) (.tup [.int r,.int c]) false []]) S.length ts (zac r c g) r c false []:=⟨by rw [List.getElem?_append_right (Nat.le_refl _),Nat.sub_self];rfl⟩
 have hgl:∀o∈zac r c g,∀x,o=some x->0<=x/\x<ts.length:=by
  intro o ho x hx;obtain ⟨i,_,ho⟩:=List.mem_flatMap.mp ho;obtain ⟨j,_,rfl⟩:=List.mem_map.mp ho;exact hg i j x hx
 obtain ⟨ds',e2⟩:=zfZ W ht h1 hgl hc hc2 (by rw [zas];exact hm) (by rw [zas];exact hp) (by rw [zas];exact hq);rw [zas] at e2;have m:=W.meth "count_all" (by decide +kernel);obtain ⟨S',hS⟩:∃S',(S++[wOb (.tup (ts.map zao)) (.lst ((zac r c g).map oD)) (.tup [.int r,.int c]) false []]).set S.length (wOb (.tup (ts.map zao)) (.lst ((zac r c g).map oD)) (.tup [.int r,.int c]) false ds')=S':=⟨_,rfl⟩;rw [hS] at e2;clear hS;refine ⟨S',?_⟩;unfold zlF;generalize wOb (.tup (ts.map zao)) (.lst ((zac r c g).map oD)) (.tup [.int r,.int c]) false []=ob at *;simp [zat,zar,zcW,e1,m,e2]
end S2
namespace S2
open PySem
open L2 hiding D
def zcL(ts:Z2):List Int:=(List.range ts.length).map fun (i:Nat)=>(i:Int)
def zdB(ts:Z2)(c:Nat)(o:Option Int)(t:List Int):List (List Int):=((zcL ts).filter fun x=>okO o x&&zlB ts c t x).map fun x=>t++[x]
def zaE(ts:Z2)(gr:Z4)(c:Nat):Nat->List (List Int)
 | 0=>[[]]
 | k+1=>(zaE ts gr c k).flatMap (zdB ts c (gr.getD k none))
structure FillG(ts:Z2)(k:Nat)(F:Z2):Prop where
 mem:∀t∈F,t.length=k/\InR ts t
theorem zda{ts:Z2}{gr:Z4}{c:Nat}:∀k,FillG ts k (zaE ts gr c k)
 | 0=>⟨fun t ht=>by rw [List.mem_singleton.mp ht];exact ⟨rfl,fun x hx=>(List.not_mem_nil hx).elim⟩⟩
 | k+1=>⟨fun t ht=>by
  obtain ⟨u,hu,ht⟩:=List.mem_flatMap.mp ht;obtain ⟨x,hx,rfl⟩:=List.mem_map.mp ht;obtain ⟨h1,h2⟩:=(zda (ts:=ts) (gr:=gr) (c:=c) k).mem u hu;refine ⟨by rw [List.length_append,h1];rfl,fun y hy=>?_⟩
  rcases List.mem_append.mp hy with hy | hy
  ·exact h2 y hy
  ·rw [List.mem_singleton.mp hy];obtain ⟨i,hi,rfl⟩:=List.mem_map.mp (List.mem_filter.mp hx).1;have:=List.mem_range.mp hi
   omega⟩
section
variable{ts:Z2}{c:Nat}{S:Sto}{s1 s3 s4:Option (Bool×D)}{o:Option Int}
end
theorem ztX{r c:Nat}{g:Z1}:(zfj r c g).flatMap zwx=(zac r c g).map oD:=by
 unfold zfj zac;rw [List.flatMap_map,List.map_flatMap];congr 1;funext i;show zgp c (g i)=_;rw [List.map_map];rfl
end S2
namespace S2
open PySem
open L2 hiding D
def znl(ts:Z2)(gr:Z4)(c:Nat):Nat->List Int->Nat
 | 0,_=>1
 | m+1,t=>((zdB ts c (gr.getD t.length none) t).map (znl ts gr c m)).sum
theorem zic{α:Type}{f:α->Nat}{h:α->List α}:∀l:List α,((l.flatMap h).map f).sum=(l.map fun t=>((h t).map f).sum).sum
 | []=>rfl
 | t::l=>by rw [List.flatMap_cons,List.map_append,List.sum_append,zic l,List.map_cons,List.sum_cons]
theorem zg8{ts:Z2}{gr:Z4}{c:Nat}:∀m k,(zaE ts gr c (k+m)).length=((zaE ts gr c k).map (znl ts gr c m)).sum
 | 0,k=>by
  show (zaE ts gr c k).length=_;generalize zaE ts gr c k=F
  induction F with
  | nil=>rfl
  | cons t F ih=>rw [List.length_cons,ih,List.map_cons,List.sum_cons];simp [znl];omega
 | m+1,k=>by
  rw [show k+(m+1)=(k+1)+m by omega,zg8 m (k+1)];show (((zaE ts gr c k).flatMap _).map _).sum=_;rw [zic];congr 1;apply List.map_congr_left;intro t ht;show _=((zdB ts c (gr.getD t.length none) t).map (znl ts gr c m)).sum;rw [((zda k).mem t ht).1]
theorem zk6{ts:Z2}{gr:Z4}{c L:Nat}:(zaE ts gr c L).length=znl ts gr c L []:=by
 have:=zg8 (ts:=ts) (gr:=gr) (c:=c) L 0;rw [Nat.zero_add] at this;rw [this];simp [zaE]
structure SeamOk(ts:Z2)(L c:Nat)(t:List Int)(s:Z4):Prop where
 len:s.length=c+2
 west:s.getD 0 none=if t.length % c=0 then none else some (zbp ts (t.getLastD 0) 1)
 north:∀j,j<c->s.getD (1+j) none=if t.length+j<c\/L<=t.length+j then none else some (zbp ts (t.getD (t.length+j-c) 0) 2)
theorem SeamOk.first{ts:Z2}{L c:Nat}:SeamOk ts L c [] (List.replicate (c+2) none) where
 len:=List.length_replicate ..
 west:=by simp [List.getD_eq_getElem?_getD,List.getElem?_replicate]
 north:=fun j hj=>by
  rw [if_pos (.inl (by simpa using hj))];rw [List.getD_eq_getElem?_getD,List.getElem?_replicate]
  split<;>rfl
theorem SeamOk.next{ts:Z2}{L c:Nat}{t:List Int}{s:Z4}{x:Int}(h:SeamOk ts L c t s)(hc:1<=c):SeamOk ts L c (t++[x]) (zhn ts L c false t.length s x) where
 len:=zlr hc h.len
 west:=by
  rw [List.length_append,List.length_singleton];show (if (t.length+1) % c=0 then none else some (zbp ts x 1))=_;simp [List.getLastD_eq_getLast?]
 north:=fun j hj=>by
  have hm:((s.drop 2).dropLast).length=c-1:=by rw [List.length_dropLast,List.length_drop,h.len];omega
  rw [List.length_append,List.length_singleton];show ((if (t.length+1) % c=0 then none else some (zbp ts x 1))::((s.drop 2).dropLast++[if L<=t.length+c then none else some (zbp ts x 2),if false&&!decide ((t.length+1) % c=0) then crO ts c t.length s x else none])).getD (1+j) none=_;rw [show 1+j=j+1 by omega,List.getD_cons_succ]
  by_cases hl:j<c-1
  ·rw [List.getD_eq_getElem?_getD,List.getElem?_append_left (by rw [hm];exact hl),List.getElem?_dropLast,if_pos (by rw [List.length_drop,h.len];omega),List.getElem?_drop,<-List.getD_eq_getElem?_getD];have hn:=h.north (j+1) (by omega);rw [show 2+j=1+(j+1) by omega,hn];rw [show t.length+1+j=t.length+(j+1) by omega]
   by_cases z:t.length+(j+1)<c\/L<=t.length+(j+1)
   ·rw [if_pos z,if_pos z]
   ·rw [if_neg z,if_neg z,ziF,if_pos (by omega)]
  ·have hj':j=c-1:=by omega
   subst hj';rw [List.getD_eq_getElem?_getD,List.getElem?_append_right (by rw [hm];exact Nat.le_refl _),hm,Nat.sub_self];show (if L<=t.length+c then none else some (zbp ts x 2))=_
   have e:(t++[x]).getD (t.length+1+(c-1)-c) 0=x:=by
    rw [ziF,show t.length+1+(c-1)-c=t.length by omega,if_neg (Nat.lt_irrefl _),if_pos rfl]
   rw [e,show t.length+1+(c-1)=t.length+c by omega]
   have:¬ t.length+c<c:=by omega
   simp [this]
theorem ziK{ts:Z2}{L c:Nat}{t:List Int}{s:Z4}{x:Int}(h:SeamOk ts L c t s)(hc:1<=c)(hL:t.length<L):zjp ts c false t.length s x=zlB ts c t x:=by
 unfold zjp zlB;have h1:=h.north 0 (by omega);rw [Nat.add_zero,Nat.add_zero] at h1;rw [h.west,h1]
 have hL':¬ L<=t.length:=by omega
 simp only [Bool.not_false,Bool.true_or,Bool.and_true];rw [Bool.eq_iff_iff,Bool.and_eq_true,decide_eq_true_iff]
 have a:okO (if t.length % c=0 then none else some (zbp ts (t.getLastD 0) 1)) (zbp ts x 3)=true↔(0<t.length % c->zbp ts (t.getLastD 0) 1=zbp ts x 3):=by
  by_cases z:t.length % c=0
  ·rw [if_pos z];simp [okO,z]
  ·rw [if_neg z]
   have z':0<t.length % c:=by omega
   simp [okO,z']
 have b:okO (if t.length<c\/L<=t.length then none else some (zbp ts (t.getD (t.length-c) 0) 2)) (zbp ts x 0)=true↔(c<=t.length->zbp ts (t.getD (t.length-c) 0) 2=zbp ts x 0):=by
  by_cases z:t.length<c
  ·rw [if_pos (.inl z)]
   have z':¬ c<=t.length:=by omega
   simp [okO,z']
  ·have z':c<=t.length:=by omega
   rw [if_neg (by simp only [not_or];exact ⟨z,hL'⟩)];simp [okO,z']
 rw [a,b]
theorem zfx{ts:Z2}{o:Option Int}{p:Int->Bool}(ho:∀x,o=some x->0<=x/\x<ts.length):(zcL ts).filter (fun x=>okO o x&&p x)=(zit ts o).filter p:=by
 cases o with
 | none =>
  show (zcL ts).filter (fun x=>true&&p x)=(zcL ts).filter p;simp
 | some y =>
  obtain ⟨y0,y1⟩:=ho y rfl
  have e:(zcL ts).filter (fun x=>decide (y=x))=[y]:=by
   obtain ⟨n,rfl⟩:=Int.eq_ofNat_of_zero_le y0
   have hn:n<ts.length:=by omega
   unfold zcL;rw [List.filter_map]
   have hf:(List.range ts.length).filter ((fun x=>decide ((n:Int)=x))∘fun (i:Nat)=>(i:Int))=[n]:=by
    have:((fun x=>decide ((n:Int)=x))∘fun (i:Nat)=>(i:Int))=fun i=>decide (i=n):=by
     funext i;simp only [Function.comp];congr 1;exact propext ⟨fun z=>by omega,fun z=>by omega⟩
    rw [this];generalize ts.length=N at hn;clear y1
    induction N with
    | zero=>omega
    | succ N ih =>
     rw [List.range_succ,List.filter_append]
     by_cases z:n<N
     ·rw [ih z]
      have:¬ N=n:=by omega
      simp [this]
     ·have:N=n:=by omega
      subst this
      have h0:(List.range N).filter (fun i=>decide (i=N))=[]:=by
       rw [List.filter_eq_nil_iff];intro i hi;have:=List.mem_range.mp hi;simp;omega
      rw [h0];simp
   rw [hf];rfl
  show (zcL ts).filter (fun x=>decide (y=x)&&p x)=[y].filter p;rw [<-e,List.filter_filter];congr 1;funext x;exact Bool.and_comm _ _
theorem zh2{ts:Z2}{gr:Z4}{c:Nat}(hc:1<=c)(hg:∀o∈gr,∀x,o=some x->0<=x/\x<ts.length):∀m t s,SeamOk ts gr.length c t s->t.length+m=gr.length->ways ts gr c false m t.length s=znl ts gr c m t
 | 0,_,_,_,_=>rfl
 | m+1,t,s,h,hl=>by
  have hk:t.length<gr.length:=by omega
  have ho:∀x,gr.getD t.length none=some x->0<=x/\x<ts.length:=by
   rw [List.getD_eq_getElem?_getD,List.getElem?_eq_getElem hk];exact hg _ (List.getElem_mem hk)
  show ((chs ts gr c false t.length s).map fun p=>ways ts gr c false m (t.length+1) p.2).sum=((zdB ts c (gr.getD t.length none) t).map (znl ts gr c m)).sum;unfold chs zdB;rw [zfx ho,List.map_map,List.map_map]
  have e:(zit ts (gr.getD t.length none)).filter (zjp ts c false t.length s)=(zit ts (gr.getD t.length none)).filter (zlB ts c t):=by
   congr 1;funext x;exact ziK h hc hk
  rw [e];congr 1;apply List.map_congr_left;intro x _;show ways ts gr c false m (t.length+1) (zhn ts gr.length c false t.length s x)=znl ts gr c m (t++[x]);have:=zh2 hc hg m (t++[x]) _ (h.next (x:=x) hc) (by rw [List.length_append,List.length_singleton];omega);rw [List.length_append,List.length_singleton] at this;exact this
theorem zcN{ts:Z2}{r c:Nat}{g:Z1}(hg:InT ts g):∀o∈zac r c g,∀x,o=some x->0<=x/\x<ts.length:=by
 intro o ho x hx;obtain ⟨i,_,ho⟩:=List.mem_flatMap.mp ho;obtain ⟨j,_,rfl⟩:=List.mem_map.mp ho;exact hg i j x hx
theorem ziZ{ts:Z2}{r c:Nat}{g:Z1}(hc:1<=c)(hg:InT ts g):zlF ts r c g false=(zaE ts (zac r c g) c (r*c)).length:=by
 rw [zk6];unfold zlF;exact zh2 hc (zcN hg) (r*c) [] _ (by rw [zas];exact SeamOk.first) (by rw [zas];simp)
end S2
namespace S2
open PySem
open L2 hiding D
end S2
namespace S2
open PySem
open L2 hiding D
end S2
namespace S2
open PySem
open L2 hiding D
@[simp] theorem zwl{x y:Bool}:zr9 (.bl x) (.bl y)=some (.bl (decide (x=y))):=(rfl)
theorem zk4{tg:Tg}{body:Fs}{ds:List D}(Iv:Nat->Env->Sto->Prop)(step:∀k d ρ S,ds[k]?=some d->Iv k ρ S->∃ρ1 ρ2 S2,tg.put ρ d=some ρ1/\body ρ1 S=.nx ρ2 S2/\Iv (k+1) ρ2 S2){ρ:Env}{S:Sto}(h0:Iv 0 ρ S):∃ρ' S',zfi tg body ds ρ S=.nx ρ' S'/\Iv ds.length ρ' S':=by
 have go:∀(n:Nat) (es:List D) (k:Nat) (ρ:Env) (S:Sto),es.length=n->ds.drop k=es->k+n=ds.length->Iv k ρ S->∃ρ' S',zfi tg body es ρ S=.nx ρ' S'/\Iv ds.length ρ' S':=by
  intro n
  induction n with
  | zero =>
   intro es k ρ S hl he hk hi;obtain rfl:es=[]:=List.eq_nil_of_length_eq_zero hl;exact ⟨ρ,S,rfl,by rw [show ds.length=k by omega];exact hi⟩
  | succ n ih =>
   intro es k ρ S hl he hk hi
   cases es with
   | nil=>cases hl
   | cons d es =>
    have hd:ds[k]?=some d:=by
     have:=congrArg (fun l=>l[0]?) he;rw [List.getElem?_drop] at this;simpa using this
    obtain ⟨ρ1,ρ2,S2,e1,e2,hi2⟩:=step k d ρ S hd hi;obtain ⟨ρ',S',e3,e4⟩:=ih es (k+1) ρ2 S2 (by simpa using hl) (by rw [<-List.drop_drop,he];rfl) (by omega) hi2;refine ⟨ρ',S',?_,e4⟩;unfold zfi;rw [e1];dsimp only;rw [e2];exact e3
 exact go ds.length ds 0 ρ S rfl (by simp) (by omega) h0
def zfe(q m:Nat):Prop:=zaz q m+m*(zaz q m+q*zaz q m)<=1000000/\q ^ m<=80000
instance{q m:Nat}:Decidable (zfe q m):=by unfold zfe;exact inferInstance
theorem zsY:∀{q:Nat},q<=5->∀{m:Nat},m<=6->zfe q m:=by
 have h:∀q,q<6->∀m,m<7->zfe q m:=by decide
 intro q hq m hm;exact h q (by omega) m (by omega)
structure FP(ts:Z2)(r c:Nat):Prop where
 ht:TOk ts
 h1:1<=ts.length
 h4:zfe ts.length (r*c)
 r1:1<=r
 c1:1<=c
 rc:r*c<=6
theorem FP.r6{ts:Z2}{r c:Nat}(h:FP ts r c):r<=6:=by
 have:=h.rc;have:=h.c1;exact Nat.le_trans (Nat.le_mul_of_pos_right r h.c1) h.rc
theorem FP.c6{ts:Z2}{r c:Nat}(h:FP ts r c):c<=6:=Nat.le_trans (Nat.le_mul_of_pos_left c h.r1) h.rc
theorem zhx(q:Nat)(m:Nat)(h:zfe q m):zaz q m<=1000000/\q ^ m<=80000:=⟨by have:=h.1;omega,h.2⟩
def zbm(ts:Z2)(r c:Nat)(g:Z1):List (List Int):=zaE ts (zac r c g) c (r*c)
section
variable{ts:Z2}{r c:Nat}{g:Z1}
theorem zdO(P:FP ts r c)(hg:InT ts g)(S:Sto):∃S',zat [.tup (ts.map zao),flr r c g] S=.ok (.int ((zbm ts r c g).length:Nat)) S':=by
 obtain ⟨b1,b2⟩:=zhx ts.length (r*c) P.h4;obtain ⟨S',e⟩:=zeL (S:=S) P.ht P.h1 hg P.r1 (by have:=P.r6;omega) P.c1 (by have:=P.c6;omega) (by have:=P.rc;omega) (by omega) b1;rw [ziZ P.c1 hg] at e;exact ⟨S',e⟩
end
end S2
namespace S2
open PySem
open L2 hiding D
def zbK(r c:Nat):List (Nat×Nat):=(List.range r).flatMap fun i=>(List.range c).map fun j=>(i,j)
theorem zcr{r c:Nat}{g:Z1}:zac r c g=(zbK r c).map fun p=>g p.1 p.2:=by
 unfold zac zbK;rw [List.map_flatMap];congr 1;funext i;rw [List.map_map];rfl
theorem zeS{r c:Nat}{p:Nat×Nat}(h:p∈zbK r c):p.1<r/\p.2<c:=by
 obtain ⟨i,hi,h⟩:=List.mem_flatMap.mp h;obtain ⟨j,hj,rfl⟩:=List.mem_map.mp h;exact ⟨List.mem_range.mp hi,List.mem_range.mp hj⟩
section
variable{ts:Z2}{r c:Nat}{g:Z1}
end
end S2
namespace S2
open PySem
open L2 hiding D
section
variable{ts:Z2}{r c:Nat}{g:Z1}
end
end S2
namespace S2
open PySem
open L2 hiding D
section
variable{n:Nat}{ts:Z2}{gr:Z4}{r c:Nat}{b:Bool}
end
end S2
namespace S2
open PySem
open L2 hiding D
theorem zgL{q:Nat}(h:1<=q):∀{m L:Nat},m<=L->zaz q m<=zaz q L:=by
 intro m L hml
 have step:∀n,zaz q n<=zaz q (n+1):=by
  intro n;show _<=1+q*zaz q n;have:1*zaz q n<=q*zaz q n:=Nat.mul_le_mul_right _ h;omega
 induction L with
 | zero=>rw [show m=0 by omega];exact Nat.le_refl _
 | succ L ih =>
  by_cases e:m=L+1
  ·rw [e];exact Nat.le_refl _
  ·exact Nat.le_trans (ih (by omega)) (step L)
theorem zil{L k:Nat}{d:D}(h:(zaP 0 (L:Int))[k]?=some d):k<L/\d=.int (k:Int):=by
 unfold zaP at h;simp only [Int.sub_zero,Int.toNat_natCast] at h;rw [List.getElem?_map] at h
 by_cases hk:k<L
 ·rw [List.getElem?_range hk] at h;refine ⟨hk,?_⟩;have:=(Option.some.inj h).symm;simpa using this
 ·rw [List.getElem?_eq_none (by simp;omega)] at h;cases h
section
variable{n:Nat}{ts:Z2}{gr:Z4}{r c:Nat}{b:Bool}
end
end S2
namespace S2
open PySem
open L2 hiding D
def xsT(ts:Z2)(c:Nat)(o:Option Int)(t:List Int):List Int:=(zcL ts).filter fun x=>okO o x&&zlB ts c t x
def zi4(ts:Z2)(gr:Z4)(c:Nat):Nat->List Int->List (List Int)
 | 0,_=>[[]]
 | m+1,t=>(xsT ts c (gr.getD t.length none) t).flatMap fun x=>(zi4 ts gr c m (t++[x])).map (x::·)
theorem zea{α β:Type}{f g:α->List β}:∀{l:List α},(∀x∈l,f x=g x)->l.flatMap f=l.flatMap g
 | [],_=>rfl
 | x::l,h=>by rw [List.flatMap_cons,List.flatMap_cons,h x List.mem_cons_self,zea fun y hy=>h y (List.mem_cons_of_mem _ hy)]
section
variable{ts:Z2}{gr:Z4}{c:Nat}
theorem zfG:∀m k,zaE ts gr c (k+m)=(zaE ts gr c k).flatMap fun t=>(zi4 ts gr c m t).map (t++·)
 | 0,k=>by
  show zaE ts gr c k=_;generalize zaE ts gr c k=F
  induction F with
  | nil=>rfl
  | cons t F ih=>rw [List.flatMap_cons,<-ih];simp [zi4]
 | m+1,k=>by
  rw [show k+(m+1)=(k+1)+m by omega,zfG m (k+1)];show ((zaE ts gr c k).flatMap (zdB ts c (gr.getD k none))).flatMap _=_;rw [List.flatMap_assoc];apply zea;intro t ht;have hl:=((zda k).mem t ht).1;show ((((zcL ts).filter fun x=>okO (gr.getD k none) x&&zlB ts c t x).map fun x=>t++[x]).flatMap _)=((xsT ts c (gr.getD t.length none) t).flatMap fun x=>(zi4 ts gr c m (t++[x])).map (x::·)).map (t++·);rw [hl,List.flatMap_map,List.map_flatMap];apply zea;intro x _;rw [List.map_map];apply List.map_congr_left;intro u _;simp
theorem zg9{L:Nat}:zaE ts gr c L=zi4 ts gr c L []:=by
 have:=zfG (ts:=ts) (gr:=gr) (c:=c) L 0;rw [Nat.zero_add] at this;rw [this];simp [zaE]
end
def zaO(c:Nat)(t:List Int):Nat->Nat->Option Int:=fun i j=>some (t.getD (i*c+j) 0)
theorem zoW{t:List Int}{r c i:Nat}(hl:t.length=r*c)(hi:i<r):zjq (t.map D.int) (some ((i:Int)*(c:Int))) (some (((i:Int)+1)*(c:Int)))=zgp c (zaO c t i):=by
 have h1:i*c+c<=r*c:=by
  have:=Nat.mul_le_mul_right c (show i+1<=r by omega);rw [Nat.succ_mul] at this;exact this
 unfold zjq;rw [show (i:Int)*(c:Int)=((i*c:Nat):Int) by rw [Int.natCast_mul],show ((i:Int)+1)*(c:Int)=((i*c+c:Nat):Int) by rw [Int.add_mul,Int.one_mul,Int.natCast_add,Int.natCast_mul],HT.zj5,HT.zj5,List.length_map,hl];rw [Nat.min_eq_left h1,Nat.min_eq_left (show i*c<=r*c by omega),show i*c+c-i*c=c by omega];apply List.ext_getElem?;intro j;rw [List.getElem?_take]
 by_cases hj:j<c
 ·rw [if_pos hj,List.getElem?_drop,zii hj,List.getElem?_map,List.getElem?_eq_getElem (by omega)];simp [oD,zaO,List.getD_eq_getElem?_getD,List.getElem?_eq_getElem (show i*c+j<t.length by omega)]
 ·rw [if_neg hj,List.getElem?_eq_none (by simp [zgp];omega)]
theorem zhu{t:List Int}{r c:Nat}{S:Sto}(hl:t.length=r*c)(hc:c<=100)(hr:r<=100):zdP [.lst (t.map D.int),.tup [.int r,.int c]] S=.ok (flr r c (zaO c t)) S:=by
 have fc:zcs (c:Int)=true:=znk (by omega) (by omega)
 have ec:=zb0 (tg:=.one 0) (elt:=zaW zdK [(eSl (zax 1) (some (zal zfy (zax 0) (zal ixD (zax 2) (zak (.int 1))))) (some (zal zfy (zal zer (zax 0) (zak (.int 1))) (zal ixD (zax 2) (zak (.int 1))))))]) (ρ0:=[none,some (false,.lst (t.map D.int)),some (false,.tup [.int r,.int c])]) (S:=S) (g:=fun d=>match d with | .int i=>zka c (zaO c t i.toNat) | _=>.non) (ds:=zaP 0 (r:Int)) (by
  intro d hd;obtain ⟨k,hk⟩:=List.getElem?_of_mem hd;obtain ⟨hi,rfl⟩:=zil hk;refine ⟨_,rfl,?_⟩;have e:=zoW hl hi;show _=Out.ok (D.tup (zgp c (zaO c t ((k:Int).toNat)))) S;rw [Int.toNat_natCast];generalize zgp c (zaO c t k)=res at *;generalize t.map D.int=td at *
  simp [fc,e])
 have er:(zaP 0 (r:Int)).map (fun d=>match d with | .int i=>zka c (zaO c t i.toNat) | _=>.non)=zfj r c (zaO c t):=by
  unfold zaP zfj;simp only [Int.sub_zero,Int.toNat_natCast,List.map_map];apply List.map_congr_left;intro i _;simp
 rw [er] at ec
 have hl2:(zfj r c (zaO c t)).length<=100000:=by rw [zmz];omega
 have hr2:-1000000<=(r:Int)/\(r:Int)<=1000000:=by omega
 unfold flr;generalize zfj r c (zaO c t)=res at *;generalize t.map D.int=td at *;simp [zdP,zar,ze9,hr2,ec,hl2]
end S2
namespace S2
open PySem
open L2 hiding D
section
variable{n:Nat}{ts:Z2}{gr:Z4}{r c:Nat}{b:Bool}{S:Sto}
end
end S2
namespace S2
open PySem
open L2 hiding D
def mOb(Sz:D)(nw:Nat)(La We:D)(ds:List (D×D)):Ob:=⟨"Mends",[("size",false,Sz),("ways",false,.ref nw),("laid",false,La),("weights",false,We),("known",true,.dic ds)]⟩
structure MAt(S:Sto)(n nw:Nat)(ts:Z2)(gr la:Z4)(we:List Int)(r c:Nat)(ds:List (D×D)):Prop where
 at_:S[n]?=some (mOb (.tup [.int r,.int c]) nw (.lst (la.map oD)) (.lst (we.map D.int)) ds)
 wat:∃dw,WAt S nw ts gr r c false dw
 ne:n≠nw
def zbf(o:Option Int)(w x:Int):Int:=match o with | none=>0 | some y=>if y=x then 0 else w
theorem zeM{o:Option Int}{w x:Int}{S:Sto}:zcI [oD o,.int w,.int x] S=.ok (.int (zbf o w x)) S:=by
 cases o with
 | none=>simp [zcI,zar,zdW,oD,zbf]
 | some y=>by_cases h:y=x<;>simp [zcI,zar,zdW,oD,zbf,h]
section
variable{S:Sto}{n nw:Nat}{ts:Z2}{gr la:Z4}{we:List Int}{r c:Nat}{ds:List (D×D)}
theorem MAt.size(h:MAt S n nw ts gr la we r c ds):zey "Mends" "size" (.ref n) S=some (.tup [.int r,.int c]):=by
 unfold zey;dsimp only;rw [h.at_];rfl
theorem MAt.ways(h:MAt S n nw ts gr la we r c ds):zey "Mends" "ways" (.ref n) S=some (.ref nw):=by
 unfold zey;dsimp only;rw [h.at_];rfl
theorem MAt.laid(h:MAt S n nw ts gr la we r c ds):zey "Mends" "laid" (.ref n) S=some (.lst (la.map oD)):=by
 unfold zey;dsimp only;rw [h.at_];rfl
theorem MAt.weights(h:MAt S n nw ts gr la we r c ds):zey "Mends" "weights" (.ref n) S=some (.lst (we.map D.int)):=by
 unfold zey;dsimp only;rw [h.at_];rfl
theorem MAt.known(h:MAt S n nw ts gr la we r c ds):zfJ "Mends" "known" (.ref n) S=some (n,mOb (.tup [.int r,.int c]) nw (.lst (la.map oD)) (.lst (we.map D.int)) ds,ds):=by
 unfold zfJ;dsimp only;rw [h.at_];rfl
theorem MAt.meth(h:MAt S n nw ts gr la we r c ds)(m:Str)(hm:(m == "size")=false/\(m == "ways")=false/\(m == "laid")=false/\(m == "weights")=false/\(m == "known")=false):zcM "Mends" m (.ref n) S=true:=by
 unfold zcM;dsimp only;rw [h.at_];obtain ⟨h1,h2,h3,h4,h5⟩:=hm;simp [mOb,List.lookup_cons,h1,h2,h3,h4,h5]
theorem MAt.len(h:MAt S n nw ts gr la we r c ds):n<S.length:=(List.getElem?_eq_some_iff.mp h.at_).1
theorem MAt.put(h:MAt S n nw ts gr la we r c ds)(ds':List (D×D)):MAt (S.set n (mOb (.tup [.int r,.int c]) nw (.lst (la.map oD)) (.lst (we.map D.int)) ds')) n nw ts gr la we r c ds':=by
 obtain ⟨dw,w⟩:=h.wat;exact ⟨by rw [List.getElem?_set_self h.len],⟨dw,⟨by rw [List.getElem?_set_ne h.ne];exact w.at_⟩⟩,h.ne⟩
end
abbrev Off:=Int×Int×Int×List (Option Int)
def lbo(os:List Off):Option (Int×Int):=if os.isEmpty then none else some (zfh (os.map (·.1)),((os.filter fun o=>decide (o.1=zfh (os.map (·.1)))).map (·.2.1)).sum)
def lfS(ts:Z2)(gr la:Z4)(we:List Int)(c:Nat):Nat->Nat->List (Option Int)->Option (Int×Int)
 | 0,_,_=>some (0,1)
 | m+1,k,s=>lbo ((chs ts gr c false k s).filterMap fun p=>(lfS ts gr la we c m (k+1) p.2).map fun q=>(zbf (la.getD k none) (we.getD k 0) p.1+q.1,q.2,p.1,p.2))
def lfD:Option (Int×Int)->D | none=>.non | some (a,b)=>.tup [.int a,.int b]
def zem(o:Off):D:=.tup [.int o.1,.int o.2.1,.int o.2.2.1,zaw o.2.2.2]
def zdg(ts:Z2)(gr la:Z4)(we:List Int)(c m k:Nat)(cs:List (Int×List (Option Int))):List Off:=cs.filterMap fun p=>(lfS ts gr la we c m (k+1) p.2).map fun q=>(zbf (la.getD k none) (we.getD k 0) p.1+q.1,q.2,p.1,p.2)
def zff(ts:Z2)(gr la:Z4)(we:List Int)(c:Nat)(ds:List (D×D)):Prop:=∀(k:Nat) s d,zaN ((k:Int),s) ds=some d->d=lfD (lfS ts gr la we c (gr.length-k) k s)
structure LfOk(n nw:Nat)(ts:Z2)(gr la:Z4)(we:List Int)(r c m:Nat)(rc:List D->Sto->Out D):Prop where
 run:∀(S:Sto) (ds:List (D×D)) (k:Nat) (s:Z4),MAt S n nw ts gr la we r c ds->zff ts gr la we c ds->k+m=gr.length->s.length=c+2->ds.length+zaz ts.length m<=1000000 →
  ∃ds',rc [.ref n,.int k,zaw s] S=.ok (lfD (lfS ts gr la we c m k s)) (S.set n (mOb (.tup [.int r,.int c]) nw (.lst (la.map oD)) (.lst (we.map D.int)) ds'))/\zff ts gr la we c ds'/\ds'.length<=ds.length+zaz ts.length m/\∀k' s',k'<k->zaN (((k':Nat):Int),s') ds'=zaN (((k':Nat):Int),s') ds
section
variable{n nw:Nat}{ts:Z2}{gr la:Z4}{we:List Int}{r c:Nat}
theorem zf3{m k:Nat}{rc:List D->Sto->Out D}(C:LfOk n nw ts gr la we r c m rc)(hk:k+1+m=gr.length)(hla:la.length=gr.length)(hwe:we.length=gr.length){s2:Option (Bool×D)}:∀(cs:List (Int×List (Option Int))) (L:List D) (S:Sto) (ds:List (D×D)) (x4 x5 x6 x7:Option (Bool×D)),(∀p∈cs,p.2.length=c+2)->MAt S n nw ts gr la we r c ds->zff ts gr la we c ds->L.length+cs.length<=1000->ds.length+cs.length*zaz ts.length m<=1000000 →
  ∃ds' y4 y5 y6 y7,zfi (.tup [4,5]) (zbq rc) (cs.map chD) [some (false,.ref n),some (false,.int k),s2,some (true,.lst L),x4,x5,x6,x7] S
   = .nx [some (false,.ref n),some (false,.int k),s2,some (true,.lst (L++(zdg ts gr la we c m k cs).map zem)),y4,y5,y6,y7] (S.set n (mOb (.tup [.int r,.int c]) nw (.lst (la.map oD)) (.lst (we.map D.int)) ds'))/\zff ts gr la we c ds'/\ds'.length<=ds.length+cs.length*zaz ts.length m/\∀k' s',k'<k+1->zaN (((k':Nat):Int),s') ds'=zaN (((k':Nat):Int),s') ds
 | [],L,S,ds,x4,x5,x6,x7,_,A,M,_,_=>⟨ds,x4,x5,x6,x7,by rw [zcO A.at_];simp [zfi,zdg],M,by simp,fun _ _ _=>rfl⟩
 | p::cs,L,S,ds,x4,x5,x6,x7,hl,A,M,hL,hz=>by
  rw [List.length_cons,Nat.add_mul] at hz;rw [List.length_cons] at hL;obtain ⟨ds1,e1,M1,z1,u1⟩:=C.run S ds (k+1) p.2 A M hk (hl p List.mem_cons_self) (by omega);have e1':rc [.ref n,.int ((k:Int)+1),zaw p.2] S=_:=e1;have mo:=A.meth "least_from" (by decide +kernel);have A1:=A.put ds1
  have hkg:k<gr.length:=by omega
  have g1:atI (la.map oD) (k:Int)=some (oD (la.getD k none)):=by
   rw [zbX,List.getElem?_map,List.getD_eq_getElem?_getD,List.getElem?_eq_getElem (by omega)];rfl
  have g2:atI (we.map D.int) (k:Int)=some (.int (we.getD k 0)):=by
   rw [zbX,List.getElem?_map,List.getD_eq_getElem?_getD,List.getElem?_eq_getElem (by omega)];rfl
  have hLs:L.length<=100000:=by omega
  cases hf:lfS ts gr la we c m (k+1) p.2 with
  | none =>
   rw [hf] at e1';obtain ⟨ds2,y4,y5,y6,y7,e2,M2,z2,u2⟩:=zf3 C hk hla hwe cs L _ ds1 (some (false,.int p.1)) (some (false,zaw p.2)) (some (false,.non)) x7 (fun q hq=>hl q (List.mem_cons_of_mem _ hq)) A1 M1 (by omega) (by omega) (s2:=s2);refine ⟨ds2,y4,y5,y6,y7,?_,M2,by rw [List.length_cons,Nat.add_mul];omega,fun k' s' hk'=>(u2 k' s' hk').trans (u1 k' s' hk')⟩;rw [List.set_set] at e2
   have eo:zdg ts gr la we c m k (p::cs)=zdg ts gr la we c m k cs:=by unfold zdg;rw [List.filterMap_cons,hf];rfl
   rw [eo];have hnn:lfD none=.non:=rfl;rw [hnn] at e1';have hch:chD p=.tup [.int p.1,zaw p.2]:=rfl;rw [List.map_cons,hch];unfold zfi;generalize mOb (.tup [.int r,.int c]) nw (.lst (la.map oD)) (.lst (we.map D.int)) ds1=ob at *;generalize zaw p.2=sd at *;simp [zbq,mo,e1'];exact e2
  | some q =>
   obtain ⟨qa,qb⟩:=q;rw [hf] at e1';have ec:=zeM (o:=la.getD k none) (w:=we.getD k 0) (x:=p.1) (S:=S.set n (mOb (.tup [.int r,.int c]) nw (.lst (la.map oD)) (.lst (we.map D.int)) ds1));have fl:=A1.laid;have fw:=A1.weights;obtain ⟨ds2,y4,y5,y6,y7,e2,M2,z2,u2⟩:=zf3 C hk hla hwe cs (L++[zem (zbf (la.getD k none) (we.getD k 0) p.1+qa,qb,p.1,p.2)]) _ ds1 (some (false,.int p.1)) (some (false,zaw p.2)) (some (false,.tup [.int qa,.int qb])) (some (false,.int (zbf (la.getD k none) (we.getD k 0) p.1+qa))) (fun q hq=>hl q (List.mem_cons_of_mem _ hq)) A1 M1 (by rw [List.length_append,List.length_singleton];omega) (by omega) (s2:=s2);refine ⟨ds2,y4,y5,y6,y7,?_,M2,by rw [List.length_cons,Nat.add_mul];omega,fun k' s' hk'=>(u2 k' s' hk').trans (u1 k' s' hk')⟩;rw [List.set_set] at e2
   have eo:zdg ts gr la we c m k (p::cs)=(zbf (la.getD k none) (we.getD k 0) p.1+qa,qb,p.1,p.2)::zdg ts gr la we c m k cs:=by unfold zdg;rw [List.filterMap_cons,hf];rfl
   rw [eo,List.map_cons,List.map_cons];rw [List.append_assoc] at e2;have hoff:zem (zbf (la.getD k none) (we.getD k 0) p.1+qa,qb,p.1,p.2)=.tup [.int (zbf (la.getD k none) (we.getD k 0) p.1+qa),.int qb,.int p.1,zaw p.2]:=rfl;rw [hoff] at e2 ⊢;have hnn:lfD (some (qa,qb))=.tup [.int qa,.int qb]:=rfl;rw [hnn] at e1';have hch:chD p=.tup [.int p.1,zaw p.2]:=rfl;rw [hch];unfold zfi;generalize mOb (.tup [.int r,.int c]) nw (.lst (la.map oD)) (.lst (we.map D.int)) ds1=ob at *;generalize zaw p.2=sd at *;generalize oD (la.getD k none)=od at *;generalize we.getD k 0=wk at *;generalize zbf (la.getD k none) wk p.1=ck at *;simp [zbq,mo,e1',fl,fw,g1,g2,ec,hLs];exact e2
end
end S2
namespace S2
open PySem
open L2 hiding D
noncomputable def R3(f:Nat):=zfg 8 5 4 zaG zae zah f
section
variable{n nw:Nat}{ts:Z2}{gr la:Z4}{we:List Int}{r c:Nat}
structure Kept(n nw:Nat)(ts:Z2)(gr la:Z4)(we:List Int)(r c k a:Nat)(S:Sto)(ds:List (D×D))(o:Out D)(d:D)(ds':List (D×D)):Prop where
 eq:o=.ok d (S.set n (mOb (.tup [.int r,.int c]) nw (.lst (la.map oD)) (.lst (we.map D.int)) ds'))
 memo:zff ts gr la we c ds'
 len:ds'.length<=ds.length+a
 old:∀k' s',k'<k->zaN (((k':Nat):Int),s') ds'=zaN (((k':Nat):Int),s') ds
theorem zfq{m k f:Nat}{s:Z4}{S:Sto}{ds:List (D×D)}(C:LfOk n nw ts gr la we r c m (R3 f).2.2)(hk:k+1+m=gr.length)(hla:la.length=gr.length)(hwe:we.length=gr.length)(ht:TOk ts)(h1:1<=ts.length)(hg:∀o∈gr,∀x,o=some x->0<=x/\x<ts.length)(hc:1<=c)(hc2:c<=100)(hs:s.length=c+2)(A:MAt S n nw ts gr la we r c ds)(M:zff ts gr la we c ds)(hz:ds.length+ts.length*zaz ts.length m<=1000000) :
  ∃ds',Kept n nw ts gr la we r c (k+1) (ts.length*zaz ts.length m) S ds ((R3 (f+1)).1 [.ref n,.int k,zaw s] S) (.lst ((zdg ts gr la we c m k (chs ts gr c false k s)).map zem)) ds':=by
 have hcl:=zef (gr:=gr) (c:=c) (b:=false) (k:=k) (s:=s) h1;have hmul:(chs ts gr c false k s).length*zaz ts.length m<=ts.length*zaz ts.length m:=Nat.mul_le_mul_right _ hcl;obtain ⟨dw,W⟩:=A.wat;have ech:=zeN (k:=k) (s:=s) W ht (by omega) hg hc hc2 hs;have hle:=ht.le;obtain ⟨ds',y4,y5,y6,y7,e,M',z',u'⟩:=zf3 (s2:=some (false,zaw s)) C hk hla hwe (chs ts gr c false k s) [] S ds none none none none (zgj hc hs) A M (by simp only [List.length_nil];omega) (by omega);refine ⟨ds',?_,M',by omega,u'⟩;have mo:=W.meth "choices" (by decide +kernel);have fw:=A.ways;show zbv 8 false (zaG (R3 f).1 (R3 f).2.1 (R3 f).2.2) _ _=_;rw [List.nil_append] at e;generalize (zdg ts gr la we c m k (chs ts gr c false k s)).map zem=res at *;generalize (chs ts gr c false k s).map chD=cs at *;generalize mOb (.tup [.int r,.int c]) nw (.lst (la.map oD)) (.lst (we.map D.int)) ds'=ob at *;generalize zaw s=sd at *;generalize (R3 f).2.2=rc at *;simp [zar,zaG,fw,mo,ech,e]
theorem ziy(h1:1<=ts.length):∀m k s a b,lfS ts gr la we c m k s=some (a,b)->0<=b/\b<=((ts.length ^ m:Nat):Int)
 | 0,_,_,a,b,h=>by cases h;simp
 | m+1,k,s,a,b,h=>by
  have h':lbo (zdg ts gr la we c m k (chs ts gr c false k s))=some (a,b):=h
  have hb:∀o∈zdg ts gr la we c m k (chs ts gr c false k s),0<=o.2.1/\o.2.1<=((ts.length ^ m:Nat):Int):=by
   intro o ho;obtain ⟨p,_,hp⟩:=List.mem_filterMap.mp ho
   cases hf:lfS ts gr la we c m (k+1) p.2 with
   | none=>rw [hf] at hp;cases hp
   | some q =>
    rw [hf] at hp;cases hp;exact ziy h1 m (k+1) p.2 q.1 q.2 hf
  have hlen:(zdg ts gr la we c m k (chs ts gr c false k s)).length<=ts.length:=Nat.le_trans (List.length_filterMap_le _ _) (zef h1);unfold lbo at h';split at h'
  ·cases h'
  ·cases h';generalize zdg ts gr la we c m k (chs ts gr c false k s)=os at *;generalize zfh (os.map (·.1))=mn
   have key:∀l:List Off,(∀o∈l,0<=o.2.1/\o.2.1<=((ts.length ^ m:Nat):Int))->0<=(l.map (·.2.1)).sum/\(l.map (·.2.1)).sum<=(l.length:Int)*((ts.length ^ m:Nat):Int):=by
    intro l
    induction l with
    | nil=>intro _;simp
    | cons o l ih =>
     intro hl;obtain ⟨i1,i2⟩:=ih fun x hx=>hl x (List.mem_cons_of_mem _ hx)
     obtain ⟨j1,j2⟩:=hl o List.mem_cons_self;rw [List.map_cons,List.sum_cons,List.length_cons];refine ⟨by omega,?_⟩;rw [Int.natCast_add,Int.add_mul];omega
   obtain ⟨k1,k2⟩:=key (os.filter fun o=>decide (o.1=mn)) fun o ho=>hb o (List.mem_filter.mp ho).1
   refine ⟨k1,Int.le_trans k2 ?_⟩;have hfl:(os.filter fun o=>decide (o.1=mn)).length<=ts.length:=Nat.le_trans (List.length_filter_le _ _) hlen;have:=Nat.mul_le_mul_right (ts.length ^ m) hfl;rw [Nat.pow_succ,Nat.mul_comm (ts.length ^ m)]
   exact_mod_cast this
end
end S2
namespace S2
open PySem
open L2 hiding D
theorem zga{f:Off->Int}:∀l:List Off,zbL (l.map fun o=>D.int (f o))=some (l.map f)
 | []=>rfl
 | o::l=>by rw [List.map_cons,List.map_cons];simp [zbL,zga l]
section
variable{n nw:Nat}{ts:Z2}{gr la:Z4}{we:List Int}{r c:Nat}
def zvT:D->D | .tup (d::_)=>d | _=>.non
def zuP:D->D | .tup (_::d::_)=>d | _=>.non
def isO(mn:Int):D->Bool | .tup (.int a::_)=>decide (a=mn) | _=>false
theorem zn1{k a f:Nat}{os:List Off}{s:Z4}{S:Sto}{ds ds':List (D×D)}(A:MAt S n nw ts gr la we r c ds)(h:Kept n nw ts gr la we r c k a S ds ((R3 f).1 [.ref n,.int ((k-1:Nat):Int),zaw s] S) (.lst (os.map zem)) ds')(hl:os.length<=1000)(hb:∀o∈os,0<=o.2.1/\o.2.1<=1000000) :
  Kept n nw ts gr la we r c k a S ds ((R3 (f+1)).2.1 [.ref n,.int ((k-1:Nat):Int),zaw s] S) (lfD (lbo os)) ds':=by
 refine ⟨?_,h.memo,h.len,h.old⟩;have e:=h.eq;have mo:=A.meth "offers" (by decide +kernel);show zbv 5 false (zae (R3 f).1 (R3 f).2.1 (R3 f).2.2) _ _=_
 cases os with
 | nil =>
  show _=Out.ok D.non _;rw [List.map_nil] at e;generalize mOb (.tup [.int r,.int c]) nw (.lst (la.map oD)) (.lst (we.map D.int)) ds'=ob at *;generalize zaw s=sd at *;generalize (R3 f).1=rc at *;generalize ((k-1:Nat):Int)=kk at *;simp [zar,zae,mo,e]
 | cons o os =>
  have hne:((o::os).map zem).length≠0:=by simp
  have c1:zb4 (.one 0) zfk (zal ixD (zax 0) (zak (.int 0))) [none] ((o::os).map zem) (S.set n (mOb (.tup [.int r,.int c]) nw (.lst (la.map oD)) (.lst (we.map D.int)) ds'))=.ok ((o::os).map fun o=>D.int o.1) (S.set n (mOb (.tup [.int r,.int c]) nw (.lst (la.map oD)) (.lst (we.map D.int)) ds')):=by
   rw [zb0 (g:=zvT) (fun d hd=>by
    obtain ⟨o,_,rfl⟩:=List.mem_map.mp hd
    exact ⟨_,rfl,by simp [zem,zvT]⟩),List.map_map]
   rfl
  have e2:zjd [.lst ((o::os).map fun o=>D.int o.1)]=some (.int (zfh ((o::os).map (·.1)))):=by
   show (zbL _).bind _=_;rw [zga (f:=fun o=>o.1)];rfl
  generalize hmn:zfh ((o::os).map (·.1))=mn at *
  have c2:zb4 (.one 0) (zal eqD (zal ixD (zax 0) (zak (.int 0))) (zax 1)) (zal ixD (zax 0) (zak (.int 1))) [none,some (false,.int mn)] ((o::os).map zem) (S.set n (mOb (.tup [.int r,.int c]) nw (.lst (la.map oD)) (.lst (we.map D.int)) ds'))=.ok (((o::os).filter fun o=>decide (o.1=mn)).map fun o=>D.int o.2.1) (S.set n (mOb (.tup [.int r,.int c]) nw (.lst (la.map oD)) (.lst (we.map D.int)) ds')):=by
   rw [zdd (g:=zuP) (p:=isO mn) (fun d hd=>by
    obtain ⟨o,_,rfl⟩:=List.mem_map.mp hd
    exact ⟨_,rfl,by simp [zem,isO],fun _=>by simp [zem,zuP]⟩),List.filter_map,List.map_map]
   rfl
  have e3:zlJ [.lst (((o::os).filter fun o=>decide (o.1=mn)).map fun o=>D.int o.2.1)]=some (.int (((o::os).filter fun o=>decide (o.1=mn)).map (·.2.1)).sum):=by
   show (zbL _).bind _=_;rw [zga (f:=fun o=>o.2.1)];show (if _ then some (D.int _) else none)=_;rw [if_pos];rw [Bool.and_eq_true];refine ⟨decide_eq_true (by rw [List.length_map];exact Nat.le_trans (List.length_filter_le _ _) hl),?_⟩;rw [List.all_eq_true];intro x hx;obtain ⟨q,hq,rfl⟩:=List.mem_map.mp hx;exact decide_eq_true (hb q (List.mem_filter.mp hq).1)
  have elf:lfD (lbo (o::os))=.tup [.int mn,.int (((o::os).filter fun o=>decide (o.1=mn)).map (·.2.1)).sum]:=by
   subst hmn;rfl
  rw [elf]
  have l1:((o::os).map fun o=>D.int o.1).length<=100000:=by rw [List.length_map];omega
  have l2:(((o::os).filter fun o=>decide (o.1=mn)).map fun o=>D.int o.2.1).length<=100000:=by rw [List.length_map];exact Nat.le_trans (List.length_filter_le _ _) (by omega)
  have hol:(o::os).map zem≠[]:=by simp
  clear elf hb hl h A hmn hne;generalize (((o::os).filter fun o=>decide (o.1=mn)).map (·.2.1)).sum=sm at *;generalize ((o::os).filter fun o=>decide (o.1=mn)).map (fun o=>D.int o.2.1)=fl at *;generalize (o::os).map (fun o=>D.int o.1)=il at *;generalize (o::os).map zem=ol at *;generalize mOb (.tup [.int r,.int c]) nw (.lst (la.map oD)) (.lst (we.map D.int)) ds'=ob at *;generalize zaw s=sd at *;generalize (R3 f).1=rc at *;generalize ((k-1:Nat):Int)=kk at *;simp [zar,zae,mo,e,hol,c1,l1,e2,c2,l2,e3]
end
end S2
namespace S2
open PySem
open L2 hiding D
section
variable{n nw:Nat}{ts:Z2}{gr la:Z4}{we:List Int}{r c:Nat}
theorem zoB{f:Nat}(hla:la.length=gr.length):LfOk n nw ts gr la we r c 0 (R3 (f+1)).2.2 where
 run:=fun S ds k s A M hk hs hz=>by
  refine ⟨ds,?_,M,Nat.le_add_right _ _,fun _ _ _=>rfl⟩;rw [zcO A.at_]
  have hk':k=la.length:=by omega
  subst hk';show zbv 4 false (zah (R3 f).1 (R3 f).2.1 (R3 f).2.2) _ _=_;simp [zar,zah,A.laid,lfS,lfD]
theorem zoC{m f:Nat}(C:LfOk n nw ts gr la we r c m (R3 f).2.2)(hla:la.length=gr.length)(hwe:we.length=gr.length)(ht:TOk ts)(h1:1<=ts.length)(hg:∀o∈gr,∀x,o=some x->0<=x/\x<ts.length)(hc:1<=c)(hc2:c<=100)(hp:ts.length ^ m<=1000000):LfOk n nw ts gr la we r c (m+1) (R3 (f+3)).2.2 where
 run:=fun S ds k s A M hk hs hz=>by
  have hne:decide ((k:Int)=(la.length:Int))=false:=decide_eq_false (by omega);have ek:=zif (k:=(k:Int)) (s:=s);have hz':ds.length+(1+ts.length*zaz ts.length m)<=1000000:=hz;show ∃ds',zbv 4 false (zah (R3 (f+2)).1 (R3 (f+2)).2.1 (R3 (f+2)).2.2) _ _=_/\_
  cases hd:zaN ((k:Int),s) ds with
  | some d =>
   have hd':=M k s d hd;rw [show gr.length-k=m+1 by omega] at hd';subst hd';refine ⟨ds,?_,M,Nat.le_add_right _ _,fun _ _ _=>rfl⟩;rw [zcO A.at_];have hl:=A.laid;have hkn:=A.known;generalize zaw s=sd at ek;generalize lfD (lfS ts gr la we c (m+1) k s)=cc at hd ⊢;simp [zar,zah,hl,hkn,hne,ek,hd,ziA]
  | none =>
   obtain ⟨ds1,K1⟩:=zfq (k:=k) (s:=s) C (by omega) hla hwe ht h1 hg hc hc2 hs A M (by omega);have hlen:(zdg ts gr la we c m k (chs ts gr c false k s)).length<=1000:=Nat.le_trans (List.length_filterMap_le _ _) (Nat.le_trans (zef h1) (Nat.le_trans ht.le (by decide)))
   have hbo:∀o∈zdg ts gr la we c m k (chs ts gr c false k s),0<=o.2.1/\o.2.1<=1000000:=by
    intro o ho;obtain ⟨p,_,hp'⟩:=List.mem_filterMap.mp ho
    cases hf:lfS ts gr la we c m (k+1) p.2 with
    | none=>rw [hf] at hp';cases hp'
    | some q =>
     rw [hf] at hp';cases hp';have:=ziy h1 m (k+1) p.2 q.1 q.2 hf;exact ⟨this.1,Int.le_trans this.2 (Int.ofNat_le.mpr hp)⟩
   have K2:=zn1 (k:=k+1) (s:=s) A K1 hlen hbo;have e1:(R3 (f+2)).2.1 [.ref n,.int (k:Int),zaw s] S=.ok (lfD (lfS ts gr la we c (m+1) k s)) (S.set n (mOb (.tup [.int r,.int c]) nw (.lst (la.map oD)) (.lst (we.map D.int)) ds1)):=K2.eq;have M1:=K2.memo;have z1:=K2.len;have u1:=K2.old;have hd1:zaN ((k:Int),s) ds1=none:=(u1 k s (Nat.lt_succ_self k)).trans hd;have A1:=A.put ds1;have mo:=A.meth "least_by_offers" (by decide +kernel);generalize hv:lfD (lfS ts gr la we c (m+1) k s)=vv at e1 ⊢
   have hnd:zen (mOb (.tup [.int r,.int c]) nw (.lst (la.map oD)) (.lst (we.map D.int)) ds1)=true:=by
    unfold zen;show decide ((["size","ways","laid","weights","known"]:List Str).Nodup)=true;decide +kernel
   have hput:(mOb (.tup [.int r,.int c]) nw (.lst (la.map oD)) (.lst (we.map D.int)) ds1).put "known" true (.dic (ds1++[(nkD ((k:Int),s),vv)]))=mOb (.tup [.int r,.int c]) nw (.lst (la.map oD)) (.lst (we.map D.int)) (ds1++[(nkD ((k:Int),s),vv)]):=by rfl
   refine ⟨ds1++[(nkD ((k:Int),s),vv)],?_,?_,?_,?_⟩
   ·have A2:=A.put (ds1++[(nkD ((k:Int),s),vv)])
    have hl2:zaN ((k:Int),s) (ds1++[(nkD ((k:Int),s),vv)])=some vv:=by
     rw [zck,hd1,zcp,if_pos rfl];rfl
    have hkey:ziA [some (false,D.ref n),some (false,.int k),some (false,zaw s),some (false,.tup [.int k,zaw s])] 3=some ((k:Int),s):=ek;have hpk:=zkN (r:=vv) hkey A1.known hd1 (by omega) hnd;rw [hput,List.set_set] at hpk;have hkn:=A2.known;have hkn0:=A.known;have hgl:=A.laid;generalize mOb (.tup [.int r,.int c]) nw (.lst (la.map oD)) (.lst (we.map D.int)) (ds1++[(nkD ((k:Int),s),vv)])=ob2 at hpk hkn ⊢;generalize mOb (.tup [.int r,.int c]) nw (.lst (la.map oD)) (.lst (we.map D.int)) ds1=ob1 at hpk e1;generalize ds1++[(nkD ((k:Int),s),vv)]=ds2 at hkn hl2;generalize zaw s=sd at ek e1 hkey hpk ⊢;generalize (R3 (f+2)).2.1=rc at e1 ⊢;simp [zar,zah,hgl,hkn0,hne,ek,hd,mo,e1,hpk,hkey,hkn,hl2]
   ·intro k' s' d h';rw [zck] at h'
    cases h2:zaN ((k':Int),s') ds1 with
    | some d'=>rw [h2] at h';cases h';exact M1 k' s' _ h2
    | none =>
     rw [h2,zcp] at h';have h'':(if some ((k:Int),s)=some ((k':Int),s') then some vv else none)=some d:=h';split at h''
     ·rename_i ee;cases h'';have ee':=Option.some.inj ee
      have ek':k=k':=by have z:(k:Int)=(k':Int):=congrArg Prod.fst ee';omega
      have es':s=s':=congrArg Prod.snd ee';subst ek';subst es';rw [show gr.length-k=m+1 by omega,hv]
     ·cases h''
   ·rw [List.length_append,List.length_singleton];show _<=ds.length+(1+ts.length*zaz ts.length m);omega
   ·intro k' s' hk';rw [zck,u1 k' s' (by omega),zcp,if_neg]
    ·cases zaN ((k':Int),s') ds<;>rfl
    ·intro z;have z':(k:Int)=(k':Int):=congrArg Prod.fst (Option.some.inj z);omega
theorem ziz(hla:la.length=gr.length)(hwe:we.length=gr.length)(ht:TOk ts)(h1:1<=ts.length)(hg:∀o∈gr,∀x,o=some x->0<=x/\x<ts.length)(hc:1<=c)(hc2:c<=100):∀m f,ts.length ^ m<=1000000->LfOk n nw ts gr la we r c m (R3 (3*m+1+f)).2.2
 | 0,f,_=>by rw [show 3*0+1+f=f+1 by omega];exact zoB hla
 | m+1,f,hp=>by
  have hp':ts.length ^ m<=1000000:=Nat.le_trans (Nat.pow_le_pow_right h1 (Nat.le_succ m)) hp;rw [show 3*(m+1)+1+f=(3*m+1+f)+3 by omega];exact zoC (ziz hla hwe ht h1 hg hc hc2 m f hp') hla hwe ht h1 hg hc hc2 hp'
end
end S2
namespace S2
open PySem
open L2 hiding D
theorem zmq{c x:Str}{n:Nat}{ρ:Env}{S:Sto}{r:D}{ob:Ob}(h:S[n]?=some ob)(hc:ob.cls=c)(hl:ob.fs.length<1000):zg0 c x ρ r (.ok (.ref n) S)=.nx ρ (S.set n (ob.put x false r)):=by
 show (match S[n]? with | some ob=>_ | none=>_)=_;rw [h];show (if _ then _ else _)=_;rw [if_pos];rw [Bool.and_eq_true];exact ⟨decide_eq_true hc,decide_eq_true hl⟩
theorem zlG{c x:Str}{n i:Nat}{ρ:Env}{S:Sto}{ob:Ob}(hi:ρ[i]?=some (some (false,.ref n)))(h:S[n]?=some ob)(hc:ob.cls=c)(hl:ob.fs.length<1000):zfW c x i ρ S=.nx ρ (S.set n (ob.put x true (.dic []))):=by
 unfold zfW;rw [hi];show (match S[n]? with | some ob=>_ | none=>_)=_;rw [h];show (if _ then _ else _)=_;rw [if_pos];rw [Bool.and_eq_true];exact ⟨decide_eq_true hc,decide_eq_true hl⟩
theorem zjZ{S:Sto}{a b x:Ob}:(S++[a,b]).set S.length x=S++[x,b]:=by
 rw [List.set_append_right _ _ (Nat.le_refl _),Nat.sub_self];rfl
theorem ziE{S:Sto}{a b:Ob}:(S++[a,b])[S.length]?=some a:=by
 rw [List.getElem?_append_right (Nat.le_refl _),Nat.sub_self];rfl
theorem zi7{r c:Nat}{S:Sto}(hr1:1<=r)(hr:r<=100)(hc1:1<=c)(hc:c<=100):zeP [.int r,.int c] S=.ok (flr r c fun _ _=>none) S:=by
 have e1:zfy (.tup [.non]) (.int (c:Int))=some (.tup (zgp c fun _=>none)):=by
  show (if _ then _ else _)=_;rw [if_pos (by simp;omega),Int.toNat_natCast,zn4]
 have e2:zfy (.tup [.tup (zgp c fun _=>none)]) (.int (r:Int))=some (flr r c fun _ _=>none):=by
  show (if _ then _ else _)=_;rw [if_pos (by simp;omega),Int.toNat_natCast,zn5];rfl
 simp [zeP,zar,zhL,e1,e2]
def weL(r c:Nat)(w:Nat->Nat->Int):List Int:=(zbK r c).map fun p=>w p.1 p.2
theorem zgq{r c:Nat}{w:Nat->Nat->Int}:(zac r c fun i j=>some (w i j)).map oD=(weL r c w).map D.int:=by
 rw [zcr];unfold weL;rw [List.map_map,List.map_map];rfl
theorem zfd{r c:Nat}{g:Z1}{S:Sto}:zb4 (.one 0) zfk (eFn zai [(zad 1),(zad 0)]) [none,some (false,flr r c g)] (zco r c) S=.ok ((zac r c g).map oD) S:=by
 rw [<-zd6];refine zb0 fun d hd=>?_
 obtain ⟨i,j,hi,hj,rfl⟩:=zcy hd;refine ⟨_,rfl,?_⟩;have:=zbd (g:=g) (S:=S) hi hj;simp [this];rfl
theorem zgG{r c:Nat}{g:Z1}{w:Nat->Nat->Int}{T:D}{S:Sto}(h1:1<=r)(hr:r<=100)(hc1:1<=c)(hc:c<=100) :
  za3 [.ref S.length,T,flr r c g,flr r c fun i j=>some (w i j)] (S++[⟨"Mends",[]⟩])=.ok .non (S++[mOb (.tup [.int r,.int c]) (S.length+1) (.lst ((zac r c g).map oD)) (.lst ((weL r c w).map D.int)) [],wOb T (.lst ((zac r c fun _ _=>none).map oD)) (.tup [.int r,.int c]) false []]):=by
 have e1:∀S',zaC [flr r c g] S'=.ok (.lst (zco r c)) S':=fun S'=>zbN h1 hr hc
 have e2:∀S',zbz [flr r c g] S'=.ok (.tup [.int r,.int c]) S':=fun S'=>zcQ h1
 have e3:∀S',zeP [.int r,.int c] S'=.ok (flr r c fun _ _=>none) S':=fun S'=>zi7 h1 hr hc1 hc
 have e4:=fun S'=>zfd (r:=r) (c:=c) (g:=g) (S:=S')
 have e5:=fun S'=>zfd (r:=r) (c:=c) (g:=fun i j=>some (w i j)) (S:=S')
 have wg:=zgq (r:=r) (c:=c) (w:=w);rw [wg] at e5
 have l1:((zac r c g).map oD).length<=100000:=by
  rw [List.length_map,zas];exact Nat.le_trans (Nat.mul_le_mul hr hc) (by decide)
 have l2:((weL r c w).map D.int).length<=100000:=by
  rw [<-wg,List.length_map,zas];exact Nat.le_trans (Nat.mul_le_mul hr hc) (by decide)
 have ew:=zig (T:=T) (b:=false) (S:=S++[(⟨"Mends",zam "size" false (.tup [.int r,.int c]) []⟩:Ob)]) (g:=fun _ _=>none) (c:=c) h1 hr hc;rw [List.length_append,List.length_singleton] at ew
 have fs:zey "Mends" "size" (.ref S.length) (S++[(⟨"Mends",zam "size" false (.tup [.int r,.int c]) []⟩:Ob)])=some (.tup [.int r,.int c]):=by
  unfold zey;dsimp only;rw [List.getElem?_append_right (Nat.le_refl _),Nat.sub_self];rfl
 have q1:=zkO (c:="Mends") (x:="size") (ρ:=[some (false,.ref S.length),some (false,T),some (false,flr r c g),some (false,flr r c fun i j=>some (w i j))]) (S:=S) (r:=.tup [.int r,.int c]) (fs:=[]) (n:=S.length) (by decide) rfl;have pl:=fun (o1 o2:Ob) (x:Str) (d:D) (h:o1.cls = "Mends") (hl:o1.fs.length<1000)=>zmq (c:="Mends") (x:=x) (ρ:=[some (false,.ref S.length),some (false,T),some (false,flr r c g),some (false,flr r c fun i j=>some (w i j))]) (r:=d) (S:=S++[o1,o2]) (n:=S.length) ziE h hl
 simp only [zjZ] at pl;simp only [List.append_assoc,List.cons_append,List.nil_append] at ew;have n1:=zbD (x:="size") (o:=false) (d:=.tup [.int r,.int c]) (gs:=[]);have n2:=zbD (x:="ways") (o:=false) (d:=.ref (S.length+1)) (gs:=zam "size" false (.tup [.int r,.int c]) []);have n3:=zbD (x:="laid") (o:=false) (d:=.lst ((zac r c g).map oD)) (gs:=zam "ways" false (.ref (S.length+1)) (zam "size" false (.tup [.int r,.int c]) []));have n4:=zbD (x:="weights") (o:=false) (d:=.lst ((weL r c w).map D.int)) (gs:=zam "laid" false (.lst ((zac r c g).map oD)) (zam "ways" false (.ref (S.length+1)) (zam "size" false (.tup [.int r,.int c]) [])));have n0:([]:List (Str×Bool×D)).length=0:=rfl;generalize hw0:wOb T (.lst ((zac r c fun _ _=>none).map oD)) (.tup [.int r,.int c]) false []=w0 at *;have q2:=pl ⟨"Mends",zam "size" false (.tup [.int r,.int c]) []⟩ w0 "ways" (.ref (S.length+1)) rfl (by show (zam _ _ _ _).length<1000;omega);have q3:=pl ⟨"Mends",zam "ways" false (.ref (S.length+1)) (zam "size" false (.tup [.int r,.int c]) [])⟩ w0 "laid" (.lst ((zac r c g).map oD)) rfl (by show (zam _ _ _ _).length<1000;omega);have q4:=pl ⟨"Mends",zam "laid" false (.lst ((zac r c g).map oD)) (zam "ways" false (.ref (S.length+1)) (zam "size" false (.tup [.int r,.int c]) []))⟩ w0 "weights" (.lst ((weL r c w).map D.int)) rfl (by show (zam _ _ _ _).length<1000;omega);have q5:=zlG (c:="Mends") (x:="known") (i:=0) (ρ:=[some (false,.ref S.length),some (false,T),some (false,flr r c g),some (false,flr r c fun i j=>some (w i j))]) (S:=S++[⟨"Mends",zam "weights" false (.lst ((weL r c w).map D.int)) (zam "laid" false (.lst ((zac r c g).map oD)) (zam "ways" false (.ref (S.length+1)) (zam "size" false (.tup [.int r,.int c]) [])))⟩,w0]) (n:=S.length) rfl ziE rfl (by show (zam _ _ _ _).length<1000;omega);rw [zjZ] at q5
 have fin:(⟨"Mends",zam "weights" false (.lst ((weL r c w).map D.int)) (zam "laid" false (.lst ((zac r c g).map oD)) (zam "ways" false (.ref (S.length+1)) (zam "size" false (.tup [.int r,.int c]) [])))⟩:Ob).put "known" true (.dic [])=mOb (.tup [.int r,.int c]) (S.length+1) (.lst ((zac r c g).map oD)) (.lst ((weL r c w).map D.int)) []:=by rfl
 rw [fin] at q5;clear n0 n1 n2 n3 n4 pl fin;unfold Ob.put at q2 q3 q4;dsimp only at q2 q3 q4;generalize mOb (.tup [.int r,.int c]) (S.length+1) (.lst ((zac r c g).map oD)) (.lst ((weL r c w).map D.int)) []=mo at *;generalize zam "weights" false (.lst ((weL r c w).map D.int)) (zam "laid" false (.lst ((zac r c g).map oD)) (zam "ways" false (.ref (S.length+1)) (zam "size" false (.tup [.int r,.int c]) [])))=f4 at *;generalize zam "laid" false (.lst ((zac r c g).map oD)) (zam "ways" false (.ref (S.length+1)) (zam "size" false (.tup [.int r,.int c]) []))=f3 at *;generalize zam "ways" false (.ref (S.length+1)) (zam "size" false (.tup [.int r,.int c]) [])=f2 at *;generalize zam "size" false (.tup [.int r,.int c]) []=f1 at *;generalize (zac r c g).map oD=gl at *;generalize (weL r c w).map D.int=wl at *;generalize (flr r c fun _ _=>none)=fe at *;generalize (flr r c fun i j=>some (w i j))=fw at *;generalize flr r c g=fg at *;simp [za3,zar,zb2,e1,e2,e3,e4,e5,l1,l2,ew,fs,q1,q2,q3,q4,q5]
end S2
namespace S2
open PySem
open L2 hiding D
def zbZ(ts:Z2)(r c:Nat)(g:Z1)(w:Nat->Nat->Int):Option (Int×Int):=lfS ts (zac r c fun _ _=>none) (zac r c g) (weL r c w) c (r*c) 0 (List.replicate (c+2) none)
theorem zdM{S:Sto}{n nw:Nat}{ts:Z2}{gr la:Z4}{we:List Int}{r c:Nat}(A:MAt S n nw ts gr la we r c [])(hla:la.length=gr.length)(hwe:we.length=gr.length)(ht:TOk ts)(h1:1<=ts.length)(hg:∀o∈gr,∀x,o=some x->0<=x/\x<ts.length)(hc:1<=c)(hc2:c<=100)(hm:gr.length<=19)(hp:ts.length ^ gr.length<=1000000)(hq:zaz ts.length gr.length<=1000000) :
  ∃ds',zaU [.ref n] S=.ok (lfD (lfS ts gr la we c gr.length 0 (List.replicate (c+2) none))) (S.set n (mOb (.tup [.int r,.int c]) nw (.lst (la.map oD)) (.lst (we.map D.int)) ds'))/\zff ts gr la we c ds'/\ds'.length<=zaz ts.length gr.length:=by
 have C:=ziz (n:=n) (nw:=nw) (r:=r) hla hwe ht h1 hg hc hc2 gr.length (60-(3*gr.length+1)) hp;rw [show 3*gr.length+1+(60-(3*gr.length+1))=60 by omega] at C;obtain ⟨ds',e,M,z,_⟩:=C.run S [] 0 (List.replicate (c+2) none) A (fun k s d h=>by cases h) (by omega) (List.length_replicate ..) (by simpa using hq);refine ⟨ds',?_,M,by simpa using z⟩;have e':zay [.ref n,.int 0,zaw (List.replicate (c+2) none)] S=_:=e;obtain ⟨dw,W⟩:=A.wat;have e2:=zcx W hc2;have m1:=A.meth "least_from" (by decide +kernel);have m2:=W.meth "first_seam" (by decide +kernel);have fw:=A.ways;generalize mOb (.tup [.int r,.int c]) nw (.lst (la.map oD)) (.lst (we.map D.int)) ds'=ob at *;generalize lfD (lfS ts gr la we c gr.length 0 (List.replicate (c+2) none))=vv at *;generalize zaw (List.replicate (c+2) none)=sd at *;simp [zaU,zar,zbS,m1,m2,fw,e2,e']
theorem zjE{r c:Nat}{w:Nat->Nat->Int}:(weL r c w).length=r*c:=by
 have:=congrArg List.length (zgq (r:=r) (c:=c) (w:=w));rw [List.length_map,zas,List.length_map] at this;exact this.symm
theorem zdA{ts:Z2}:InT ts fun _ _=>none:=fun i j x h=>by cases h
theorem zcP{r c:Nat}{g h:Z1}{S:Sto}(h1:1<=r)(hr:r<=100):zaJ [flr r c g,flr r c h] S=.ok .non S:=by
 have e:=zih (r:=r) (c:=c) (r':=r) (c':=c) (g:=g) (h:=h) (S:=S) h1 (by omega);rw [decide_eq_true ⟨rfl,rfl⟩] at e;generalize flr r c g=fg at *;generalize flr r c h=fh at *;simp [zaJ,zar,zcf,e]
theorem za5{ts:Z2}{r c:Nat}{g:Z1}{w:Nat->Nat->Int}(P:FP ts r c)(S:Sto) :
  ∃S',zap [.tup (ts.map zao),flr r c g,flr r c fun i j=>some (w i j)] S=.ok (lfD (zbZ ts r c g w)) S':=by
 obtain ⟨b1,b2⟩:=zhx ts.length (r*c) P.h4;have r6:=P.r6;have c6:=P.c6;have rc:=P.rc;have e0:=zcP (g:=g) (h:=fun i j=>some (w i j)) (S:=S) (c:=c) P.r1 (show r<=100 by omega);have e1:=zgG (T:=.tup (ts.map zao)) (S:=S) (g:=g) (w:=w) P.r1 (show r<=100 by omega) P.c1 (show c<=100 by omega);have A:MAt (S++[mOb (.tup [.int r,.int c]) (S.length+1) (.lst ((zac r c g).map oD)) (.lst ((weL r c w).map D.int)) [],wOb (.tup (ts.map zao)) (.lst ((zac r c fun _ _=>none).map oD)) (.tup [.int r,.int c]) false []]) S.length (S.length+1) ts (zac r c fun _ _=>none) (zac r c g) (weL r c w) r c []:=⟨ziE,⟨[],⟨by rw [List.getElem?_append_right (by omega),show S.length+1-S.length=1 by omega];rfl⟩⟩,by omega⟩;have gl:∀h:Nat->Nat->Option Int,(zac r c h).length=r*c:=fun h=>zas
 obtain ⟨ds',e2,_⟩:=zdM A (by rw [gl,gl]) (by rw [gl,zjE]) P.ht P.h1 (zcN zdA) P.c1 (by omega) (by rw [gl];omega) (by rw [gl];omega) (by rw [gl];exact b1);rw [gl] at e2;have m:=A.meth "least_all" (by decide +kernel);obtain ⟨S',hS⟩:∃S',(S++[mOb (.tup [.int r,.int c]) (S.length+1) (.lst ((zac r c g).map oD)) (.lst ((weL r c w).map D.int)) [],wOb (.tup (ts.map zao)) (.lst ((zac r c fun _ _=>none).map oD)) (.tup [.int r,.int c]) false []]).set S.length (mOb (.tup [.int r,.int c]) (S.length+1) (.lst ((zac r c g).map oD)) (.lst ((weL r c w).map D.int)) ds')=S':=⟨_,rfl⟩;rw [hS] at e2;clear hS A;refine ⟨S',?_⟩;unfold zbZ;generalize lfD (lfS ts (zac r c fun _ _=>none) (zac r c g) (weL r c w) c (r*c) 0 (List.replicate (c+2) none))=vv at *;generalize mOb (.tup [.int r,.int c]) (S.length+1) (.lst ((zac r c g).map oD)) (.lst ((weL r c w).map D.int)) []=ob at *;generalize wOb (.tup (ts.map zao)) (.lst ((zac r c fun _ _=>none).map oD)) (.tup [.int r,.int c]) false []=wo at *;generalize (flr r c fun i j=>some (w i j))=fw at *;generalize flr r c g=fg at *;simp [zap,zar,zdb,e0,e1,m,e2]
end S2
namespace S2
open PySem
open L2 hiding D
def zcK(ts:Z2)(gr la:Z4)(we:List Int)(c:Nat):Nat->Nat->List (Option Int)->Option (List Int)
 | 0,_,_=>some []
 | m+1,k,s=>(lfS ts gr la we c (m+1) k s).bind fun q=>(((zdg ts gr la we c m k (chs ts gr c false k s)).filter fun o=>decide (o.1=q.1))[0]?).bind fun o=>(zcK ts gr la we c m (k+1) o.2.2.2).map (o.2.2.1::·)
theorem zeC(ns:List Int)(h:ns≠[]):zfh ns∈ns:=by
 have hl:0<ns.length:=List.length_pos_iff.mpr h;have hb:zmQ ns<ns.length:=Nat.lt_of_le_of_lt (zlp _ _) (by omega);unfold zfh;rw [List.getD_eq_getElem?_getD,List.getElem?_eq_getElem hb];exact List.getElem_mem hb
theorem zgW{os:List Off}{q:Int×Int}(h:lbo os=some q):∃o,(os.filter fun o=>decide (o.1=q.1))[0]?=some o/\o∈os/\o.1=q.1:=by
 unfold lbo at h;split at h
 ·cases h
 ·rename_i hne;cases h;have hm:=zeC (os.map (·.1)) (by intro z;apply hne;rw [List.map_eq_nil_iff] at z;rw [z];rfl);obtain ⟨o,ho,e⟩:=List.mem_map.mp hm;have hf:o∈os.filter fun o=>decide (o.1=zfh (os.map (·.1))):=List.mem_filter.mpr ⟨ho,decide_eq_true e⟩
  cases hl:os.filter fun o=>decide (o.1=zfh (os.map (·.1))) with
  | nil=>rw [hl] at hf;exact (List.not_mem_nil hf).elim
  | cons a l =>
   have ha:a∈os.filter fun o=>decide (o.1=zfh (os.map (·.1))):=by rw [hl];exact List.mem_cons_self
   obtain ⟨h1,h2⟩:=List.mem_filter.mp ha;exact ⟨a,rfl,h1,of_decide_eq_true h2⟩
theorem zis{ts:Z2}{gr la:Z4}{we:List Int}{c m k:Nat}{s:Z4}(hc:1<=c)(hs:s.length=c+2){o:Off}(h:o∈zdg ts gr la we c m k (chs ts gr c false k s)):o.2.2.2.length=c+2/\∃q,lfS ts gr la we c m (k+1) o.2.2.2=some q:=by
 obtain ⟨p,hp,e⟩:=List.mem_filterMap.mp h
 cases hf:lfS ts gr la we c m (k+1) p.2 with
 | none=>rw [hf] at e;cases e
 | some q =>
  rw [hf] at e;cases e;exact ⟨zgj hc hs p hp,q,hf⟩
end S2
namespace S2
open PySem
open L2 hiding D
section
variable{S:Sto}{n nw:Nat}{ts:Z2}{gr la:Z4}{we:List Int}{r c:Nat}
theorem zkE{m k:Nat}{s:Z4}{q:Int×Int}{o:Off}{ds:List (D×D)}{N:List D}{x4 x5:Option (Bool×D)}(hla:la.length=gr.length)(hwe:we.length=gr.length)(ht:TOk ts)(h1:1<=ts.length)(hg:∀o∈gr,∀x,o=some x->0<=x/\x<ts.length)(hc:1<=c)(hc2:c<=100)(hm:gr.length<=19)(hp:ts.length ^ gr.length<=1000000)(hk:k+1+m=gr.length)(hs:s.length=c+2)(A:MAt S n nw ts gr la we r c ds)(M:zff ts gr la we c ds)
  (hq:lfS ts gr la we c (m+1) k s=some q) (ho:((zdg ts gr la we c m k (chs ts gr c false k s)).filter fun o=>decide (o.1=q.1))[0]?=some o) (hz:ds.length+(zaz ts.length (m+1)+ts.length*zaz ts.length m)<=1000000) (hN:N.length<=1000) :
  ∃ds' y4 y5,zaM [some (false,.ref n),some (true,.lst N),some (false,zaw s),some (false,.int k),x4,x5] S
   = .nx [some (false,.ref n),some (true,.lst (N++[.int o.2.2.1])),some (false,zaw o.2.2.2),some (false,.int k),y4,y5] (S.set n (mOb (.tup [.int r,.int c]) nw (.lst (la.map oD)) (.lst (we.map D.int)) ds'))/\zff ts gr la we c ds'/\ds'.length<=ds.length+(zaz ts.length (m+1)+ts.length*zaz ts.length m):=by
 have pw:∀j,j<=gr.length->ts.length ^ j<=1000000:=fun j hj=>Nat.le_trans (Nat.pow_le_pow_right h1 hj) hp
 have C1:=ziz (n:=n) (nw:=nw) (r:=r) hla hwe ht h1 hg hc hc2 (m+1) (60-(3*(m+1)+1)) (pw _ (by omega));rw [show 3*(m+1)+1+(60-(3*(m+1)+1))=60 by omega] at C1;obtain ⟨ds1,e1,M1,z1,_⟩:=C1.run S ds k s A M (by omega) hs (by omega);have C2:=ziz (n:=n) (nw:=nw) (r:=r) hla hwe ht h1 hg hc hc2 m (59-(3*m+1)) (pw _ (by omega));rw [show 3*m+1+(59-(3*m+1))=59 by omega] at C2;have A1:=A.put ds1;obtain ⟨ds2,K⟩:=zfq (k:=k) (s:=s) C2 (by omega) hla hwe ht h1 hg hc hc2 hs A1 M1 (by omega);have e2:=K.eq;rw [List.set_set] at e2;have z2:=K.len
 have e1':zay [.ref n,.int k,zaw s] S=.ok (.tup [.int q.1,.int q.2]) (S.set n (mOb (.tup [.int r,.int c]) nw (.lst (la.map oD)) (.lst (we.map D.int)) ds1)):=by
  have:zay [.ref n,.int k,zaw s] S=_:=e1;rw [this,hq];rfl
 have e2':zbW [.ref n,.int k,zaw s] (S.set n (mOb (.tup [.int r,.int c]) nw (.lst (la.map oD)) (.lst (we.map D.int)) ds1))=_:=e2;have m1:=A.meth "least_from" (by decide +kernel);have m2:=A1.meth "offers" (by decide +kernel);refine ⟨ds2,some (false,.int q.1),some (false,zem o),?_,K.memo,by omega⟩
 have c1:zb4 (.one 0) (zal eqD (zal ixD (zax 0) (zak (.int 0))) (zax 1)) (zad 0) [none,some (false,.int q.1)] ((zdg ts gr la we c m k (chs ts gr c false k s)).map zem) (S.set n (mOb (.tup [.int r,.int c]) nw (.lst (la.map oD)) (.lst (we.map D.int)) ds2))=.ok (((zdg ts gr la we c m k (chs ts gr c false k s)).filter fun o=>decide (o.1=q.1)).map zem) (S.set n (mOb (.tup [.int r,.int c]) nw (.lst (la.map oD)) (.lst (we.map D.int)) ds2)):=by
  rw [zdd (g:=id) (p:=isO q.1) (fun d hd=>by
   obtain ⟨o,_,rfl⟩:=List.mem_map.mp hd
   exact ⟨_,rfl,by simp [zem,isO],fun _=>rfl⟩),List.map_id,List.filter_map]
  rfl
 have l1:(((zdg ts gr la we c m k (chs ts gr c false k s)).filter fun o=>decide (o.1=q.1)).map zem).length<=100000:=by
  rw [List.length_map];refine Nat.le_trans (List.length_filter_le _ _) (Nat.le_trans (List.length_filterMap_le _ _) (Nat.le_trans (zef h1) (Nat.le_trans ht.le (by decide))))
 have i0:(((zdg ts gr la we c m k (chs ts gr c false k s)).filter fun o=>decide (o.1=q.1)).map zem)[0]?=some (zem o):=by rw [List.getElem?_map,ho];rfl
 have i2:ixD (zem o) (.int 2)=some (.int o.2.2.1):=rfl;have i3:ixD (zem o) (.int 3)=some (zaw o.2.2.2):=rfl
 have hNs:N.length<=100000:=by omega
 clear K e1 e2 C1 C2 A1;generalize ((zdg ts gr la we c m k (chs ts gr c false k s)).filter fun o=>decide (o.1=q.1)).map zem=fl at *;generalize (zdg ts gr la we c m k (chs ts gr c false k s)).map zem=ol at *;generalize mOb (.tup [.int r,.int c]) nw (.lst (la.map oD)) (.lst (we.map D.int)) ds1=ob1 at *;generalize mOb (.tup [.int r,.int c]) nw (.lst (la.map oD)) (.lst (we.map D.int)) ds2=ob2 at *;generalize zem o=oo at *;generalize zaw o.2.2.2=so at *;generalize zaw s=sd at *;simp [zaM,m1,e1',m2,e2',c1,l1,i0,i2,i3,hNs]
end
end S2
namespace S2
open PySem
open L2 hiding D
theorem zfu{ts:Z2}{gr la:Z4}{we:List Int}{c:Nat}(hc:1<=c):∀m k s q,s.length=c+2->lfS ts gr la we c m k s=some q->∃t,zcK ts gr la we c m k s=some t/\t.length=m
 | 0,_,_,_,_,_=>⟨[],rfl,rfl⟩
 | m+1,k,s,q,hs,h=>by
  obtain ⟨o,e,ho,_⟩:=zgW (show lbo (zdg ts gr la we c m k (chs ts gr c false k s))=some q from h);obtain ⟨h1,q',h2⟩:=zis hc hs ho;obtain ⟨t,e2,hl⟩:=zfu hc m (k+1) o.2.2.2 q' h1 h2;refine ⟨o.2.2.1::t,?_,by rw [List.length_cons,hl]⟩;unfold zcK;rw [h];show (((zdg ts gr la we c m k (chs ts gr c false k s)).filter fun o=>decide (o.1=q.1))[0]?).bind (fun o=>(zcK ts gr la we c m (k+1) o.2.2.2).map (o.2.2.1::·))=_;rw [e];show (zcK ts gr la we c m (k+1) o.2.2.2).map (o.2.2.1::·)=_;rw [e2];rfl
section
variable{S:Sto}{n nw:Nat}{ts:Z2}{gr la:Z4}{we:List Int}{r c:Nat}
theorem zeK{q:Int×Int}{ds:List (D×D)}(hla:la.length=gr.length)(hwe:we.length=gr.length)(ht:TOk ts)(h1:1<=ts.length)(hg:∀o∈gr,∀x,o=some x->0<=x/\x<ts.length)(hc:1<=c)(hc2:c<=100)(hr:r<=100)(hrc:gr.length=r*c)(hm:gr.length<=19)(hp:ts.length ^ gr.length<=1000000)(A:MAt S n nw ts gr la we r c ds)(M:zff ts gr la we c ds)(hq:lfS ts gr la we c gr.length 0 (List.replicate (c+2) none)=some q)
  (hz:ds.length+gr.length*(zaz ts.length gr.length+ts.length*zaz ts.length gr.length)<=1000000) :
  ∃t S',zcK ts gr la we c gr.length 0 (List.replicate (c+2) none)=some t/\zaZ [.ref n] S=.ok (flr r c (zaO c t)) S':=by
 obtain ⟨dw,W⟩:=A.wat;have e1:=zcx W hc2;have mf:=W.meth "first_seam" (by decide +kernel);have fw:=A.ways;have fl:=A.laid
 obtain ⟨ρ',S',e2,t,s,ds',x3,x4,x5,rfl,rfl,M',z',hs,ht',hq',hpath⟩:=zk4 (tg:=.one 3) (body:=zaM) (ds:=zaP 0 (gr.length:Int)) (fun k ρ S'=>∃(t:List Int) (s:Z4) (ds':List (D×D)) (x3 x4 x5:Option (Bool×D)),ρ=[some (false,.ref n),some (true,.lst (t.map D.int)),some (false,zaw s),x3,x4,x5]/\S'=S.set n (mOb (.tup [.int r,.int c]) nw (.lst (la.map oD)) (.lst (we.map D.int)) ds')/\zff ts gr la we c ds'/\ds'.length<=ds.length+k*(zaz ts.length gr.length+ts.length*zaz ts.length gr.length)/\s.length=c+2/\t.length=k/\(∃q',lfS ts gr la we c (gr.length-k) k s=some q')/\(zcK ts gr la we c (gr.length-k) k s).map (t++·)=zcK ts gr la we c gr.length 0 (List.replicate (c+2) none)) (by
  rintro k d ρ S' hd ⟨t,s,ds',x3,x4,x5,rfl,rfl,M',z',hs,ht',⟨q',hq'⟩,hpath⟩;obtain ⟨hk,rfl⟩:=zil hd;obtain ⟨m,hmk⟩:∃m,gr.length-k=m+1:=⟨gr.length-k-1,by omega⟩;rw [hmk] at hq' hpath;obtain ⟨o,eo,hoo,_⟩:=zgW (show lbo (zdg ts gr la we c m k (chs ts gr c false k s))=some q' from hq');obtain ⟨hs2,hq2⟩:=zis hc hs hoo;have b1:=zgL h1 (show m+1<=gr.length by omega);have b2:ts.length*zaz ts.length m<=ts.length*zaz ts.length gr.length:=Nat.mul_le_mul_left _ (zgL h1 (by omega));have hkz:(k+1)*(zaz ts.length gr.length+ts.length*zaz ts.length gr.length)<=gr.length*(zaz ts.length gr.length+ts.length*zaz ts.length gr.length):=Nat.mul_le_mul_right _ hk
  have hk1:(k+1)*(zaz ts.length gr.length+ts.length*zaz ts.length gr.length)=k*(zaz ts.length gr.length+ts.length*zaz ts.length gr.length)+(zaz ts.length gr.length+ts.length*zaz ts.length gr.length):=by rw [Nat.add_mul,Nat.one_mul]
  obtain ⟨ds2,y4,y5,e3,M2,z2⟩:=zkE (N:=t.map D.int) (x4:=x4) (x5:=x5) hla hwe ht h1 hg hc hc2 hm hp (show k+1+m=gr.length by omega) hs (A.put ds') M' hq' eo (by omega) (by rw [List.length_map];omega);rw [List.set_set] at e3;refine ⟨_,_,_,rfl,e3,t++[o.2.2.1],o.2.2.2,ds2,some (false,.int k),y4,y5,?_,rfl,M2,by omega,hs2,by rw [List.length_append,ht'];rfl,by rw [show gr.length-(k+1)=m by omega];exact hq2,?_⟩
  ·rw [List.map_append];rfl
  ·rw [<-hpath,show gr.length-(k+1)=m by omega];show _=Option.map (t++·) ((lfS ts gr la we c (m+1) k s).bind fun q=>(((zdg ts gr la we c m k (chs ts gr c false k s)).filter fun o=>decide (o.1=q.1))[0]?).bind fun o=>(zcK ts gr la we c m (k+1) o.2.2.2).map (o.2.2.1::·));rw [hq'];show _=Option.map (t++·) ((((zdg ts gr la we c m k (chs ts gr c false k s)).filter fun o=>decide (o.1=q'.1))[0]?).bind fun o=>(zcK ts gr la we c m (k+1) o.2.2.2).map (o.2.2.1::·));rw [eo];show _=Option.map (t++·) ((zcK ts gr la we c m (k+1) o.2.2.2).map (o.2.2.1::·))
   cases zcK ts gr la we c m (k+1) o.2.2.2 with
   | none=>rfl
   | some u=>simp)
  (ρ:=[some (false,.ref n),some (true,.lst []),some (false,zaw (List.replicate (c+2) none)),none,none,none]) (S:=S) ⟨[],List.replicate (c+2) none,ds,none,none,none,rfl,(zcO A.at_).symm,M,by omega,List.length_replicate ..,rfl,⟨q,hq⟩,by
   show Option.map (fun x=>[]++x) (zcK ts gr la we c gr.length 0 _)=_
   cases zcK ts gr la we c gr.length 0 (List.replicate (c+2) none)<;>rfl⟩
 have hL:(zaP 0 (gr.length:Int)).length=gr.length:=by unfold zaP;simp
 rw [hL] at ht' hpath;rw [Nat.sub_self] at hpath
 have hpath':zcK ts gr la we c gr.length 0 (List.replicate (c+2) none)=some t:=by
  rw [<-hpath];show some (t++[])=some t;rw [List.append_nil]
 refine ⟨t,S.set n (mOb (.tup [.int r,.int c]) nw (.lst (la.map oD)) (.lst (we.map D.int)) ds'),hpath',?_⟩
 have hgl:-1000000<=(la.length:Int)/\(la.length:Int)<=1000000:=by omega
 rw [<-hla] at e2;have fz:=(A.put ds').size;have er:=zhu (t:=t) (r:=r) (c:=c) (S:=S.set n (mOb (.tup [.int r,.int c]) nw (.lst (la.map oD)) (.lst (we.map D.int)) ds')) (by omega) hc2 hr;generalize mOb (.tup [.int r,.int c]) nw (.lst (la.map oD)) (.lst (we.map D.int)) ds'=ob at *;generalize zaw (List.replicate (c+2) none)=sd at *;generalize flr r c (zaO c t)=res at *;generalize t.map D.int=td at *;simp [zaZ,zar,zbr,fw,mf,e1,fl,hgl,e2,fz,er]
end
end S2
namespace S2
open PySem
open L2 hiding D
def zf7(ts:Z2)(r c:Nat)(g:Z1)(w:Nat->Nat->Int):List Int:=(zcK ts (zac r c fun _ _=>none) (zac r c g) (weL r c w) c (r*c) 0 (List.replicate (c+2) none)).getD []
theorem zlW(q m:Nat)(h:zfe q m):zaz q m+m*(zaz q m+q*zaz q m)<=1000000:=h.1
theorem zfr{ts:Z2}{r c:Nat}{g:Z1}{w:Nat->Nat->Int}(P:FP ts r c)(S:Sto) :
  ∃S',zcn [.tup (ts.map zao),flr r c g,flr r c fun i j=>some (w i j)] S=(if (zbZ ts r c g w).isSome then .ok (flr r c (zaO c (zf7 ts r c g w))) S' else .exc "NoFill" S'):=by
 obtain ⟨b1,b2⟩:=zhx ts.length (r*c) P.h4;have b3:=zlW ts.length (r*c) P.h4;have r6:=P.r6;have c6:=P.c6;have rc:=P.rc;have e0:=zcP (g:=g) (h:=fun i j=>some (w i j)) (S:=S) (c:=c) P.r1 (show r<=100 by omega);have e1:=zgG (T:=.tup (ts.map zao)) (S:=S) (g:=g) (w:=w) P.r1 (show r<=100 by omega) P.c1 (show c<=100 by omega);have A:MAt (S++[mOb (.tup [.int r,.int c]) (S.length+1) (.lst ((zac r c g).map oD)) (.lst ((weL r c w).map D.int)) [],wOb (.tup (ts.map zao)) (.lst ((zac r c fun _ _=>none).map oD)) (.tup [.int r,.int c]) false []]) S.length (S.length+1) ts (zac r c fun _ _=>none) (zac r c g) (weL r c w) r c []:=⟨ziE,⟨[],⟨by rw [List.getElem?_append_right (by omega),show S.length+1-S.length=1 by omega];rfl⟩⟩,by omega⟩;have gl:∀h:Nat->Nat->Option Int,(zac r c h).length=r*c:=fun h=>zas
 obtain ⟨ds',e2,M,z⟩:=zdM A (by rw [gl,gl]) (by rw [gl,zjE]) P.ht P.h1 (zcN zdA) P.c1 (by omega) (by rw [gl];omega) (by rw [gl];omega) (by rw [gl];exact b1);rw [gl] at e2 z;have m1:=A.meth "least_all" (by decide +kernel);have A1:=A.put ds';have m2:=A1.meth "least_whole" (by decide +kernel)
 cases hq:zbZ ts r c g w with
 | none =>
  have hq':lfS ts (zac r c fun _ _=>none) (zac r c g) (weL r c w) c (r*c) 0 (List.replicate (c+2) none)=none:=hq;rw [hq'] at e2;refine ⟨(S++[mOb (.tup [.int r,.int c]) (S.length+1) (.lst ((zac r c g).map oD)) (.lst ((weL r c w).map D.int)) [],wOb (.tup (ts.map zao)) (.lst ((zac r c fun _ _=>none).map oD)) (.tup [.int r,.int c]) false []]).set S.length (mOb (.tup [.int r,.int c]) (S.length+1) (.lst ((zac r c g).map oD)) (.lst ((weL r c w).map D.int)) ds'),?_⟩;rw [if_neg (by decide)];have hl:lfD none=.non:=rfl;rw [hl] at e2;clear A A1 m2;generalize mOb (.tup [.int r,.int c]) (S.length+1) (.lst ((zac r c g).map oD)) (.lst ((weL r c w).map D.int)) ds'=ob1 at *;generalize mOb (.tup [.int r,.int c]) (S.length+1) (.lst ((zac r c g).map oD)) (.lst ((weL r c w).map D.int)) []=ob at *;generalize wOb (.tup (ts.map zao)) (.lst ((zac r c fun _ _=>none).map oD)) (.tup [.int r,.int c]) false []=wo at *;generalize (flr r c fun i j=>some (w i j))=fw at *;generalize flr r c g=fg at *;simp [zcn,zar,zeA,e0,e1,m1,e2]
 | some q =>
  have hq':lfS ts (zac r c fun _ _=>none) (zac r c g) (weL r c w) c (r*c) 0 (List.replicate (c+2) none)=some q:=hq;obtain ⟨t,S3,et,e3⟩:=zeK (q:=q) (by rw [gl,gl]) (by rw [gl,zjE]) P.ht P.h1 (zcN zdA) P.c1 (by omega) (by omega) (gl _) (by rw [gl];omega) (by rw [gl];omega) A1 M (by rw [gl];exact hq') (by rw [gl];omega);rw [gl] at et
  have hm:zf7 ts r c g w=t:=by unfold zf7;rw [et];rfl
  rw [hm];rw [hq'] at e2;refine ⟨S3,?_⟩;rw [if_pos (show (some q).isSome=true from rfl)];have hl:lfD (some q)=.tup [.int q.1,.int q.2]:=rfl;rw [hl] at e2;clear A A1;rw [zjZ] at e2 m2 e3;generalize mOb (.tup [.int r,.int c]) (S.length+1) (.lst ((zac r c g).map oD)) (.lst ((weL r c w).map D.int)) ds'=ob1 at *;generalize mOb (.tup [.int r,.int c]) (S.length+1) (.lst ((zac r c g).map oD)) (.lst ((weL r c w).map D.int)) []=ob at *;generalize wOb (.tup (ts.map zao)) (.lst ((zac r c fun _ _=>none).map oD)) (.tup [.int r,.int c]) false []=wo at *;generalize flr r c (zaO c t)=res at *;generalize (flr r c fun i j=>some (w i j))=fw at *;generalize flr r c g=fg at *;simp [zcn,zar,zeA,e0,e1,m1,e2,m2,e3]
end S2
namespace S2
open PySem
open L2 hiding D
def agN(gr:Z4)(k:Nat)(t:List Int):Bool:=(List.range k).all fun i=>okO (gr.getD i none) (t.getD i 0)
theorem zmR{gr:Z4}{k:Nat}{t:List Int}:agN gr (k+1) t=(agN gr k t&&okO (gr.getD k none) (t.getD k 0)):=by
 unfold agN;rw [List.range_succ,List.all_append];simp
theorem zpi{gr:Z4}{k:Nat}{t u:List Int}(h:k<=t.length):agN gr k (t++u)=agN gr k t:=by
 unfold agN;rw [Bool.eq_iff_iff,List.all_eq_true,List.all_eq_true]
 have e:∀i∈List.range k,(t++u).getD i 0=t.getD i 0:=fun i hi=>by
  have:=List.mem_range.mp hi;rw [List.getD_eq_getElem?_getD,List.getD_eq_getElem?_getD,List.getElem?_append_left (by omega)]
 constructor
 ·intro z i hi;have:=z i hi;rw [e i hi] at this;exact this
 ·intro z i hi;rw [e i hi];exact z i hi
theorem zep{ts:Z2}{gr:Z4}{c:Nat}:∀k,zaE ts gr c k=(zaE ts [] c k).filter (agN gr k)
 | 0=>rfl
 | k+1=>by
  show (zaE ts gr c k).flatMap _=((zaE ts [] c k).flatMap _).filter _;rw [zep k];have hl:∀t∈zaE ts [] c k,t.length=k:=fun t ht=>((zda k).mem t ht).1
  generalize zaE ts [] c k=F at hl;have hn:([]:Z4).getD k none=none:=rfl;rw [hn]
  induction F with
  | nil=>rfl
  | cons t F ih =>
   have ih':=ih fun u hu=>hl u (List.mem_cons_of_mem _ hu)
   have ht:=hl t List.mem_cons_self;rw [List.flatMap_cons,List.filter_append,<-ih',List.filter_cons]
   have key:(zdB ts c none t).filter (agN gr (k+1))=if agN gr k t then zdB ts c (gr.getD k none) t else []:=by
    unfold zdB;rw [List.filter_map]
    have ef:(agN gr (k+1)∘fun x=>t++[x])=fun x=>agN gr k t&&okO (gr.getD k none) x:=by
     funext x;show agN gr (k+1) (t++[x])=_;rw [zmR,zpi (by omega)]
     have:(t++[x]).getD k 0=x:=by rw [List.getD_eq_getElem?_getD,List.getElem?_append_right (by omega),ht];simp
     rw [this]
    rw [ef,List.filter_filter]
    cases ha:agN gr k t with
    | true =>
     simp only [Bool.true_and,if_true];rfl
    | false =>
     have:∀l:List Int,l.filter (fun a=>(false&&okO (gr.getD k none) a)&&(okO none a&&zlB ts c t a))=[]:=by
      intro l;rw [List.filter_eq_nil_iff];intro a _;simp
     rw [this];rfl
   rw [key]
   cases agN gr k t with
   | true=>simp only [if_true,List.flatMap_cons]
   | false=>simp
def ztU(ts:Z2)(r c:Nat):List (List Int):=zaE ts [] c (r*c)
def agG(r c:Nat)(g:Z1)(t:List Int):Bool:=agN (zac r c g) (r*c) t
theorem zbF{ts:Z2}{r c:Nat}{g:Z1}:zbm ts r c g=(ztU ts r c).filter (agG r c g):=zep _
theorem zdR{r c:Nat}(hc:1<=c):∀{k:Nat},k<r*c->(zbK r c)[k]?=some (k / c,k % c):=by
 induction r with
 | zero=>intro k h;omega
 | succ r ih =>
  intro k h
  have hl:(zbK r c).length=r*c:=by
   have:=zas (r:=r) (c:=c) (g:=fun _ _=>none);rw [zcr,List.length_map] at this;exact this
  have e:zbK (r+1) c=zbK r c++(List.range c).map fun j=>(r,j):=by
   unfold zbK;rw [List.range_succ,List.flatMap_append];simp
  rw [e]
  by_cases z:k<r*c
  ·rw [List.getElem?_append_left (by omega)];exact ih z
  ·rw [List.getElem?_append_right (by omega),hl,List.getElem?_map]
   have h2:k<r*c+c:=by rw [Nat.succ_mul] at h;exact h
   rw [List.getElem?_range (by omega)]
   have hd:k / c=r:=by
    rw [Nat.div_eq_iff (by omega)];have:r*c=c*r:=Nat.mul_comm _ _
    constructor<;>first | omega | (rw [Nat.mul_comm];omega) | skip
    all_goals omega
   have hm:k % c=k-r*c:=by
    have:=Nat.div_add_mod k c;rw [hd] at this;rw [Nat.mul_comm] at this;omega
   rw [hd,hm];rfl
theorem zd7{r c k:Nat}{g:Z1}(hc:1<=c)(h:k<r*c):(zac r c g).getD k none=g (k / c) (k % c):=by
 rw [zcr,List.getD_eq_getElem?_getD,List.getElem?_map,zdR hc h];rfl
theorem zhQ{r c k:Nat}(hc:1<=c)(h:k<r*c):k / c<r:=Nat.div_lt_of_lt_mul (by rw [Nat.mul_comm];exact h)
theorem zjl{r c i j:Nat}(hi:i<r)(hj:j<c):i*c+j<r*c:=by
 have:=Nat.mul_le_mul_right c (show i+1<=r by omega);rw [Nat.succ_mul] at this;omega
theorem zg6{c i j:Nat}(hj:j<c):(i*c+j) / c=i/\(i*c+j) % c=j:=by
 have hc:0<c:=by omega
 constructor
 ·rw [Nat.mul_comm,Nat.mul_add_div hc,Nat.div_eq_of_lt hj,Nat.add_zero]
 ·rw [Nat.mul_comm,Nat.mul_add_mod,Nat.mod_eq_of_lt hj]
theorem zhZ{r c:Nat}{g:Z1}{t:List Int}(hc:1<=c):agG r c g t=true↔∀i j,i<r->j<c->okO (g i j) (t.getD (i*c+j) 0)=true:=by
 unfold agG agN;rw [List.all_eq_true];constructor
 ·intro h i j hi hj;have:=h (i*c+j) (List.mem_range.mpr (zjl hi hj));rw [zd7 hc (zjl hi hj),(zg6 hj).1,(zg6 hj).2] at this;exact this
 ·intro h k hk;have hk:=List.mem_range.mp hk;rw [zd7 hc hk];have:=h (k / c) (k % c) (zhQ hc hk) (Nat.mod_lt _ hc);rw [Nat.mul_comm,Nat.div_add_mod] at this;exact this
theorem zf1{o:Option Int}{x:Int}:okO o x=true↔o=none\/o=some x:=by
 cases o with
 | none=>simp [okO]
 | some y=>simp [okO]
structure RtL(ts:Z2)(c k:Nat)(t:List Int):Prop where
 len:t.length=k
 inr:InR ts t
 fit:∀i,i<k->zlB ts c (t.take i) (t.getD i 0)=true
theorem zfz{ts:Z2}{x:Int}:x∈zcL ts↔0<=x/\x<ts.length:=by
 unfold zcL;rw [List.mem_map];constructor
 ·rintro ⟨i,hi,rfl⟩;have:=List.mem_range.mp hi;omega
 ·intro h;exact ⟨x.toNat,List.mem_range.mpr (by omega),by omega⟩
theorem zeW{ts:Z2}{c:Nat}:∀{k:Nat} {t:List Int},t∈zaE ts [] c k↔RtL ts c k t
 | 0,t=>by
  constructor
  ·intro h;rw [List.mem_singleton.mp h];exact ⟨rfl,fun x hx=>(List.not_mem_nil hx).elim,fun i hi=>by omega⟩
  ·intro h;rw [List.eq_nil_of_length_eq_zero h.len];exact List.mem_singleton.mpr rfl
 | k+1,t=>by
  show t∈(zaE ts [] c k).flatMap _↔_;rw [List.mem_flatMap];constructor
  ·rintro ⟨u,hu,ht⟩;have R:=zeW.mp hu;unfold zdB at ht;obtain ⟨x,hx,rfl⟩:=List.mem_map.mp ht;obtain ⟨h1,h2⟩:=List.mem_filter.mp hx;rw [Bool.and_eq_true] at h2;have hx:=zfz.mp h1;refine ⟨by rw [List.length_append,R.len];rfl,fun y hy=>?_,fun i hi=>?_⟩
   ·rcases List.mem_append.mp hy with hy | hy
    ·exact R.inr y hy
    ·rw [List.mem_singleton.mp hy];exact hx
   ·by_cases z:i<k
    ·have e1:(u++[x]).take i=u.take i:=List.take_append_of_le_length (by rw [R.len];omega)
     have e2:(u++[x]).getD i 0=u.getD i 0:=by
      rw [List.getD_eq_getElem?_getD,List.getD_eq_getElem?_getD,List.getElem?_append_left (by rw [R.len];exact z)]
     rw [e1,e2];exact R.fit i z
    ·have hi':i=u.length:=by rw [R.len];omega
     subst hi'
     have e1:(u++[x]).take u.length=u:=by simp
     have e2:(u++[x]).getD u.length 0=x:=by
      rw [List.getD_eq_getElem?_getD,List.getElem?_append_right (Nat.le_refl _)];simp
     rw [e1,e2];exact h2.2
  ·intro R
   have hk:k<t.length:=by rw [R.len];omega
   have e:t=t.take k++[t.getD k 0]:=by
    have h1:t.getD k 0=t[k]:=by rw [List.getD_eq_getElem?_getD,List.getElem?_eq_getElem hk];rfl
    rw [h1,List.take_append_getElem hk,List.take_of_length_le (by rw [R.len];omega)]
   refine ⟨t.take k,zeW.mpr ⟨by rw [List.length_take,R.len];omega,fun x hx=>R.inr x (List.mem_of_mem_take hx),fun i hi=>?_⟩,?_⟩
   ·have h1:(t.take k).take i=t.take i:=by rw [List.take_take,Nat.min_eq_left (by omega)]
    have h2:(t.take k).getD i 0=t.getD i 0:=by
     rw [List.getD_eq_getElem?_getD,List.getD_eq_getElem?_getD,List.getElem?_take_of_lt hi]
    rw [h1,h2];exact R.fit i (by omega)
   ·have:t.take k++[t.getD k 0]∈zdB ts c none (t.take k):=by
     unfold zdB;refine List.mem_map.mpr ⟨t.getD k 0,List.mem_filter.mpr ⟨zfz.mpr ?_,?_⟩,rfl⟩
     ·have h1:t.getD k 0=t[k]:=by rw [List.getD_eq_getElem?_getD,List.getElem?_eq_getElem hk];rfl
      rw [h1];exact R.inr _ (List.getElem_mem hk)
     ·rw [R.fit k (by omega)];rfl
    rw [<-e] at this;exact this
theorem zeV{ts:Z2}{c:Nat}:∀{k:Nat},(zaE ts [] c k).Nodup
 | 0=>by simp [zaE]
 | k+1=>by
  show ((zaE ts [] c k).flatMap _).Nodup;have hl:∀t∈zaE ts [] c k,t.length=k:=fun t ht=>((zda k).mem t ht).1
  have hn:=zeV (ts:=ts) (c:=c) (k:=k);generalize zaE ts [] c k=F at hl hn
  have hN:(zcL ts).Nodup:=by
   unfold zcL;rw [List.nodup_iff_pairwise_ne,List.pairwise_map];refine List.Pairwise.imp ?_ List.nodup_range;intro a b h;omega
  induction F with
  | nil=>simp
  | cons t F ih =>
   rw [List.nodup_cons] at hn;rw [List.flatMap_cons,List.nodup_append];refine ⟨?_,ih (fun u hu=>hl u (List.mem_cons_of_mem _ hu)) hn.2,?_⟩
   ·unfold zdB;rw [List.nodup_iff_pairwise_ne,List.pairwise_map];refine List.Pairwise.imp ?_ (List.Pairwise.filter _ (List.nodup_iff_pairwise_ne.mp hN));intro a b h z;have:=List.append_cancel_left z;simp at this;exact h this
   ·intro a ha b hb e;subst e;unfold zdB at ha;obtain ⟨x,_,rfl⟩:=List.mem_map.mp ha;obtain ⟨u,hu,hb⟩:=List.mem_flatMap.mp hb;unfold zdB at hb;obtain ⟨y,_,e⟩:=List.mem_map.mp hb;have:=List.append_inj_left' e rfl;subst this;exact hn.1 hu
theorem zlw{ts:Z2}{r c:Nat}:(ztU ts r c).Nodup:=zeV
theorem zha{ts:Z2}{r c:Nat}{g:Z1}:(zbm ts r c g).Nodup:=by
 rw [zbF,List.nodup_iff_pairwise_ne];exact List.Pairwise.filter _ (List.nodup_iff_pairwise_ne.mp zlw)
theorem zjf{ts:Z2}{r c:Nat}{g:Z1}{t:List Int}:t∈zbm ts r c g↔RtL ts c (r*c) t/\agG r c g t=true:=by
 rw [zbF,List.mem_filter];show t∈zaE ts [] c (r*c)/\_↔_;rw [zeW]
structure RtG(ts:Z2)(r c:Nat)(G:Nat->Nat->Int):Prop where
 inr:∀i j,i<r->j<c->0<=G i j/\G i j<ts.length
 east:∀i j,i<r->j+1<c->zbp ts (G i j) 1=zbp ts (G i (j+1)) 3
 south:∀i j,i+1<r->j<c->zbp ts (G i j) 2=zbp ts (G (i+1) j) 0
def tnG(c:Nat)(t:List Int)(i j:Nat):Int:=t.getD (i*c+j) 0
def lsG(r c:Nat)(G:Nat->Nat->Int):List Int:=(zbK r c).map fun p=>G p.1 p.2
theorem zgT{r c:Nat}:(zbK r c).length=r*c:=by
 have:=zas (r:=r) (c:=c) (g:=fun _ _=>none);rw [zcr,List.length_map] at this;exact this
theorem zhD{r c:Nat}{G:Nat->Nat->Int}:(lsG r c G).length=r*c:=by unfold lsG;rw [List.length_map,zgT]
theorem zkF{r c k:Nat}{G:Nat->Nat->Int}(hc:1<=c)(h:k<r*c):(lsG r c G).getD k 0=G (k / c) (k % c):=by
 unfold lsG;rw [List.getD_eq_getElem?_getD,List.getElem?_map,zdR hc h];rfl
theorem znA{r c i j:Nat}{G:Nat->Nat->Int}(hi:i<r)(hj:j<c):tnG c (lsG r c G) i j=G i j:=by
 unfold tnG;rw [zkF (by omega) (zjl hi hj),(zg6 hj).1,(zg6 hj).2]
theorem zhC{r c:Nat}{t:List Int}(hc:1<=c)(hl:t.length=r*c):lsG r c (tnG c t)=t:=by
 apply List.ext_getElem?;intro k
 by_cases h:k<r*c
 ·have e1:(lsG r c (tnG c t))[k]?=some ((lsG r c (tnG c t)).getD k 0):=by
   rw [List.getD_eq_getElem?_getD,List.getElem?_eq_getElem (by rw [zhD];exact h)];rfl
  have e2:t[k]?=some (t.getD k 0):=by
   rw [List.getD_eq_getElem?_getD,List.getElem?_eq_getElem (by omega)];rfl
  rw [e1,e2,zkF hc h];unfold tnG;rw [Nat.mul_comm,Nat.div_add_mod]
 ·rw [List.getElem?_eq_none (by rw [zhD];omega),List.getElem?_eq_none (by omega)]
theorem zkG{r c:Nat}{G G':Nat->Nat->Int}(h:∀i j,i<r->j<c->G i j=G' i j):lsG r c G=lsG r c G':=by
 unfold lsG;apply List.map_congr_left;intro p hp;obtain ⟨h1,h2⟩:=zeS hp;exact h _ _ h1 h2
theorem zjL{t:List Int}{i j:Nat}(h:j<i):(t.take i).getD j 0=t.getD j 0:=by
 rw [List.getD_eq_getElem?_getD,List.getD_eq_getElem?_getD,List.getElem?_take_of_lt h]
theorem zjK{t:List Int}{i:Nat}(h:i<t.length)(h0:0<i):(t.take i).getLastD 0=t.getD (i-1) 0:=by
 rw [List.getLastD_eq_getLast?,List.getLast?_eq_getElem?,List.length_take,Nat.min_eq_left (by omega),List.getElem?_take_of_lt (by omega),List.getD_eq_getElem?_getD]
theorem ziJ{ts:Z2}{r c i j:Nat}{t:List Int}(hc:1<=c)(hl:t.length=r*c)(hi:i<r)(hj:j<c):zlB ts c (t.take (i*c+j)) (t.getD (i*c+j) 0)=true↔((0<j->zbp ts (tnG c t i (j-1)) 1=zbp ts (tnG c t i j) 3)/\(0<i->zbp ts (tnG c t (i-1) j) 2=zbp ts (tnG c t i j) 0)):=by
 have hk:=zjl hi hj
 have e1:(t.take (i*c+j)).length=i*c+j:=by rw [List.length_take];omega
 unfold zlB;rw [decide_eq_true_iff,e1,(zg6 hj).2]
 have a:0<j->(t.take (i*c+j)).getLastD 0=tnG c t i (j-1):=fun h=>by
  rw [zjK (by omega) (by omega)];unfold tnG;congr 1;omega
 have hmul:0<i->(i-1)*c+c=i*c:=fun h=>by
  have:i=(i-1)+1:=by omega
  conv=>rhs;rw [this,Nat.succ_mul]
 have b:0<i->(t.take (i*c+j)).getD (i*c+j-c) 0=tnG c t (i-1) j:=fun h=>by
  have:=hmul h;rw [zjL (by omega)];unfold tnG;congr 1;omega
 have cc:c<=i*c+j↔0<i:=by
  constructor
  ·intro h
   rcases Nat.eq_zero_or_pos i with z | z
   ·subst z;omega
   ·exact z
  ·intro h;have:=hmul h;omega
 rw [cc];constructor
 ·rintro ⟨x,y⟩;exact ⟨fun h=>by rw [<-a h];exact x h,fun h=>by rw [<-b h];exact y h⟩
 ·rintro ⟨x,y⟩;exact ⟨fun h=>by rw [a h];exact x h,fun h=>by rw [b h];exact y h⟩
theorem zn2{ts:Z2}{r c:Nat}{t:List Int}(hc:1<=c):RtL ts c (r*c) t↔t.length=r*c/\RtG ts r c (tnG c t):=by
 constructor
 ·intro R;have key:∀i j,i<r->j<c->_:=fun i j hi hj=>(ziJ hc R.len hi hj).mp (R.fit _ (zjl hi hj))
  refine ⟨R.len,⟨fun i j hi hj=>?_,fun i j hi hj=>?_,fun i j hi hj=>?_⟩⟩
  ·have hk:=zjl hi hj
   have e:tnG c t i j=t[i*c+j]'(by rw [R.len];exact hk):=by
    unfold tnG;rw [List.getD_eq_getElem?_getD,List.getElem?_eq_getElem (by rw [R.len];exact hk)];rfl
   rw [e];exact R.inr _ (List.getElem_mem _)
  ·exact (key i (j+1) hi hj).1 (by omega)
  ·exact (key (i+1) j hi hj).2 (by omega)
 ·rintro ⟨hl,G⟩;refine ⟨hl,fun x hx=>?_,fun k hk=>?_⟩
  ·obtain ⟨k,hk,rfl⟩:=List.mem_iff_getElem.mp hx
   have hk':k<r*c:=by omega
   have:=G.inr (k / c) (k % c) (zhQ hc hk') (Nat.mod_lt _ hc);unfold tnG at this;rw [Nat.mul_comm,Nat.div_add_mod,List.getD_eq_getElem?_getD,List.getElem?_eq_getElem hk] at this;exact this
  ·have hi:=zhQ hc hk;have hj:=Nat.mod_lt k hc;have:=(ziJ (ts:=ts) hc hl hi hj).mpr ⟨fun h=>by have:=G.east (k / c) (k % c-1) hi (by omega);rw [show k % c-1+1=k % c by omega] at this;exact this,fun h=>by have:=G.south (k / c-1) (k % c) (by omega) hj;rw [show k / c-1+1=k / c by omega] at this;exact this⟩;rw [Nat.mul_comm,Nat.div_add_mod] at this;exact this
theorem RtG.congr{ts:Z2}{r c:Nat}{G G':Nat->Nat->Int}(h:∀i j,i<r->j<c->G i j=G' i j)(R:RtG ts r c G):RtG ts r c G' where
 inr:=fun i j hi hj=>by rw [<-h i j hi hj];exact R.inr i j hi hj
 east:=fun i j hi hj=>by rw [<-h i j hi (by omega),<-h i (j+1) hi hj];exact R.east i j hi hj
 south:=fun i j hi hj=>by rw [<-h i j (by omega) hj,<-h (i+1) j hi hj];exact R.south i j hi hj
theorem zfA{ts:Z2}{r c:Nat}{g:Z1}{t:List Int}(hc:1<=c):t∈zbm ts r c g↔t.length=r*c/\RtG ts r c (tnG c t)/\∀i j,i<r->j<c->g i j=none\/g i j=some (tnG c t i j):=by
 rw [zjf,zn2 hc,zhZ hc,and_assoc];constructor
 ·rintro ⟨a,b,h⟩;exact ⟨a,b,fun i j hi hj=>zf1.mp (h i j hi hj)⟩
 ·rintro ⟨a,b,h⟩;exact ⟨a,b,fun i j hi hj=>zf1.mpr (h i j hi hj)⟩
theorem zje{ts:Z2}{r c:Nat}{g:Z1}{G:Nat->Nat->Int}(hc:1<=c):lsG r c G∈zbm ts r c g↔RtG ts r c G/\∀i j,i<r->j<c->g i j=none\/g i j=some (G i j):=by
 rw [zfA hc];have e:∀i j,i<r->j<c->tnG c (lsG r c G) i j=G i j:=fun i j hi hj=>znA hi hj
 constructor
 ·rintro ⟨_,b,h⟩;exact ⟨b.congr e,fun i j hi hj=>by rw [<-e i j hi hj];exact h i j hi hj⟩
 ·rintro ⟨b,h⟩;exact ⟨zhD,b.congr (fun i j hi hj=>(e i j hi hj).symm),fun i j hi hj=>by rw [e i j hi hj];exact h i j hi hj⟩
end S2
namespace S2
open PySem
open L2 hiding D
section
variable{ts:Z2}{r c:Nat}{g h:Z1}
end
theorem zgi{a b:Option Int}:cl2 a b=false↔∀x y,a=some x->b=some y->x=y:=by
 cases a<;>cases b<;>simp [cl2]
theorem zlh{ts:Z2}{r c:Nat}{g:Z1}:clL ts r c g=[]↔∀i j,i<r->j<c->cl2 (zbx ts r c g i j 1) (zbx ts r c g i (j+1) 3)=false/\cl2 (zbx ts r c g i j 2) (zbx ts r c g (i+1) j 0)=false:=by
 unfold clL;rw [List.flatMap_eq_nil_iff]
 have key:∀i j:Nat,clG ts r c g (plD i j)=[]↔cl2 (zbx ts r c g i j 1) (zbx ts r c g i (j+1) 3)=false/\cl2 (zbx ts r c g i j 2) (zbx ts r c g (i+1) j 0)=false:=by
  intro i j;unfold clG;simp only [plD,Int.toNat_natCast]
  by_cases a:cl2 (zbx ts r c g i j 1) (zbx ts r c g i (j+1) 3)=true<;>by_cases b:cl2 (zbx ts r c g i j 2) (zbx ts r c g (i+1) j 0)=true<;>simp [a,b]
 constructor
 ·intro h i j hi hj;exact (key i j).mp (h _ (zki hi hj))
 ·intro h d hd;obtain ⟨i,j,hi,hj,rfl⟩:=zcy hd;exact (key i j).mpr (h i j hi hj)
theorem zkb{ts:Z2}{r c:Nat}{G:Nat->Nat->Int}(hG:∀i j,i<r->j<c->0<=G i j/\G i j<ts.length):clL ts r c (fun i j=>some (G i j))=[]↔RtG ts r c G:=by
 rw [zlh]
 have e:∀i j s,i<r->j<c->zbx ts r c (fun i j=>some (G i j)) i j s=some (zbp ts (G i j) s):=fun i j s hi hj=>by unfold zbx;rw [if_pos ⟨hi,hj⟩];rfl
 have e':∀i j s,¬ (i<r/\j<c)->zbx ts r c (fun i j=>some (G i j)) i j s=none:=fun i j s h=>by unfold zbx;rw [if_neg h]
 constructor
 ·intro h;refine ⟨hG,fun i j hi hj=>?_,fun i j hi hj=>?_⟩
  ·have:=(h i j hi (by omega)).1;rw [e i j 1 hi (by omega),e i (j+1) 3 hi hj,zgi] at this;exact this _ _ rfl rfl
  ·have:=(h i j (by omega) hj).2;rw [e i j 2 (by omega) hj,e (i+1) j 0 hi hj,zgi] at this;exact this _ _ rfl rfl
 ·intro R i j hi hj;rw [zgi,zgi];constructor
  ·intro x y hx hy
   by_cases z:j+1<c
   ·rw [e i j 1 hi hj] at hx;rw [e i (j+1) 3 hi z] at hy;cases hx;cases hy;exact R.east i j hi z
   ·rw [e' i (j+1) 3 (fun w=>z w.2)] at hy;cases hy
  ·intro x y hx hy
   by_cases z:i+1<r
   ·rw [e i j 2 hi hj] at hx;rw [e (i+1) j 0 z hj] at hy;cases hx;cases hy;exact R.south i j z hj
   ·rw [e' (i+1) j 0 (fun w=>z w.1)] at hy;cases hy
theorem zk5{r c:Nat}{g h:Z1}:zjo r c g h=true↔∀i j,i<r->j<c->h i j=none\/g i j=h i j:=by
 unfold zjo;rw [decide_eq_true_iff];exact ⟨fun z i j hi hj=>z i hi j hj,fun z i hi j hj=>z i j hi hj⟩
theorem zht{ts:Z2}{r c:Nat}{g:Z1}{G:Nat->Nat->Int}(P:FP ts r c)(hG:∀i j,0<=G i j/\G i j<ts.length)(S:Sto):zcG [.tup (ts.map zao),flr r c g,flr r c fun i j=>some (G i j)] S=.ok (.bl (decide (lsG r c G∈zbm ts r c g))) S:=by
 have r6:=P.r6;have c6:=P.c6;have e1:=zih (g:=g) (h:=fun i j=>some (G i j)) (r':=r) (c':=c) (c:=c) (S:=S) P.r1 (by omega)
 have hin:InT ts fun i j=>some (G i j):=fun i j x hx=>by cases hx;exact hG i j
 have e2:=zj8 (g:=fun i j=>some (G i j)) (S:=S) (c:=c) P.ht hin P.r1 (by omega) (by omega);have e3:=zgD (g:=fun i j=>some (G i j)) (h:=g) (S:=S) (c:=c) P.r1 (by omega) (by omega)
 have hf:zjn r c (fun i j=>some (G i j))=true:=by unfold zjn;simp
 rw [hf,Bool.true_and] at e2;simp only [and_self,decide_true] at e1;have m:=zje (ts:=ts) (g:=g) (r:=r) (G:=G) P.c1;have rt:=zkb (ts:=ts) (r:=r) (c:=c) (G:=G) fun i j _ _=>hG i j
 have ft:=zk5 (r:=r) (c:=c) (g:=fun i j=>some (G i j)) (h:=g)
 by_cases hR:RtG ts r c G
 ·rw [decide_eq_true (rt.mpr hR)] at e2
  have:zjo r c (fun i j=>some (G i j)) g=decide (lsG r c G∈zbm ts r c g):=by
   rw [Bool.eq_iff_iff,ft,decide_eq_true_iff,m];constructor
   ·intro z;exact ⟨hR,fun i j hi hj=>(z i j hi hj).imp id Eq.symm⟩
   ·intro z i j hi hj;exact (z.2 i j hi hj).imp id Eq.symm
  rw [this] at e3;generalize flr r c g=fl at *;generalize flr r c (fun i j=>some (G i j))=fm at *;simp [zcG,zar,zdV,e1,e2,e3]
 ·rw [decide_eq_false (fun z=>hR (rt.mp z))] at e2;rw [decide_eq_false (fun z=>hR (m.mp z).1)];generalize flr r c g=fl at *;generalize flr r c (fun i j=>some (G i j))=fm at *;simp [zcG,zar,zdV,e1,e2]
end S2
namespace S2
open PySem
open L2 hiding D
section
variable{ts:Z2}{r c:Nat}{g h:Z1}
theorem zkw{α:Type}{t:α}:∀{l:List α},l.Nodup->t∈l->(∀u∈l,u=t)->l=[t]
 | [],_,h,_=>(List.not_mem_nil h).elim
 | [u],_,_,h=>by rw [h u List.mem_cons_self]
 | u::v::l,n,_,h=>by
  have h1:=h u List.mem_cons_self;have h2:=h v (List.mem_cons_of_mem _ List.mem_cons_self);rw [List.nodup_cons] at n;exact absurd (by rw [h1,<-h2];exact List.mem_cons_self) n.1
theorem zez{t:List Int}(hc:1<=c)(ht:t∈zbm ts r c g):t.length=r*c:=((zfA hc).mp ht).1
theorem zpy{t u:List Int}(hc:1<=c)(ht:t.length=r*c)(hu:u.length=r*c)(h:∀i j,i<r->j<c->tnG c t i j=tnG c u i j):t=u:=by
 rw [<-zhC hc ht,<-zhC hc hu];exact zkG h
end
end S2
namespace S2
open PySem
open L2 hiding D
theorem zkB{ns:List Int}{x:Int}(h:x∈ns):zfh ns<=x:=by
 obtain ⟨j,hj,e⟩:=List.mem_iff_getElem.mp h;have:=(argBest_lt (fun i=>ns.getD i 0) (ns.length-1)).2 j (by omega);rw [List.getD_eq_getElem?_getD (l:=ns) (i:=j),List.getElem?_eq_getElem hj] at this;rw [<-e];exact this
def zcD(l:List Int):Option (Int×Int):=if l.isEmpty then none else some (zfh l,((l.countP fun x=>decide (x=zfh l):Nat):Int))
theorem zdZ{l:List Int}:zcD l=none↔l=[]:=by
 unfold zcD
 cases l with
 | nil=>simp
 | cons a l=>simp
theorem zcu{l:List Int}{m n:Int}:zcD l=some (m,n)↔m∈l/\(∀x∈l,m<=x)/\n=((l.countP fun x=>decide (x=m):Nat):Int):=by
 unfold zcD;constructor
 ·intro h;split at h
  ·cases h
  ·rename_i hne;have hne':l≠[]:=fun z=>hne (by rw [z];rfl)
   have h':=Option.some.inj h;have e1:zfh l=m:=congrArg Prod.fst h';have e2:=congrArg Prod.snd h';subst e1;exact ⟨zeC l hne',fun x hx=>zkB hx,e2.symm⟩
 ·rintro ⟨h1,h2,h3⟩;have hne:l≠[]:=List.ne_nil_of_mem h1;have:zfh l=m:=Int.le_antisymm (zkB h1) (h2 _ (zeC l hne))
  have he:l.isEmpty=false:=by cases l with | nil=>exact absurd rfl hne | cons _ _=>rfl
  rw [he,this,h3];rfl
def lbP(ps:List (Int×Int)):Option (Int×Int):=if ps.isEmpty then none else some (zfh (ps.map (·.1)),((ps.filter fun o=>decide (o.1=zfh (ps.map (·.1)))).map (·.2)).sum)
theorem zte(os:List Off):lbo os=lbP (os.map fun o=>(o.1,o.2.1)):=by
 unfold lbo lbP;rw [List.map_map,List.filter_map,List.map_map]
 cases os<;>rfl
theorem zfK{α:Type}{f:α->List Int}{m:Int}:∀{xs:List α},(∀x∈xs,∀y∈f x,m<=y)->((((xs.filterMap fun x=>zcD (f x)).filter fun o=>decide (o.1=m)).map (·.2)).sum)=(((xs.flatMap f).countP fun y=>decide (y=m):Nat):Int)
 | [],_=>rfl
 | x::xs,h=>by
  have ih:=zfK (f:=f) (m:=m) (xs:=xs) fun y hy=>h y (List.mem_cons_of_mem _ hy)
  rw [List.flatMap_cons,List.countP_append,Int.natCast_add,<-ih,List.filterMap_cons]
  cases hb:zcD (f x) with
  | none =>
   rw [zdZ.mp hb];simp
  | some q =>
   obtain ⟨q1,q2⟩:=q;obtain ⟨b1,b2,b3⟩:=zcu.mp hb;dsimp only;rw [List.filter_cons]
   by_cases e:q1=m
   ·subst e;simp only [decide_true,if_true,List.map_cons,List.sum_cons];rw [b3]
   ·rw [decide_eq_false e]
    have hc:(f x).countP (fun y=>decide (y=m))=0:=by
     rw [List.countP_eq_zero];intro y hy hd;have:=of_decide_eq_true hd;subst this;have h1:=b2 y hy;have h2:=h x List.mem_cons_self q1 b1;omega
    rw [hc];simp
theorem zlq{α:Type}{f:α->List Int}{xs:List α}:lbP (xs.filterMap fun x=>zcD (f x))=zcD (xs.flatMap f):=by
 by_cases hne:xs.filterMap (fun x=>zcD (f x))=[]
 ·rw [hne]
  have:xs.flatMap f=[]:=by
   rw [List.flatMap_eq_nil_iff];intro x hx;rw [List.filterMap_eq_nil_iff] at hne;exact zdZ.mp (hne x hx)
  rw [this];rfl
 ·have hm:=zeC ((xs.filterMap fun x=>zcD (f x)).map (·.1)) (fun z=>hne (List.map_eq_nil_iff.mp z))
  have hle:∀x∈xs,∀y∈f x,zfh ((xs.filterMap fun x=>zcD (f x)).map (·.1))<=y:=by
   intro x hx y hy
   cases hb:zcD (f x) with
   | none=>rw [zdZ.mp hb] at hy;exact (List.not_mem_nil hy).elim
   | some q =>
    obtain ⟨q1,q2⟩:=q;have:q1∈(xs.filterMap fun x=>zcD (f x)).map (·.1):=List.mem_map.mpr ⟨(q1,q2),List.mem_filterMap.mpr ⟨x,hx,hb⟩,rfl⟩;exact Int.le_trans (zkB this) ((zcu.mp hb).2.1 y hy)
  have hc:=zfK hle;unfold lbP
  have he:(xs.filterMap fun x=>zcD (f x)).isEmpty=false:=by cases h:xs.filterMap fun x=>zcD (f x) with | nil=>exact absurd h hne | cons _ _=>rfl
  rw [he,hc];symm;refine zcu.mpr ⟨?_,fun y hy=>?_,rfl⟩
  ·obtain ⟨q,hq,e⟩:=List.mem_map.mp hm;obtain ⟨x,hx,hb⟩:=List.mem_filterMap.mp hq;obtain ⟨q1,q2⟩:=q;rw [<-e];exact List.mem_flatMap.mpr ⟨x,hx,(zcu.mp hb).1⟩
  ·obtain ⟨x,hx,hy⟩:=List.mem_flatMap.mp hy;exact hle x hx y hy
theorem zjx{l:List Int}{a:Int}:zcD (l.map (a+·))=(zcD l).map fun q=>(a+q.1,q.2):=by
 cases hb:zcD l with
 | none=>rw [zdZ.mp hb];rfl
 | some q =>
  obtain ⟨q1,q2⟩:=q;obtain ⟨b1,b2,b3⟩:=zcu.mp hb;refine zcu.mpr ⟨List.mem_map.mpr ⟨q1,b1,rfl⟩,fun y hy=>?_,?_⟩
  ·obtain ⟨x,hx,rfl⟩:=List.mem_map.mp hy;have:=b2 x hx;show a+q1<=a+x;omega
  ·rw [List.countP_map];show q2=_;rw [b3];congr 2;funext x;show _=decide (a+x=a+q1);congr 1;exact propext ⟨fun z=>by omega,fun z=>by omega⟩
theorem zfF{α β:Type}{f g:α->Option β}:∀{l:List α},(∀x∈l,f x=g x)->l.filterMap f=l.filterMap g
 | [],_=>rfl
 | x::l,h=>by rw [List.filterMap_cons,List.filterMap_cons,h x List.mem_cons_self,zfF fun y hy=>h y (List.mem_cons_of_mem _ hy)]
def zee(la:Z4)(we:List Int):Nat->List Int->Int
 | _,[]=>0
 | k,x::u=>zbf (la.getD k none) (we.getD k 0) x+zee la we (k+1) u
section
variable{ts:Z2}{gr la:Z4}{we:List Int}{c:Nat}
theorem znr(hc:1<=c)(hg:∀o∈gr,∀x,o=some x->0<=x/\x<ts.length){t:List Int}{s:Z4}(h:SeamOk ts gr.length c t s)(hk:t.length<gr.length):chs ts gr c false t.length s=(xsT ts c (gr.getD t.length none) t).map fun x=>(x,zhn ts gr.length c false t.length s x):=by
 have ho:∀x,gr.getD t.length none=some x->0<=x/\x<ts.length:=by
  rw [List.getD_eq_getElem?_getD,List.getElem?_eq_getElem hk];exact hg _ (List.getElem_mem hk)
 unfold chs xsT;rw [zfx ho];congr 2;funext x;exact ziK h hc hk
theorem zkJ(hc:1<=c)(hg:∀o∈gr,∀x,o=some x->0<=x/\x<ts.length):∀m t s,SeamOk ts gr.length c t s->t.length+m=gr.length->lfS ts gr la we c m t.length s=zcD ((zi4 ts gr c m t).map (zee la we t.length))
 | 0,t,s,_,_=>by
  symm;exact zcu.mpr ⟨by simp [zi4,zee],fun x hx=>by simp [zi4,zee] at hx;omega,by simp [zi4,zee]⟩
 | m+1,t,s,h,hl=>by
  have hk:t.length<gr.length:=by omega
  show lbo ((chs ts gr c false t.length s).filterMap fun p=>(lfS ts gr la we c m (t.length+1) p.2).map fun q=>(zbf (la.getD t.length none) (we.getD t.length 0) p.1+q.1,q.2,p.1,p.2))=zcD (((xsT ts c (gr.getD t.length none) t).flatMap fun x=>(zi4 ts gr c m (t++[x])).map (x::·)).map (zee la we t.length));rw [zte,List.map_filterMap,znr hc hg h hk,List.filterMap_map,List.map_flatMap,<-zlq];congr 1;apply zfF;intro x _;have ih:=zkJ hc hg m (t++[x]) _ (h.next (x:=x) hc) (by rw [List.length_append,List.length_singleton];omega);rw [List.length_append,List.length_singleton] at ih;show ((lfS ts gr la we c m (t.length+1) (zhn ts gr.length c false t.length s x)).map _).map _=_;rw [ih]
  have e:((zi4 ts gr c m (t++[x])).map (x::·)).map (zee la we t.length)=((zi4 ts gr c m (t++[x])).map (zee la we (t.length+1))).map (zbf (la.getD t.length none) (we.getD t.length 0) x+·):=by
   rw [List.map_map,List.map_map];rfl
  rw [e,zjx,Option.map_map];rfl
theorem zgS(hc:1<=c)(hg:∀o∈gr,∀x,o=some x->0<=x/\x<ts.length):∀m t s u,SeamOk ts gr.length c t s->t.length+m=gr.length->zcK ts gr la we c m t.length s=some u->u∈zi4 ts gr c m t/\∃q,lfS ts gr la we c m t.length s=some q/\zee la we t.length u=q.1
 | 0,t,s,u,_,_,h=>by
  cases h;exact ⟨List.mem_singleton.mpr rfl,(0,1),rfl,rfl⟩
 | m+1,t,s,u,h,hl,hp=>by
  have hk:t.length<gr.length:=by omega
  have hp':(lfS ts gr la we c (m+1) t.length s).bind (fun q=>(((zdg ts gr la we c m t.length (chs ts gr c false t.length s)).filter fun o=>decide (o.1=q.1))[0]?).bind fun o=>(zcK ts gr la we c m (t.length+1) o.2.2.2).map (o.2.2.1::·))=some u:=hp
  cases hq:lfS ts gr la we c (m+1) t.length s with
  | none=>rw [hq] at hp';cases hp'
  | some q =>
   rw [hq] at hp'
   cases ho:((zdg ts gr la we c m t.length (chs ts gr c false t.length s)).filter fun o=>decide (o.1=q.1))[0]? with
   | none =>
    have hp2:(((zdg ts gr la we c m t.length (chs ts gr c false t.length s)).filter fun o=>decide (o.1=q.1))[0]?).bind _=some u:=hp';rw [ho] at hp2;cases hp2
   | some o =>
    have hp2:(((zdg ts gr la we c m t.length (chs ts gr c false t.length s)).filter fun o=>decide (o.1=q.1))[0]?).bind _=some u:=hp';rw [ho] at hp2;have hp3:(zcK ts gr la we c m (t.length+1) o.2.2.2).map (o.2.2.1::·)=some u:=hp2;obtain ⟨hm,hd⟩:=List.mem_filter.mp (List.mem_of_getElem? ho);have hd:=of_decide_eq_true hd;obtain ⟨p,hpm,e⟩:=List.mem_filterMap.mp hm;rw [znr hc hg h hk] at hpm;obtain ⟨x,hx,rfl⟩:=List.mem_map.mp hpm
    cases hl2:lfS ts gr la we c m (t.length+1) (zhn ts gr.length c false t.length s x) with
    | none=>dsimp only at e;rw [hl2] at e;cases e
    | some q' =>
     dsimp only at e;rw [hl2] at e;cases e
     cases hv:zcK ts gr la we c m (t.length+1) (zhn ts gr.length c false t.length s x) with
     | none=>dsimp only at hp3;rw [hv] at hp3;cases hp3
     | some v =>
      dsimp only at hp3;rw [hv] at hp3;cases hp3;have ih:=zgS hc hg m (t++[x]) _ v (h.next (x:=x) hc) (by rw [List.length_append,List.length_singleton];omega);rw [List.length_append,List.length_singleton] at ih;obtain ⟨i1,q2,i2,i3⟩:=ih hv;rw [hl2] at i2;cases i2;refine ⟨List.mem_flatMap.mpr ⟨x,hx,List.mem_map.mpr ⟨v,i1,rfl⟩⟩,q,rfl,?_⟩;show zbf (la.getD t.length none) (we.getD t.length 0) x+zee la we (t.length+1) v=q.1;rw [i3,<-hd]
end
def zbT(r c:Nat)(g:Z1)(w:Nat->Nat->Int)(G:Nat->Nat->Int):Int:=((zbK r c).map fun p=>zbf (g p.1 p.2) (w p.1 p.2) (G p.1 p.2)).sum
theorem zhc{la:Z4}{we:List Int}:∀(u:List Int) (k:Nat),zee la we k u=((List.range u.length).map fun i=>zbf (la.getD (k+i) none) (we.getD (k+i) 0) (u.getD i 0)).sum
 | [],k=>rfl
 | x::u,k=>by
  show zbf _ _ x+zee la we (k+1) u=_;rw [zhc u (k+1),List.length_cons,List.range_succ_eq_map,List.map_cons,List.sum_cons,List.map_map];congr 2;apply List.map_congr_left;intro i _;show _=zbf (la.getD (k+(i+1)) none) (we.getD (k+(i+1)) 0) (u.getD i 0);rw [show k+1+i=k+(i+1) by omega]
theorem zhz{r c:Nat}(hc:1<=c):zbK r c=(List.range (r*c)).map fun k=>(k / c,k % c):=by
 apply List.ext_getElem?;intro k
 by_cases h:k<r*c
 ·rw [zdR hc h,List.getElem?_map,List.getElem?_range h];rfl
 ·rw [List.getElem?_eq_none (by rw [zgT];omega),List.getElem?_eq_none (by rw [List.length_map,List.length_range];omega)]
theorem zps{r c k:Nat}{w:Nat->Nat->Int}(hc:1<=c)(h:k<r*c):(weL r c w).getD k 0=w (k / c) (k % c):=by
 unfold weL;rw [List.getD_eq_getElem?_getD,List.getElem?_map,zdR hc h];rfl
theorem zlb{r c:Nat}{g:Z1}{w:Nat->Nat->Int}{t:List Int}(hc:1<=c)(hl:t.length=r*c):zee (zac r c g) (weL r c w) 0 t=zbT r c g w (tnG c t):=by
 rw [zhc,hl];unfold zbT;rw [zhz hc,List.map_map];congr 1;apply List.map_congr_left;intro k hk;have hk:=List.mem_range.mp hk;rw [Nat.zero_add,zd7 hc hk,zps hc hk];show _=zbf (g (k / c) (k % c)) (w (k / c) (k % c)) (t.getD (k / c*c+k % c) 0);rw [Nat.mul_comm,Nat.div_add_mod]
section
variable{ts:Z2}{r c:Nat}{g:Z1}{w:Nat->Nat->Int}
abbrev rights(ts:Z2)(r c:Nat):List (List Int):=zbm ts r c fun _ _=>none
theorem zfC(hc:1<=c):zbZ ts r c g w=zcD ((rights ts r c).map fun t=>zbT r c g w (tnG c t)):=by
 have h:=zkJ (ts:=ts) (gr:=zac r c fun _ _=>none) (la:=zac r c g) (we:=weL r c w) (c:=c) hc (zcN zdA) (r*c) [] (List.replicate (c+2) none) (by rw [zas];exact SeamOk.first) (by rw [zas];simp);unfold zbZ;have h':lfS ts (zac r c fun _ _=>none) (zac r c g) (weL r c w) c (r*c) 0 (List.replicate (c+2) none)=_:=h;rw [h',<-zg9];congr 1;apply List.map_congr_left;intro t ht;exact zlb hc (zez hc (g:=fun _ _=>none) ht)
theorem zjj(hc:1<=c):zbZ ts r c g w=none↔rights ts r c=[]:=by
 rw [zfC hc,zdZ,List.map_eq_nil_iff]
theorem zc7(hc:1<=c){m n:Int}:zbZ ts r c g w=some (m,n)↔(∃t∈rights ts r c,zbT r c g w (tnG c t)=m)/\(∀t∈rights ts r c,m<=zbT r c g w (tnG c t))/\n=(((rights ts r c).countP fun t=>decide (zbT r c g w (tnG c t)=m):Nat):Int):=by
 rw [zfC hc,zcu,List.mem_map,List.countP_map];constructor
 ·rintro ⟨a,b,d⟩;exact ⟨a,fun t ht=>b _ (List.mem_map.mpr ⟨t,ht,rfl⟩),d⟩
 ·rintro ⟨a,b,d⟩;refine ⟨a,fun x hx=>?_,d⟩;obtain ⟨t,ht,rfl⟩:=List.mem_map.mp hx;exact b t ht
theorem zgY(hc:1<=c){q:Int×Int}(h:zbZ ts r c g w=some q):zf7 ts r c g w∈rights ts r c/\zbT r c g w (tnG c (zf7 ts r c g w))=q.1:=by
 have h0:lfS ts (zac r c fun _ _=>none) (zac r c g) (weL r c w) c (r*c) 0 (List.replicate (c+2) none)=some q:=h;obtain ⟨u,hu,_⟩:=zfu (ts:=ts) (gr:=zac r c fun _ _=>none) (la:=zac r c g) (we:=weL r c w) hc (r*c) 0 (List.replicate (c+2) none) q (List.length_replicate ..) h0
 have e:zf7 ts r c g w=u:=by unfold zf7;rw [hu];rfl
 rw [e];have h1:=zgS (ts:=ts) (gr:=zac r c fun _ _=>none) (la:=zac r c g) (we:=weL r c w) (c:=c) hc (zcN zdA) (r*c) [] (List.replicate (c+2) none) u (by rw [zas];exact SeamOk.first) (by rw [zas];simp) hu;obtain ⟨h2,q',h3,h4⟩:=h1;have h3':lfS ts (zac r c fun _ _=>none) (zac r c g) (weL r c w) c (r*c) 0 (List.replicate (c+2) none)=some q':=h3;rw [h0] at h3';cases h3';rw [<-zg9] at h2;have h2':u∈rights ts r c:=h2;refine ⟨h2',?_⟩;rw [<-h4,<-zlb (g:=g) (w:=w) hc (zez hc h2')];rfl
end
end S2
namespace S2
open PySem
open L2 hiding D
theorem zhT{o:Option Int}{w x:Int}(hw:0<=w):0<=zbf o w x:=by
 unfold zbf;split
 ·omega
 ·split<;>omega
theorem zoY{o:Option Int}{w x:Int}(hw:0<=w):zbf o w x<=w:=by
 unfold zbf;split
 ·omega
 ·split<;>omega
theorem zib{l:List Int}(h:∀x∈l,0<=x):0<=l.sum/\(l.sum=0↔∀x∈l,x=0):=by
 induction l with
 | nil=>simp
 | cons a l ih =>
  obtain ⟨h1,h2⟩:=ih fun x hx=>h x (List.mem_cons_of_mem _ hx)
  have ha:=h a List.mem_cons_self;rw [List.sum_cons];refine ⟨by omega,?_⟩;constructor
  ·intro z x hx
   rcases List.mem_cons.mp hx with rfl | hx
   ·omega
   ·exact (h2.mp (by omega)) x hx
  ·intro z;rw [z a List.mem_cons_self,h2.mpr fun x hx=>z x (List.mem_cons_of_mem _ hx)];rfl
section
variable{ts:Z2}{r c:Nat}{g:Z1}{w:Nat->Nat->Int}{G:Nat->Nat->Int}
theorem zmb{i j:Nat}(hi:i<r)(hj:j<c):(i,j)∈zbK r c:=by
 unfold zbK;exact List.mem_flatMap.mpr ⟨i,List.mem_range.mpr hi,List.mem_map.mpr ⟨j,List.mem_range.mpr hj,rfl⟩⟩
theorem ziP(hw:∀i j,0<=w i j):0<=zbT r c g w G:=by
 unfold zbT;refine (zib fun x hx=>?_).1;obtain ⟨p,_,rfl⟩:=List.mem_map.mp hx;exact zhT (hw _ _)
theorem zfL(hw:∀i j,1<=w i j):zbT r c g w G=0↔∀i j,i<r->j<c->g i j=none\/g i j=some (G i j):=by
 unfold zbT
 rw [(zib fun x hx=>by
  obtain ⟨p,_,rfl⟩:=List.mem_map.mp hx
  exact zhT (by have:=hw p.1 p.2;omega)).2]
 have key:∀i j,zbf (g i j) (w i j) (G i j)=0↔g i j=none\/g i j=some (G i j):=by
  intro i j;have:=hw i j;unfold zbf
  cases hg:g i j with
  | none=>simp
  | some y =>
   dsimp only
   by_cases e:y=G i j
   ·rw [if_pos e,e];simp
   ·rw [if_neg e];constructor
    ·intro z;omega
    ·rintro (z | z)
     ·cases z
     ·exact absurd (Option.some.inj z) e
 constructor
 ·intro h i j hi hj;exact (key i j).mp (h _ (List.mem_map.mpr ⟨(i,j),zmb hi hj,rfl⟩))
 ·intro h x hx;obtain ⟨p,hp,rfl⟩:=List.mem_map.mp hx;obtain ⟨h1,h2⟩:=zeS hp;exact (key _ _).mpr (h _ _ h1 h2)
theorem zdn:zbT r c (fun _ _=>none) w G=0:=by
 unfold zbT
 have:∀l:List (Nat×Nat),(l.map fun p=>zbf none (w p.1 p.2) (G p.1 p.2)).sum=0:=by
  intro l
  induction l with
  | nil=>rfl
  | cons p l ih=>rw [List.map_cons,List.sum_cons,ih];rfl
 exact this _
theorem zhU{g':Z1}{w':Nat->Nat->Int}{G':Nat->Nat->Int}(h:∀i j,i<r->j<c->zbf (g i j) (w i j) (G i j)=zbf (g' i j) (w' i j) (G' i j)):zbT r c g w G=zbT r c g' w' G':=by
 unfold zbT;congr 1;apply List.map_congr_left;intro p hp;obtain ⟨h1,h2⟩:=zeS hp;exact h _ _ h1 h2
end
section
variable{ts:Z2}{r c:Nat}{g h:Z1}{w v:Nat->Nat->Int}
theorem zfD(hc:1<=c)(hne:rights ts r c≠[]):zbZ ts r c (fun _ _=>none) w=some (0,((rights ts r c).length:Int)):=by
 refine (zc7 hc).mpr ⟨?_,fun t _=>?_,?_⟩
 ·obtain ⟨t,ht⟩:=List.exists_mem_of_ne_nil _ hne;exact ⟨t,ht,zdn⟩
 ·rw [zdn];exact Int.le_refl _
 ·congr 1;symm;rw [List.countP_eq_length];intro t _;exact decide_eq_true zdn
theorem zoZ(hc:1<=c)(hw:∀i j,1<=w i j){t:List Int}:zbT r c g w (tnG c t)=0↔agG r c g t=true:=by
 rw [zfL hw,zhZ hc];constructor
 ·intro h i j hi hj;exact zf1.mpr (h i j hi hj)
 ·intro h i j hi hj;exact zf1.mp (h i j hi hj)
theorem zfs(hc:1<=c):rights ts r c=ztU ts r c:=by
 show zbm ts r c _=_;rw [zbF,List.filter_eq_self];intro t _;exact (zhZ hc).mpr fun _ _ _ _=>rfl
theorem zeb(hc:1<=c)(hw:∀i j,1<=w i j):(zbm ts r c g).length=(rights ts r c).countP fun t=>decide (zbT r c g w (tnG c t)=0):=by
 rw [zbF,zfs hc,List.countP_eq_length_filter];congr 2;funext t;rw [Bool.eq_iff_iff,decide_eq_true_iff,zoZ hc hw]
theorem zfB(hc:1<=c)(hw:∀i j,1<=w i j){a b:Int}(hl:zbZ ts r c g w=some (a,b)):(a=0↔0<(zbm ts r c g).length)/\(a=0->b=((zbm ts r c g).length:Int))/\0<=a:=by
 obtain ⟨⟨t,ht,e⟩,h2,h3⟩:=(zc7 hc).mp hl
 have hnn:0<=a:=by rw [<-e];exact ziP fun i j=>by have:=hw i j;omega
 refine ⟨⟨fun z=>?_,fun z=>?_⟩,fun z=>?_,hnn⟩
 ·subst z;rw [zeb hc hw,List.countP_pos_iff];exact ⟨t,ht,decide_eq_true e⟩
 ·rw [zeb hc hw,List.countP_pos_iff] at z;obtain ⟨u,hu,hd⟩:=z;have:=h2 u hu;have:=of_decide_eq_true hd;omega
 ·subst z;rw [h3,zeb hc hw]
theorem zhF(hc:1<=c)(hw:∀i j,1<=w i j){t:List Int}(ht:t∈rights ts r c):zbZ ts r c (zaO c t) w=some (0,1)/\zf7 ts r c (zaO c t) w=t:=by
 have hz:∀u∈rights ts r c,zbT r c (zaO c t) w (tnG c u)=0↔u=t:=by
  intro u hu;rw [zfL hw];constructor
  ·intro z;refine zpy hc (zez hc hu) (zez hc ht) fun i j hi hj=>?_
   rcases z i j hi hj with y | y
   ·cases y
   ·exact (Option.some.inj y).symm
  ·rintro rfl i j _ _;exact .inr rfl
 have hl:zbZ ts r c (zaO c t) w=some (0,1):=by
  refine (zc7 hc).mpr ⟨⟨t,ht,(hz t ht).mpr rfl⟩,fun u _=>ziP fun i j=>by have:=hw i j;omega,?_⟩
  have:(rights ts r c).countP (fun u=>decide (zbT r c (zaO c t) w (tnG c u)=0))=1:=by
   rw [List.countP_eq_length_filter]
   have:(rights ts r c).filter (fun u=>decide (zbT r c (zaO c t) w (tnG c u)=0))=[t]:=by
    refine zkw ?_ (List.mem_filter.mpr ⟨ht,decide_eq_true ((hz t ht).mpr rfl)⟩) fun u hu=>?_
    ·rw [List.nodup_iff_pairwise_ne];exact List.Pairwise.filter _ (List.nodup_iff_pairwise_ne.mp zha)
    ·obtain ⟨u1,u2⟩:=List.mem_filter.mp hu;exact (hz u u1).mp (of_decide_eq_true u2)
   rw [this];rfl
  rw [this];rfl
 refine ⟨hl,?_⟩;obtain ⟨m1,m2⟩:=zgY hc hl;exact (hz _ m1).mp m2
end
end S2
namespace S2
open PySem
open L2 hiding D
section
variable{ts:Z2}{r c:Nat}{g h s:Z1}{w:Nat->Nat->Int}{G:Nat->Nat->Int}
open Classical in
end
end S2
namespace S2
open PySem
open L2 hiding D
theorem zkY{l:List Int}:zbL (l.map D.int)=some l:=by
 induction l with
 | nil=>rfl
 | cons x l ih=>simp [zbL,ih]
def zlc(g:Z1)(w G:Nat->Nat->Int):D->D | .tup [.int i,.int j]=>.int (zbf (g i.toNat j.toNat) (w i.toNat j.toNat) (G i.toNat j.toNat)) | _=>.non
theorem ziQ{g:Z1}{w G:Nat->Nat->Int}{i j:Nat}:zlc g w G (plD i j)=.int (zbf (g i j) (w i j) (G i j)):=by
 show D.int (zbf (g ((i:Int)).toNat ((j:Int)).toNat) (w ((i:Int)).toNat ((j:Int)).toNat) (G ((i:Int)).toNat ((j:Int)).toNat))=_;rw [Int.toNat_natCast,Int.toNat_natCast]
theorem zgN{r c:Nat}:zco r c=(zbK r c).map fun p=>plD p.1 p.2:=by
 unfold zco zbK;rw [List.map_flatMap];congr 1;funext i;rw [List.map_map];rfl
theorem fm1{α β:Type}{f:α->β}:∀{l:List α},l.flatMap (fun d=>[f d])=l.map f
 | []=>rfl
 | x::l=>by rw [List.flatMap_cons,fm1];rfl
theorem zhv{r c:Nat}{g:Z1}{w G:Nat->Nat->Int}{S:Sto}(h1:1<=r)(hc1:1<=c)(hr:r<=10)(hc:c<=10)(hw:∀i j,0<=w i j/\w i j<=1000) :
  zc5 [flr r c g,flr r c fun i j=>some (w i j),flr r c fun i j=>some (G i j)] S=.ok (.int (zbT r c g w G)) S:=by
 have u1:=zcP (r:=r) (c:=c) (g:=g) (h:=fun i j=>some (w i j)) (S:=S) h1 (by omega);have u2:=zcP (r:=r) (c:=c) (g:=g) (h:=fun i j=>some (G i j)) (S:=S) h1 (by omega);have pl:=zbN (r:=r) (c:=c) (g:=g) (S:=S) h1 (by omega) (by omega)
 have hlen:(zco r c).length<=1000:=by rw [zdz];exact Nat.le_trans (Nat.mul_le_mul hr hc) (by decide)
 have hmem:∀d∈zco r c,∃i j,i<r/\j<c/\d=plD i j:=fun d hd=>zcy hd
 obtain ⟨x',e⟩:=zex (tg:=.one 4) (body:=zdI) (S:=S) (fun L (x:Option (Bool×D))=>[some (false,flr r c g),some (false,flr r c fun i j=>some (w i j)),some (false,flr r c fun i j=>some (G i j)),some (true,.lst L),x]) (fun d=>[zlc g w G d]) 50000 (ds:=zco r c) (by
  intro d hd L x hL;obtain ⟨i,j,hi,hj,rfl⟩:=hmem d hd;refine ⟨_,some (false,plD i j),rfl,?_⟩;have n1:=zbd (g:=g) (S:=S) hi hj;have n2:=zbd (g:=fun i j=>some (w i j)) (S:=S) hi hj;have n3:=zbd (g:=fun i j=>some (G i j)) (S:=S) hi hj;have ca:=zeM (o:=g i j) (w:=w i j) (x:=G i j) (S:=S);rw [ziQ];have hL':L.length+1<=50000:=hL;simp only [oD] at n2 n3;generalize oD (g i j)=o at *;generalize flr r c g=f1 at *;generalize flr r c (fun i j=>some (w i j))=f2 at *;generalize flr r c (fun i j=>some (G i j))=f3 at *
  have hL2:L.length<=100000:=by omega
  simp [zdI,n1,n2,n3,ca,hL2]) [] none (by rw [fm1];simp;omega)
 rw [fm1,List.nil_append] at e
 have hs:zlJ [.lst ((zco r c).map fun d=>zlc g w G d)]=some (.int (zbT r c g w G)):=by
  have em:((zco r c).map fun d=>zlc g w G d)=((zbK r c).map fun p=>zbf (g p.1 p.2) (w p.1 p.2) (G p.1 p.2)).map D.int:=by
   rw [zgN,List.map_map,List.map_map];apply List.map_congr_left;intro p _;exact ziQ
  rw [em];show (zbL _).bind _=_;rw [zkY];show (if _ then some (D.int _) else none)=_;rw [if_pos]
  ·rfl
  ·rw [Bool.and_eq_true];refine ⟨decide_eq_true (by rw [List.length_map];rw [zgN,List.length_map] at hlen;exact hlen),?_⟩;rw [List.all_eq_true];intro x hx;obtain ⟨p,_,rfl⟩:=List.mem_map.mp hx;have h2:=hw p.1 p.2;have a1:=zhT (o:=g p.1 p.2) (x:=G p.1 p.2) h2.1;have a2:=zoY (o:=g p.1 p.2) (x:=G p.1 p.2) h2.1;exact decide_eq_true ⟨a1,by omega⟩
 generalize (zco r c).map (fun d=>zlc g w G d)=cs at *;generalize flr r c g=f1 at *;generalize flr r c (fun i j=>some (w i j))=f2 at *;generalize flr r c (fun i j=>some (G i j))=f3 at *;generalize zco r c=ps at *;simp [zc5,zar,zfa,u1,u2,pl,e,hs]
end S2
namespace S2.L99
open PySem
open L2 hiding D
noncomputable def zh3:Fs:=zaj (sFz [3,11,2,2] (zbh (zal eqD (eFn zap [(zad 3),(zad 11),(zbc [(zbc [(zad 2),(zak (.int 0))]),(zbc [(zak (.int 0)),(zad 2)])])]) (zbc [(zak (.int 0)),(zal zfy (zax 1) (zax 1))])))) sNx
noncomputable def zh4:Fs:=zaj (sFz [3,11] (sIf (zal neD (eFn zat [(zad 3),(zad 11)]) (zal zfy (zax 1) (zax 1))) (zaj (sFz [] (zbh (zak (.bl false)))) sNx) sNx)) zh3
noncomputable def zfS:Fs:=zaj (sFz [] (zcl 11 false (zbc [(zbc [(zak .non),(zak .non)]),(zbc [(zak .non),(zak .non)])]))) zh4
noncomputable def zh5:Fs:=zaj (sFz [8,9,10,3,10] (sIf (eOr (zal neD (eFn zc5 [(zad 8),(zad 9),(zad 10)]) (zax 2)) (zal zkv (eFn zcG [(zad 3),(zbc [(zbc [(zak .non)]),(zbc [(zak .non)])]),(zad 10)]) (zak (.bl true)))) (zaj (sFz [] (zbh (zak (.bl false)))) sNx) sNx)) zfS
noncomputable def zh6:Fs:=zaj (sFz [3,8,9] (zcl 10 false (eFn zcn [(zad 3),(zad 8),(zad 9)]))) zh5
noncomputable def zh7:Fs:=zaj (sFz [3,8,9,2,3,8] (sIf (eOr (zal neD (eFn zap [(zad 3),(zad 8),(zad 9)]) (zbc [(zad 2),(zak (.int 2))])) (zal neD (eFn zat [(zad 3),(zad 8)]) (zak (.int 0)))) (zaj (sFz [] (zbh (zak (.bl false)))) sNx) sNx)) zh6
noncomputable def zfT:Fs:=zaj (sFz [5,2,2] (zn0 8 9 false (zbc [(zbc [(zad 5)]),(zbc [(zal zkz (zal zer (zax 5) (zak (.int 1))) (zax 1))])]) false (zbc [(zbc [(zad 2)]),(zbc [(zad 2)])]))) zh7
noncomputable def zjM:Fs:=zaj (sFz [3,6,7,1,3,6] (sIf (eOr (zal neD (eFn zap [(zad 3),(zad 6),(zad 7)]) (zbc [(zak (.int 0)),(zad 1)])) (zal neD (eFn zat [(zad 3),(zad 6)]) (zax 1))) (zaj (sFz [] (zbh (zak (.bl false)))) sNx) sNx)) zfT
noncomputable def zjN:Fs:=zaj (sFz [5,2,2] (zn0 6 7 false (zbc [(zbc [(zad 5),(zak .non)])]) false (zbc [(zbc [(zad 2),(zad 2)])]))) zjM
noncomputable def zjO:Fs:=zaj (sFz [3,5,1] (sIf (zal neD (eFn zap [(zad 3),(zbc [(zbc [(zad 5)])]),(zbc [(zbc [(zak (.int 0))])])]) (zbc [(zak (.int 0)),(zad 1)])) (zaj (sFz [] (zbh (zak (.bl false)))) sNx) sNx)) zjN
noncomputable def zjP:Fs:=zaj (sFz [3,5,2,3,5,2,5] (sIf (eOr (zal neD (eFn zap [(zad 3),(zbc [(zbc [(zad 5)])]),(zbc [(zbc [(zad 2)])])]) (zbc [(zak (.int 0)),(zak (.int 1))])) (zal neD (eFn zcn [(zad 3),(zbc [(zbc [(zad 5)])]),(zbc [(zbc [(zad 2)])])]) (zbc [(zbc [(zad 5)])]))) (zaj (sFz [] (zbh (zak (.bl false)))) sNx) sNx)) zjO
noncomputable def zho:Fs:=zaj (sFz [0,1] (zcl 5 false (eFn za9 [(zad 0),(zak (.int 2)),(zad 1)]))) zjP
noncomputable def zjQ:Fs:=zaj (sFz [3,4,2,1,3,4] (sIf (eOr (zal neD (eFn zap [(zad 3),(zad 4),(zbc [(zbc [(zad 2)])])]) (zbc [(zak (.int 0)),(zad 1)])) (zal neD (eFn zat [(zad 3),(zad 4)]) (zax 1))) (zaj (sFz [] (zbh (zak (.bl false)))) sNx) sNx)) zho
noncomputable def zjR:Fs:=zaj (sFz [] (zcl 4 false (zbc [(zbc [(zak .non)])]))) zjQ
noncomputable def zjS:Fs:=zaj (sFz [1] (zcl 3 false (zaW zdK [(zcX 1 (.one 0) (zfn (zad 1)) zfk (zbc [(zad 0),(zak (.int 0)),(zad 0),(zak (.int 0))]) [])]))) zjR
noncomputable def zjT:Fs:=zaj (sFz [0,0] (zn0 1 2 false (zal zer (zak (.int 2)) (eFn za9 [(zad 0),(zak (.int 0)),(zak (.int 4))])) false (zal zer (zak (.int 1)) (eFn za9 [(zad 0),(zak (.int 1)),(zak (.int 9))])))) zjS
noncomputable def zoP:Fs :=
  zjT
noncomputable def zql:List S2.D->Sto->Out S2.D:=zbv 12 false zoP
end S2.L99
namespace S2.L99
open PySem
open L2 hiding D
abbrev Sl:=Option (Bool×D)
theorem zf5{a b:Int}:neD (.tup [.int a,.int b]) (.tup [.int a,.int b])=some (.bl false):=zd5 rfl rfl
theorem zoU{a b:Int}:eqD (.tup [.int a,.int b]) (.tup [.int a,.int b])=some (.bl true):=zoT rfl rfl
def zan(n:Nat):List (List Int):=(List.range n).map fun k:Nat=>[(k:Int),0,k,0]
theorem zbM{n:Nat}:(zan n).length=n:=by unfold zan;simp
def zqh(h:Int):Nat->Nat->Option Int:=fun _ j=>if j=0 then some h else none
def zjB(h h':Int):Nat->Nat->Option Int:=fun i _=>some (if i=0 then h else h')
theorem zfO{n:Nat}(h1:2<=n)(h2:n<=5):n=2\/n=3\/n=4\/n=5:=by omega
theorem zm7{n:Nat}(h1:2<=n)(h2:n<=5):rights (zan n) 1 1=(List.range n).map fun k:Nat=>[(k:Int)]:=by
 rcases zfO h1 h2 with rfl | rfl | rfl | rfl<;>decide +kernel
theorem zmU{n:Nat}(h1:2<=n)(h2:n<=5):rights (zan n) 2 1=(List.range n).map fun k:Nat=>[(k:Int),k]:=by
 rcases zfO h1 h2 with rfl | rfl | rfl | rfl<;>decide +kernel
theorem zsL{n:Nat}(h1:2<=n)(h2:n<=5):(rights (zan n) 2 2).length=n*n:=by
 rcases zfO h1 h2 with rfl | rfl | rfl | rfl<;>decide +kernel
theorem zqg{n h:Nat}(h1:2<=n)(h2:n<=5)(hh:h<n):(zbm (zan n) 1 2 (zqh h)).length=n:=by
 have:∀n∈[2,3,4,5],∀h∈List.range n,(zbm (zan n) 1 2 (zqh (h:Nat))).length=n:=by decide +kernel
 exact this n (by rcases zfO h1 h2 with rfl | rfl | rfl | rfl<;>decide) h (List.mem_range.mpr hh)
theorem fpN{n r c:Nat}(h1:2<=n)(h2:n<=5)(r1:1<=r)(c1:1<=c)(rc:r*c<=6):FP (zan n) r c :=
 ⟨⟨fun t ht=>by obtain ⟨k,_,rfl⟩:=List.mem_map.mp ht;rfl,by rw [zbM];omega⟩,by rw [zbM];omega,zsY (by rw [zbM];omega) rc,r1,c1,rc⟩
theorem zhS{r c:Nat}{g:Z1}{G:Nat->Nat->Int}:zbT r c g (fun _ _=>0) G=0:=by
 rw [zhU (g':=fun _ _=>none) (w':=fun _ _=>0) (G':=G) fun i j _ _=>?_,zdn]
 cases g i j with
 | none=>rfl
 | some x=>show (if _ then _ else _)=_;simp [zbf]
theorem zmn{ts:Z2}{r c:Nat}{g:Z1}(hc:1<=c)(hne:rights ts r c≠[]):zbZ ts r c g (fun _ _=>0)=some (0,((rights ts r c).length:Int)):=by
 rw [zc7 hc];refine ⟨?_,fun t _=>by rw [zhS];omega,?_⟩
 ·cases h:rights ts r c with
  | nil=>exact (hne h).elim
  | cons t l=>exact ⟨t,.head _,zhS⟩
 ·congr 1;symm;rw [List.countP_eq_length];intro t _;exact decide_eq_true zhS
theorem zhG{ts:Z2}{r c:Nat}{g:Z1}{w:Nat->Nat->Int}(hc:1<=c)(hw:∀i j,1<=w i j)(hp:0<(zbm ts r c g).length):zbZ ts r c g w=some (0,((zbm ts r c g).length:Int)):=by
 cases hl:zbZ ts r c g w with
 | none =>
  rw [zjj hc,zfs hc] at hl;rw [zbF,hl] at hp;cases hp
 | some q =>
  obtain ⟨a,b⟩:=q;obtain ⟨z1,z2,_⟩:=zfB hc hw hl;have:=z1.mpr hp;rw [this,z2 this]
theorem zgh{h h' wt k:Int}:zbT 2 1 (zjB h h') (fun _ _=>wt) (tnG 1 [k,k])=(if h=k then 0 else wt)+(if h'=k then 0 else wt):=by
 show (if h=k then 0 else wt)+((if h'=k then 0 else wt)+0)=_;omega
theorem zkK{n h:Nat}{h' wt:Int}(h1:2<=n)(h2:n<=5)(hh:h<n)(eh:h'=((h:Int)+1) % n)(hw:1<=wt):zbZ (zan n) 2 1 (zjB h h') (fun _ _=>wt)=some (wt,2):=by
 have hne:(h:Int)≠h':=by
  rw [eh]
  by_cases hx:h+1=n
  ·have:((h:Int)+1)=n:=by omega
   rw [this,Int.emod_self];omega
  ·rw [Int.emod_eq_of_lt (by omega) (by omega)];omega
 have h0:0<=h':=by rw [eh];exact Int.emod_nonneg _ (by omega)
 have hlt:h'<n:=by rw [eh];exact Int.emod_lt_of_pos _ (by omega)
 obtain ⟨m,rfl⟩:=Int.eq_ofNat_of_zero_le h0;rw [zc7 (by decide),zmU h1 h2];refine ⟨⟨_,List.mem_map.mpr ⟨h,List.mem_range.mpr hh,rfl⟩,?_⟩,?_,?_⟩
 ·rw [zgh,if_pos rfl,if_neg (fun z=>hne z.symm)];omega
 ·intro t ht;obtain ⟨k,_,rfl⟩:=List.mem_map.mp ht;rw [zgh];split
  ·rename_i z;rw [if_neg (by omega)];omega
  ·split<;>omega
 ·rw [List.countP_map]
  have e:(List.range n).countP ((fun t=>decide (zbT 2 1 (zjB h m) (fun _ _=>wt) (tnG 1 t)=wt))∘fun k:Nat=>[(k:Int),k])=(List.range n).countP fun k=>decide (k=h)||decide (k=m):=by
   congr 1;funext k;show decide (zbT 2 1 (zjB h m) (fun _ _=>wt) (tnG 1 [(k:Int),k])=wt)=_;rw [zgh,Bool.eq_iff_iff,decide_eq_true_iff,Bool.or_eq_true,decide_eq_true_iff,decide_eq_true_iff];constructor
   ·intro z;split at z
    ·left;omega
    ·split at z
     ·right;omega
     ·omega
   ·rintro (rfl | rfl)
    ·rw [if_pos rfl,if_neg (by omega)];omega
    ·rw [if_pos rfl,if_neg (by omega)];omega
  rw [e]
  have hm:m<n:=by omega
  have hne':h≠m:=by omega
  have:∀n∈[2,3,4,5],∀h∈List.range n,∀m∈List.range n,h≠m->(List.range n).countP (fun k=>decide (k=h)||decide (k=m))=2:=by decide +kernel
  rw [this n (by rcases zfO h1 h2 with rfl | rfl | rfl | rfl<;>decide) h (List.mem_range.mpr hh) m (List.mem_range.mpr hm) hne'];rfl
section
variable{n h:Nat}{wt:Int}{l:List Int}
theorem zpz(h1:2<=n)(h2:n<=5)(hw:1<=wt)(S:Sto){s0 s4 s5 s6 s7 s8 s9 s10 s11:Sl} :
  ∃S',zfS [s0,some (false,.int n),some (false,.int wt),some (false,.tup ((zan n).map zao)),s4,s5,s6,s7,s8,s9,s10,s11] S=.rt (.bl true) S':=by
 have P:FP (zan n) 2 2:=fpN h1 h2 (by decide) (by decide) (by decide);obtain ⟨S1,e1⟩:=zdO (g:=fun _ _=>none) P zdA S;have e1':zat [.tup ((zan n).map zao),.tup [.tup [.non,.non],.tup [.non,.non]]] S=.ok (.int ((rights (zan n) 2 2).length:Nat)) S1:=e1;have hn:=zsL h1 h2
 have hne:rights (zan n) 2 2≠[]:=fun z=>by
  rw [z] at hn;have:0<n*n:=Nat.mul_pos (by omega) (by omega);simp at hn;omega
 obtain ⟨S2,e2⟩:=za5 (g:=fun _ _=>none) (w:=fun i j=>if i=j then wt else 0) P S1;rw [zfD (by decide) hne] at e2;have e2':zap [.tup ((zan n).map zao),.tup [.tup [.non,.non],.tup [.non,.non]],.tup [.tup [.int wt,.int 0],.tup [.int 0,.int wt]]] S1=.ok (.tup [.int 0,.int ((rights (zan n) 2 2).length:Nat)]) S2:=e2;rw [hn] at e1' e2'
 have em:((n*n:Nat):Int)=(n:Int)*n:=by simp
 rw [em] at e1' e2';refine ⟨S2,?_⟩
 have f1:zcs (n:Int)=true:=by rcases zfO h1 h2 with rfl | rfl | rfl | rfl<;>decide
 have q1:neD (.int ((n:Int)*n)) (.int ((n:Int)*n))=some (.bl false):=zd5 rfl rfl;have q2:=zoU (a:=0) (b:=(n:Int)*n);generalize (zan n).map zao=tsd at *;simp [zfS,zh4,zh3,e1',e2',f1,q1,q2]
theorem zpA(h1:2<=n)(h2:n<=5)(hh:h<n)(hw:1<=wt)(hw9:wt<=9)(S:Sto){s0 s4 s6 s7 s8 s9 s10 s11:Sl} :
  ∃S',zfT [s0,some (false,.int n),some (false,.int wt),some (false,.tup ((zan n).map zao)),s4,some (false,.int h),s6,s7,s8,s9,s10,s11] S=.rt (.bl true) S':=by
 have P:FP (zan n) 2 1:=fpN h1 h2 (by decide) (by decide) (by decide);obtain ⟨h',eh⟩:∃h',h'=((h:Int)+1) % n:=⟨_,rfl⟩;have hl:=zkK h1 h2 hh eh hw;obtain ⟨S1,e1⟩:=za5 (g:=zjB h h') (w:=fun _ _=>wt) P S;rw [hl] at e1;have e1':zap [.tup ((zan n).map zao),.tup [.tup [.int h],.tup [.int h']],.tup [.tup [.int wt],.tup [.int wt]]] S=.ok (.tup [.int wt,.int 2]) S1:=e1
 have hin:InT (zan n) (zjB h h'):=by
  intro i j x e;unfold zjB at e;have e':=Option.some.inj e;rw [zbM,<-e'];split
  ·omega
  ·rw [eh];exact ⟨Int.emod_nonneg _ (by omega),Int.emod_lt_of_pos _ (by omega)⟩
 obtain ⟨S2,e2⟩:=zdO P hin S1;obtain ⟨z1,_,_⟩:=zfB (by decide) (fun _ _=>hw) hl
 have hz:(zbm (zan n) 2 1 (zjB h h')).length=0:=by
  have:¬ 0<(zbm (zan n) 2 1 (zjB h h')).length:=fun z=>by have:=z1.mpr z;omega
  omega
 rw [hz] at e2;have e2':zat [.tup ((zan n).map zao),.tup [.tup [.int h],.tup [.int h']]] S1=.ok (.int 0) S2:=e2;obtain ⟨S3,e3⟩:=zfr (g:=zjB h h') (w:=fun _ _=>wt) P S2;rw [hl,if_pos (show (some (wt,(2:Int))).isSome=true from rfl)] at e3;obtain ⟨hm,hcost⟩:=zgY (by decide) hl;generalize zf7 (zan n) 2 1 (zjB h h') (fun _ _=>wt)=t at *;have e3':zcn [.tup ((zan n).map zao),.tup [.tup [.int h],.tup [.int h']],.tup [.tup [.int wt],.tup [.int wt]]] S2=.ok (flr 2 1 (zaO 1 t)) S3:=e3;have e4:=zhv (r:=2) (c:=1) (g:=zjB h h') (w:=fun _ _=>wt) (G:=tnG 1 t) (S:=S3) (by decide) (by decide) (by decide) (by decide) (fun _ _=>by omega);rw [hcost] at e4;have e4':zc5 [.tup [.tup [.int h],.tup [.int h']],.tup [.tup [.int wt],.tup [.int wt]],flr 2 1 (zaO 1 t)] S3=.ok (.int wt) S3:=e4;have hm2:=hm;rw [zmU h1 h2] at hm2;obtain ⟨k,hk,et⟩:=List.mem_map.mp hm2;have hk':=List.mem_range.mp hk
 have hG:∀i j,0<=tnG 1 t i j/\tnG 1 t i j<(zan n).length:=by
  intro i j;rw [zbM,<-et];unfold tnG;generalize i*1+j=q
  rcases q with _ | _ | q
  ·simp;omega
  ·simp;omega
  ·simp;omega
 have e5:=zht (g:=fun _ _=>none) P hG S3;rw [zhC (by decide) (by rw [<-et];rfl)] at e5;rw [decide_eq_true (show t∈zbm (zan n) 2 1 (fun _ _=>none) from hm)] at e5;have e5':zcG [.tup ((zan n).map zao),.tup [.tup [.non],.tup [.non]],flr 2 1 (zaO 1 t)] S3=.ok (.bl true) S3:=e5;obtain ⟨S4,e6⟩:=zpz (s0:=s0) (s4:=s4) (s5:=some (false,.int h)) (s6:=s6) (s7:=s7) (s8:=some (false,.tup [.tup [.int h],.tup [.int h']])) (s9:=some (false,.tup [.tup [.int wt],.tup [.int wt]])) (s10:=some (false,flr 2 1 (zaO 1 t))) (s11:=s11) h1 h2 hw S3;refine ⟨S4,?_⟩
 have hn0:0<n:=by omega
 have q1:=zf5 (a:=wt) (b:=2);have q2:neD (.int 0) (.int 0)=some (.bl false):=rfl;have q3:neD (.int wt) (.int wt)=some (.bl false):=zd5 rfl rfl;generalize flr 2 1 (zaO 1 t)=fm at *;generalize (zan n).map zao=tsd at *;simp [zfT,zh7,zh6,zh5,hn0,<-eh,e1',q1,e2',q2,e3',e4',q3,e5',e6]
theorem zsx(h1:2<=n)(h2:n<=5)(hh:h<n)(hw:1<=wt)(hw9:wt<=9)(ep:∀S,za9 [.scr l,.int 2,.int n] S=.ok (.int h) S)(S:Sto){s4 s5 s6 s7 s8 s9 s10 s11:Sl} :
  ∃S',zho [some (false,.scr l),some (false,.int n),some (false,.int wt),some (false,.tup ((zan n).map zao)),s4,s5,s6,s7,s8,s9,s10,s11] S=.rt (.bl true) S':=by
 have P:FP (zan n) 1 1:=fpN h1 h2 (by decide) (by decide) (by decide);have P2:FP (zan n) 1 2:=fpN h1 h2 (by decide) (by decide) (by decide);have ho:=zm7 h1 h2
 have hm:[(h:Int)]∈rights (zan n) 1 1:=by rw [ho];exact List.mem_map.mpr ⟨h,List.mem_range.mpr hh,rfl⟩
 obtain ⟨lw,mw⟩:=zhF (w:=fun _ _=>wt) (by decide) (fun _ _=>hw) hm;obtain ⟨S1,e1⟩:=za5 (g:=zaO 1 [(h:Int)]) (w:=fun _ _=>wt) P S;rw [lw] at e1;have e1':zap [.tup ((zan n).map zao),.tup [.tup [.int h]],.tup [.tup [.int wt]]] S=.ok (.tup [.int 0,.int 1]) S1:=e1;obtain ⟨S2,e2⟩:=zfr (g:=zaO 1 [(h:Int)]) (w:=fun _ _=>wt) P S1;rw [lw,mw,if_pos (show (some ((0:Int),(1:Int))).isSome=true from rfl)] at e2;have e2':zcn [.tup ((zan n).map zao),.tup [.tup [.int h]],.tup [.tup [.int wt]]] S1=.ok (.tup [.tup [.int h]]) S2:=e2;obtain ⟨S3,e3⟩:=za5 (g:=zaO 1 [(h:Int)]) (w:=fun _ _=>0) P S2;rw [zmn (by decide) (List.ne_nil_of_mem hm),ho] at e3;rw [List.length_map,List.length_range] at e3;have e3':zap [.tup ((zan n).map zao),.tup [.tup [.int h]],.tup [.tup [.int 0]]] S2=.ok (.tup [.int 0,.int n]) S3:=e3;have hr:=zqg h1 h2 hh;obtain ⟨S4,e4⟩:=za5 (g:=zqh h) (w:=fun _ _=>wt) P2 S3;rw [zhG (by decide) (fun _ _=>hw) (by omega),hr] at e4;have e4':zap [.tup ((zan n).map zao),.tup [.tup [.int h,.non]],.tup [.tup [.int wt,.int wt]]] S3=.ok (.tup [.int 0,.int n]) S4:=e4
 have hin:InT (zan n) (zqh h):=by
  intro i j x e;unfold zqh at e;split at e
  ·cases e;rw [zbM];omega
  ·cases e
 obtain ⟨S5,e5⟩:=zdO P2 hin S4;rw [hr] at e5;have e5':zat [.tup ((zan n).map zao),.tup [.tup [.int h,.non]]] S4=.ok (.int n) S5:=e5;obtain ⟨S6,e6⟩:=zpA (s0:=some (false,.scr l)) (s4:=s4) (s6:=some (false,.tup [.tup [.int h,.non]])) (s7:=some (false,.tup [.tup [.int wt,.int wt]])) (s8:=s8) (s9:=s9) (s10:=s10) (s11:=s11) h1 h2 hh hw hw9 S5;refine ⟨S6,?_⟩;have q1:=zf5 (a:=0) (b:=1);have q2:=zf5 (a:=0) (b:=(n:Int));have q3:neD (.tup [.tup [.int (h:Int)]]) (.tup [.tup [.int (h:Int)]])=some (.bl false):=zd5 rfl rfl;have q4:neD (.int (n:Int)) (.int (n:Int))=some (.bl false):=zd5 rfl rfl;generalize (zan n).map zao=tsd at *;simp [zho,zjP,zjO,zjN,zjM,ep,e1',e2',e3',e4',e5',q1,q2,q3,q4,e6]
end
theorem zmo:∀l:List Int,l.length<=63->∃S,zql [.scr l] []=.ok (.bl true) S:=by
 intro l _;have p1:=zfX (l:=l) (k:=0) (many:=4) (S:=[]) (by omega) (by omega);have p2:=zfX (l:=l) (k:=1) (many:=9) (S:=[]) (by omega) (by omega);have b1:=zhy l 0 (many:=4) (by omega);have b2:=zhy l 1 (many:=9) (by omega);obtain ⟨n,en⟩:=Int.eq_ofNat_of_zero_le (show 0<=2+zja l 0 4 by omega)
 have h1:2<=n:=by omega
 have h2:n<=5:=by omega
 obtain ⟨wt,ew⟩:∃wt,wt=1+zja l 1 9:=⟨_,rfl⟩
 have hw:1<=wt:=by omega
 have hw9:wt<=9:=by omega
 have b3:=zhy l 2 (many:=(n:Int)) (by omega);obtain ⟨h,eh⟩:=Int.eq_ofNat_of_zero_le b3.1
 have ep:∀S,za9 [.scr l,.int 2,.int n] S=.ok (.int h) S:=fun S=>by
  have:=zfX (l:=l) (k:=2) (many:=(n:Int)) (S:=S) (by omega) (by omega);rw [eh] at this;exact this
 have hh:h<n:=by omega
 have P:FP (zan n) 1 1:=fpN h1 h2 (by decide) (by decide) (by decide);have ho:=zm7 h1 h2
 have hne:rights (zan n) 1 1≠[]:=fun z=>by
  rw [z] at ho;have:=congrArg List.length ho;simp at this;omega
 obtain ⟨S1,e1⟩:=za5 (g:=fun _ _=>none) (w:=fun _ _=>wt) P [];rw [zfD (by decide) hne,ho,List.length_map,List.length_range] at e1;have e1':zap [.tup ((zan n).map zao),.tup [.tup [.non]],.tup [.tup [.int wt]]] []=.ok (.tup [.int 0,.int n]) S1:=e1;obtain ⟨S2,e2⟩:=zdO (g:=fun _ _=>none) P zdA S1;have e2':zat [.tup ((zan n).map zao),.tup [.tup [.non]]] S1=.ok (.int ((rights (zan n) 1 1).length:Nat)) S2:=e2;rw [ho,List.length_map,List.length_range] at e2';obtain ⟨S3,e3⟩:=zsx (l:=l) (s4:=some (false,.tup [.tup [.non]])) (s5:=none) (s6:=none) (s7:=none) (s8:=none) (s9:=none) (s10:=none) (s11:=none) h1 h2 hh hw hw9 ep S2
 have ec:zb4 (.one 0) zfk (zbc [(zad 0),(zak (.int 0)),(zad 0),(zak (.int 0))]) [none] (zaP 0 (n:Int)) []=.ok ((zan n).map zao) []:=by
  rw [zb0 (g:=fun d=>.tup [d,.int 0,d,.int 0]) (fun d hd=>⟨_,rfl,by simp⟩),zn3];unfold zan;rw [List.map_map];rfl
 have hlen:((zan n).map zao).length<=100000:=by rw [List.length_map,zbM];omega
 refine ⟨S3,?_⟩;have q2:=zf5 (a:=0) (b:=(n:Int));have q4:neD (.int (n:Int)) (.int (n:Int))=some (.bl false):=zd5 rfl rfl
 have hb:-1000000<=(n:Int)/\(n:Int)<=1000000:=by omega
 generalize (zan n).map zao=tsd at *;simp only [zql,zar,zoP,zjT,zjS,zjR,zjQ];simp [p1,p2,en,<-ew,hb,ec,hlen,e1',e2',q2,q4,e3]
end S2.L99
namespace M99
open PySem L2 S2 S2.L99
def top(i:Nat):Stmt:=PySem.Challenge.pw_floorfits_k99_whole_edges_by_hand.main.body.getD i (.Pass ⟨0,0,0,0⟩)
def T:Tab:=⟨[("NORTH",.int 0),("EAST",.int 1),("SOUTH",.int 2),("WEST",.int 3)],["isinstance","int","bool","tuple","list","len","range","all","sum","min","zip","ValueError"],["FloorError","NoFill","Unlike"],[("Unlike","FloorError"),("NoFill","FloorError")],[],[("Ways","tiles"),("Ways","ground"),("Ways","size"),("Ways","is_round"),("Ways","known"),("Mends","size"),("Mends","ways"),("Mends","laid"),("Mends","weights"),("Mends","known")],["known"]⟩
noncomputable def F0:Fn3:=⟨"",[],[],[]⟩
noncomputable def F1:Fn3:=F0.fn "is_whole" ⟨1,false,zbw⟩
theorem d1:zaf (Gn T F0) false ["thing"] (top 10)=some zdl:=by rfl
theorem s1:FnScope ["thing"] ["thing"] (zaa (top 10)):=⟨rfl,rfl,rfl,by decide +kernel,rfl,by decide +kernel,by decide +kernel⟩
noncomputable def F2:Fn3:=F1.fn "is_tuple_of" ⟨3,false,zaF⟩
theorem d2:zaf (Gn T F1) false ["thing","least","most"] (top 11)=some zb8:=by rfl
theorem s2:FnScope ["thing","least","most"] ["thing","least","most"] (zaa (top 11)):=⟨rfl,rfl,rfl,by decide +kernel,rfl,by decide +kernel,by decide +kernel⟩
noncomputable def F3:Fn3:=F2.fn "has_number" ⟨2,false,zaX⟩
theorem d3:zaf (Gn T F2) false ["tiles","thing"] (top 12)=some zct:=by rfl
theorem s3:FnScope ["tiles","thing"] ["tiles","thing"] (zaa (top 12)):=⟨rfl,rfl,rfl,by decide +kernel,rfl,by decide +kernel,by decide +kernel⟩
noncomputable def F4:Fn3:=F3.fn "empty" ⟨2,false,zeP⟩
theorem d4:zaf (Gn T F3) false ["rows","columns"] (top 13)=some zhL:=by rfl
theorem s4:FnScope ["rows","columns"] ["rows","columns"] (zaa (top 13)):=⟨rfl,rfl,rfl,by decide +kernel,rfl,by decide +kernel,by decide +kernel⟩
noncomputable def F5:Fn3:=F4.fn "size_of" ⟨1,false,zbz⟩
theorem d5:zaf (Gn T F4) false ["floor","columns"] (top 14)=some ze8:=by rfl
theorem s5:FnScope ["floor","columns"] ["floor"] (zaa (top 14)):=⟨rfl,rfl,rfl,by decide +kernel,rfl,by decide +kernel,by decide +kernel⟩
noncomputable def F6:Fn3:=F5.fn "places_of" ⟨1,true,zaC⟩
theorem d6:zaf (Gn T F5) true ["floor","size","places","row","column"] (top 15)=some zdD:=by rfl
theorem s6:FnScope ["floor","size","places","row","column"] ["floor"] (zaa (top 15)):=⟨rfl,rfl,rfl,by decide +kernel,rfl,by decide +kernel,by decide +kernel⟩
noncomputable def F7:Fn3:=F6.fn "is_row_like" ⟨2,false,zbA⟩
theorem d7:zaf (Gn T F6) false ["row","thing"] (top 16)=some zcV:=by rfl
theorem s7:FnScope ["row","thing"] ["row","thing"] (zaa (top 16)):=⟨rfl,rfl,rfl,by decide +kernel,rfl,by decide +kernel,by decide +kernel⟩
noncomputable def F8:Fn3:=F7.fn "is_like" ⟨2,false,zcF⟩
theorem d8:zaf (Gn T F7) false ["floor","thing"] (top 17)=some zdU:=by rfl
theorem s8:FnScope ["floor","thing"] ["floor","thing"] (zaa (top 17)):=⟨rfl,rfl,rfl,by decide +kernel,rfl,by decide +kernel,by decide +kernel⟩
noncomputable def F9:Fn3:=F8.fn "refuse_unlike" ⟨2,false,zaJ⟩
theorem d9:zaf (Gn T F8) false ["floor","other"] (top 18)=some zcf:=by rfl
theorem s9:FnScope ["floor","other"] ["floor","other"] (zaa (top 18)):=⟨rfl,rfl,rfl,by decide +kernel,rfl,by decide +kernel,by decide +kernel⟩
noncomputable def F10:Fn3:=F9.fn "in_rows" ⟨2,false,zdP⟩
theorem d10:zaf (Gn T F9) false ["numbers","size"] (top 19)=some ze9:=by rfl
theorem s10:FnScope ["numbers","size"] ["numbers","size"] (zaa (top 19)):=⟨rfl,rfl,rfl,by decide +kernel,rfl,by decide +kernel,by decide +kernel⟩
noncomputable def F11:Fn3:=F10.fn "number_at" ⟨2,false,zai⟩
theorem d11:zaf (Gn T F10) false ["floor","place"] (top 20)=some zdE:=by rfl
theorem s11:FnScope ["floor","place"] ["floor","place"] (zaa (top 20)):=⟨rfl,rfl,rfl,by decide +kernel,rfl,by decide +kernel,by decide +kernel⟩
noncomputable def F12:Fn3:=F11.fn "laid_places" ⟨1,true,zb7⟩
theorem d12:zaf (Gn T F11) true ["floor"] (top 21)=some zcU:=by rfl
theorem s12:FnScope ["floor"] ["floor"] (zaa (top 21)):=⟨rfl,rfl,rfl,by decide +kernel,rfl,by decide +kernel,by decide +kernel⟩
noncomputable def F13:Fn3:=F12.fn "has_tiles_of" ⟨2,false,zbU⟩
theorem d13:zaf (Gn T F12) false ["whole","floor"] (top 22)=some zcA:=by rfl
theorem s13:FnScope ["whole","floor"] ["whole","floor"] (zaa (top 22)):=⟨rfl,rfl,rfl,by decide +kernel,rfl,by decide +kernel,by decide +kernel⟩
noncomputable def F14:Fn3:=F13.fn "has_place" ⟨2,false,zaY⟩
theorem d14:zaf (Gn T F13) false ["floor","place","size"] (top 23)=some zbQ:=by rfl
theorem s14:FnScope ["floor","place","size"] ["floor","place"] (zaa (top 23)):=⟨rfl,rfl,rfl,by decide +kernel,rfl,by decide +kernel,by decide +kernel⟩
noncomputable def F15:Fn3:=F14.fn "edge_at" ⟨4,false,zaR⟩
theorem d15:zaf (Gn T F14) false ["tiles","floor","place","side"] (top 24)=some zdc:=by rfl
theorem s15:FnScope ["tiles","floor","place","side"] ["tiles","floor","place","side"] (zaa (top 24)):=⟨rfl,rfl,rfl,by decide +kernel,rfl,by decide +kernel,by decide +kernel⟩
noncomputable def F16:Fn3:=F15.fn "colours_east" ⟨3,false,zbV⟩
theorem d16:zaf (Gn T F15) false ["tiles","floor","place","beside"] (top 25)=some zcB:=by rfl
theorem s16:FnScope ["tiles","floor","place","beside"] ["tiles","floor","place"] (zaa (top 25)):=⟨rfl,rfl,rfl,by decide +kernel,rfl,by decide +kernel,by decide +kernel⟩
noncomputable def F17:Fn3:=F16.fn "colours_south" ⟨3,false,zbB⟩
theorem d17:zaf (Gn T F16) false ["tiles","floor","place","below"] (top 26)=some zcg:=by rfl
theorem s17:FnScope ["tiles","floor","place","below"] ["tiles","floor","place"] (zaa (top 26)):=⟨rfl,rfl,rfl,by decide +kernel,rfl,by decide +kernel,by decide +kernel⟩
noncomputable def F18:Fn3:=F17.fn "do_clash" ⟨1,false,zcH⟩
theorem d18:zaf (Gn T F17) false ["colours"] (top 27)=some zec:=by rfl
theorem s18:FnScope ["colours"] ["colours"] (zaa (top 27)):=⟨rfl,rfl,rfl,by decide +kernel,rfl,by decide +kernel,by decide +kernel⟩
noncomputable def F19:Fn3:=F18.fn "clashes" ⟨2,true,zdQ⟩
theorem d19:zaf (Gn T F18) true ["tiles","floor","found","place"] (top 28)=some zfb:=by rfl
theorem s19:FnScope ["tiles","floor","found","place"] ["tiles","floor"] (zaa (top 28)):=⟨rfl,rfl,rfl,by decide +kernel,rfl,by decide +kernel,by decide +kernel⟩
noncomputable def F20:Fn3:=F19.fn "is_right" ⟨2,false,zcE⟩
theorem d20:zaf (Gn T F19) false ["tiles","floor"] (top 29)=some zdm:=by rfl
theorem s20:FnScope ["tiles","floor"] ["tiles","floor"] (zaa (top 29)):=⟨rfl,rfl,rfl,by decide +kernel,rfl,by decide +kernel,by decide +kernel⟩
noncomputable def F21:Fn3:=F20.fn "suits" ⟨2,false,zeO⟩
theorem d21:zaf (Gn T F20) false ["wanted","colour"] (top 31)=some zhK:=by rfl
theorem s21:FnScope ["wanted","colour"] ["wanted","colour"] (zaa (top 31)):=⟨rfl,rfl,rfl,by decide +kernel,rfl,by decide +kernel,by decide +kernel⟩
noncomputable def F22:Fn3:=F21.cls "Ways" [.bl false] ⟨4,false,zaT⟩
theorem d22:zaf (Gn T (F21.at "Ways")) false ["self","tiles","floor","is_round"] (inC 0 (top 32))=some zcj:=by rfl
theorem s22:FnScope ["self","tiles","floor","is_round"] ["self","tiles","floor","is_round"] (zaa (inC 0 (top 32))):=⟨rfl,rfl,rfl,by decide +kernel,rfl,by decide +kernel,by decide +kernel⟩
noncomputable def F23:Fn3:=F22.mt "first_seam" "Ways" ⟨1,false,zaH⟩
theorem d23:zaf (Gn T (F22.at "Ways")) false ["self"] (inC 1 (top 32))=some zbR:=by rfl
theorem s23:FnScope ["self"] ["self"] (zaa (inC 1 (top 32))):=⟨rfl,rfl,rfl,by decide +kernel,rfl,by decide +kernel,by decide +kernel⟩
noncomputable def F24:Fn3:=F23.mt "ends_row" "Ways" ⟨2,false,zba⟩
theorem d24:zaf (Gn T (F23.at "Ways")) false ["self","step"] (inC 2 (top 32))=some zci:=by rfl
theorem s24:FnScope ["self","step"] ["self","step"] (zaa (inC 2 (top 32))):=⟨rfl,rfl,rfl,by decide +kernel,rfl,by decide +kernel,by decide +kernel⟩
noncomputable def F25:Fn3:=F24.mt "colour_round" "Ways" ⟨4,false,zaA⟩
theorem d25:zaf (Gn T (F24.at "Ways")) false ["self","step","seam","tile"] (inC 3 (top 32))=some za2:=by rfl
theorem s25:FnScope ["self","step","seam","tile"] ["self","step","seam","tile"] (zaa (inC 3 (top 32))):=⟨rfl,rfl,rfl,by decide +kernel,rfl,by decide +kernel,by decide +kernel⟩
noncomputable def F26:Fn3:=F25.mt "seam_behind" "Ways" ⟨4,false,za7⟩
theorem d26:zaf (Gn T (F25.at "Ways")) false ["self","step","seam","tile","is_last","in_last_row","east","south","around"] (inC 4 (top 32))=some zbG:=by rfl
theorem s26:FnScope ["self","step","seam","tile","is_last","in_last_row","east","south","around"] ["self","step","seam","tile"] (zaa (inC 4 (top 32))):=⟨rfl,rfl,rfl,by decide +kernel,rfl,by decide +kernel,by decide +kernel⟩
noncomputable def F27:Fn3:=F26.mt "numbers_for" "Ways" ⟨2,false,zaK⟩
theorem d27:zaf (Gn T (F26.at "Ways")) false ["self","step","laid"] (inC 5 (top 32))=some za8:=by rfl
theorem s27:FnScope ["self","step","laid"] ["self","step"] (zaa (inC 5 (top 32))):=⟨rfl,rfl,rfl,by decide +kernel,rfl,by decide +kernel,by decide +kernel⟩
noncomputable def F28:Fn3:=F27.mt "fits_round" "Ways" ⟨4,false,zaS⟩
theorem d28:zaf (Gn T (F27.at "Ways")) false ["self","step","seam","tile"] (inC 6 (top 32))=some zbe:=by rfl
theorem s28:FnScope ["self","step","seam","tile"] ["self","step","seam","tile"] (zaa (inC 6 (top 32))):=⟨rfl,rfl,rfl,by decide +kernel,rfl,by decide +kernel,by decide +kernel⟩
noncomputable def F29:Fn3:=F28.mt "fits" "Ways" ⟨4,false,zcR⟩
theorem d29:zaf (Gn T (F28.at "Ways")) false ["self","step","seam","tile"] (inC 7 (top 32))=some zdG:=by rfl
theorem s29:FnScope ["self","step","seam","tile"] ["self","step","seam","tile"] (zaa (inC 7 (top 32))):=⟨rfl,rfl,rfl,by decide +kernel,rfl,by decide +kernel,by decide +kernel⟩
noncomputable def F30:Fn3:=F29.mt "choices" "Ways" ⟨3,true,zbl⟩
theorem d30:zaf (Gn T (F29.at "Ways")) true ["self","step","seam","found","number","tile"] (inC 8 (top 32))=some zcC:=by rfl
theorem s30:FnScope ["self","step","seam","found","number","tile"] ["self","step","seam"] (zaa (inC 8 (top 32))):=⟨rfl,rfl,rfl,by decide +kernel,rfl,by decide +kernel,by decide +kernel⟩
noncomputable def F31:Fn3:=F30.mt "count_from" "Ways" ⟨3,false,zbP⟩
theorem d31:∀r,zaf (Gn T ((F30.mt "count_from" "Ways" ⟨["self","step","seam"].length,false,r⟩).at "Ways")) false ["self","step","seam","key"] (inC 9 (top 32))=some (zag r):=by intro r;rfl
theorem s31:FnScope ["self","step","seam","key"] ["self","step","seam"] (zaa (inC 9 (top 32))):=⟨rfl,rfl,rfl,by decide +kernel,rfl,by decide +kernel,by decide +kernel⟩
noncomputable def F32:Fn3:=F31.mt "count_all" "Ways" ⟨1,false,zbo⟩
theorem d32:zaf (Gn T (F31.at "Ways")) false ["self"] (inC 10 (top 32))=some zb1:=by rfl
theorem s32:FnScope ["self"] ["self"] (zaa (inC 10 (top 32))):=⟨rfl,rfl,rfl,by decide +kernel,rfl,by decide +kernel,by decide +kernel⟩
noncomputable def F33:Fn3:=F32.fn "count_fills" ⟨2,false,zat⟩
theorem d33:zaf (Gn T F32) false ["tiles","floor"] (top 33)=some zcW:=by rfl
theorem s33:FnScope ["tiles","floor"] ["tiles","floor"] (zaa (top 33)):=⟨rfl,rfl,rfl,by decide +kernel,rfl,by decide +kernel,by decide +kernel⟩
noncomputable def F34:Fn3:=F33.fn "is_fill" ⟨3,false,zcG⟩
theorem d34:zaf (Gn T F33) false ["tiles","floor","whole"] (top 34)=some zdV:=by rfl
theorem s34:FnScope ["tiles","floor","whole"] ["tiles","floor","whole"] (zaa (top 34)):=⟨rfl,rfl,rfl,by decide +kernel,rfl,by decide +kernel,by decide +kernel⟩
noncomputable def F35:Fn3:=F34.fn "cost_at" ⟨3,false,zcI⟩
theorem d35:zaf (Gn T F34) false ["laid","weight","number"] (top 36)=some zdW:=by rfl
theorem s35:FnScope ["laid","weight","number"] ["laid","weight","number"] (zaa (top 36)):=⟨rfl,rfl,rfl,by decide +kernel,rfl,by decide +kernel,by decide +kernel⟩
noncomputable def F36:Fn3:=F35.fn "cost_of" ⟨3,false,zc5⟩
theorem d36:zaf (Gn T F35) false ["floor","weights","whole","costs","place"] (top 37)=some zfa:=by rfl
theorem s36:FnScope ["floor","weights","whole","costs","place"] ["floor","weights","whole"] (zaa (top 37)):=⟨rfl,rfl,rfl,by decide +kernel,rfl,by decide +kernel,by decide +kernel⟩
noncomputable def F37:Fn3:=F36.cls "Mends" [] ⟨4,false,za3⟩
theorem d37:zaf (Gn T (F36.at "Mends")) false ["self","tiles","floor","weights"] (inC 0 (top 38))=some zb2:=by rfl
theorem s37:FnScope ["self","tiles","floor","weights"] ["self","tiles","floor","weights"] (zaa (inC 0 (top 38))):=⟨rfl,rfl,rfl,by decide +kernel,rfl,by decide +kernel,by decide +kernel⟩
noncomputable def F38:Fn3:=F37.mt "offers" "Mends" ⟨3,false,zbW⟩
theorem d38:∀r1 r2 r3,zaf (Gn T ((((F37.mt "offers" "Mends" ⟨["self","step","seam"].length,false,r1⟩).mt "least_by_offers" "Mends" ⟨["self","step","seam"].length,false,r2⟩).mt "least_from" "Mends" ⟨["self","step","seam"].length,false,r3⟩).at "Mends")) false ["self","step","seam","found","number","behind","rest","cost"] (inC 1 (top 38))=some (zaG r1 r2 r3):=by intro r1 r2 r3;rfl
theorem s38:FnScope ["self","step","seam","found","number","behind","rest","cost"] ["self","step","seam"] (zaa (inC 1 (top 38))):=⟨rfl,rfl,rfl,by decide +kernel,rfl,by decide +kernel,by decide +kernel⟩
noncomputable def F39:Fn3:=F38.mt "least_by_offers" "Mends" ⟨3,false,zbC⟩
theorem d39:∀r1 r2 r3,zaf (Gn T ((((F37.mt "offers" "Mends" ⟨["self","step","seam"].length,false,r1⟩).mt "least_by_offers" "Mends" ⟨["self","step","seam"].length,false,r2⟩).mt "least_from" "Mends" ⟨["self","step","seam"].length,false,r3⟩).at "Mends")) false ["self","step","seam","offers","least"] (inC 2 (top 38))=some (zae r1 r2 r3):=by intro r1 r2 r3;rfl
theorem s39:FnScope ["self","step","seam","offers","least"] ["self","step","seam"] (zaa (inC 2 (top 38))):=⟨rfl,rfl,rfl,by decide +kernel,rfl,by decide +kernel,by decide +kernel⟩
noncomputable def F40:Fn3:=F39.mt "least_from" "Mends" ⟨3,false,zay⟩
theorem d40:∀r1 r2 r3,zaf (Gn T ((((F37.mt "offers" "Mends" ⟨["self","step","seam"].length,false,r1⟩).mt "least_by_offers" "Mends" ⟨["self","step","seam"].length,false,r2⟩).mt "least_from" "Mends" ⟨["self","step","seam"].length,false,r3⟩).at "Mends")) false ["self","step","seam","key"] (inC 3 (top 38))=some (zah r1 r2 r3):=by intro r1 r2 r3;rfl
theorem s40:FnScope ["self","step","seam","key"] ["self","step","seam"] (zaa (inC 3 (top 38))):=⟨rfl,rfl,rfl,by decide +kernel,rfl,by decide +kernel,by decide +kernel⟩
noncomputable def F41:Fn3:=F40.mt "least_all" "Mends" ⟨1,false,zaU⟩
theorem d41:zaf (Gn T (F40.at "Mends")) false ["self"] (inC 4 (top 38))=some zbS:=by rfl
theorem s41:FnScope ["self"] ["self"] (zaa (inC 4 (top 38))):=⟨rfl,rfl,rfl,by decide +kernel,rfl,by decide +kernel,by decide +kernel⟩
noncomputable def F42:Fn3:=F41.mt "least_whole" "Mends" ⟨1,false,zaZ⟩
theorem d42:zaf (Gn T (F41.at "Mends")) false ["self","numbers","seam","step","least","chosen"] (inC 5 (top 38))=some zbr:=by rfl
theorem s42:FnScope ["self","numbers","seam","step","least","chosen"] ["self"] (zaa (inC 5 (top 38))):=⟨rfl,rfl,rfl,by decide +kernel,rfl,by decide +kernel,by decide +kernel⟩
noncomputable def F43:Fn3:=F42.fn "least_cost" ⟨3,false,zap⟩
theorem d43:zaf (Gn T F42) false ["tiles","floor","weights"] (top 39)=some zdb:=by rfl
theorem s43:FnScope ["tiles","floor","weights"] ["tiles","floor","weights"] (zaa (top 39)):=⟨rfl,rfl,rfl,by decide +kernel,rfl,by decide +kernel,by decide +kernel⟩
noncomputable def F44:Fn3:=F43.fn "mended" ⟨3,false,zcn⟩
theorem d44:zaf (Gn T F43) false ["tiles","floor","weights","mends"] (top 40)=some zeA:=by rfl
theorem s44:FnScope ["tiles","floor","weights","mends"] ["tiles","floor","weights"] (zaa (top 40)):=⟨rfl,rfl,rfl,by decide +kernel,rfl,by decide +kernel,by decide +kernel⟩
noncomputable def F45:Fn3:=F44.fn "_law_cell" ⟨2,false,zbO⟩
theorem d45:zaf (Gn T F44) false ["_law_script","_law_k"] (top 42)=some zch:=by rfl
theorem s45:FnScope ["_law_script","_law_k"] ["_law_script","_law_k"] (zaa (top 42)):=⟨rfl,rfl,rfl,by decide +kernel,rfl,by decide +kernel,by decide +kernel⟩
noncomputable def F46:Fn3:=F45.fn "_law_pick" ⟨3,false,za9⟩
theorem d46:zaf (Gn T F45) false ["_law_script","_law_k","_law_many","_law_drawn"] (top 43)=some zdF:=by rfl
theorem s46:FnScope ["_law_script","_law_k","_law_many","_law_drawn"] ["_law_script","_law_k","_law_many"] (zaa (top 43)):=⟨rfl,rfl,rfl,by decide +kernel,rfl,by decide +kernel,by decide +kernel⟩
theorem d47:zaf (Gn T F46) false ["_law_script","_law_many","_law_weight","_law_tiles","_law_one","_law_here","_law_row","_law_costs","_law_column","_law_last","_law_made","_law_free"] (top 44)=some zoP:=by rfl
theorem s47:FnScope ["_law_script","_law_many","_law_weight","_law_tiles","_law_one","_law_here","_law_row","_law_costs","_law_column","_law_last","_law_made","_law_free"] ["_law_script"] (zaa (top 44)):=⟨rfl,rfl,rfl,by decide +kernel,rfl,by decide +kernel,by decide +kernel⟩
theorem gm{K:PySem.W.Frag}{x:Str}{st:Stmt}{f:Addr}{oc kV dc pm cd ct:Value}{od an:Option Addr}{sl:Array (Option Value)}(a:PySem.W.nsIn K mainGlobals x=some (some (.ref f)))(l:K.lookup f=some ⟨oc,od,.func (PySem.W.fnOf x x (zbH st) (zbs st) (zaa st) .none kV dc pm an cd ct),sl⟩)(c:PySem.W.codeIn K cd x=true)(k:PySem.W.keepIn K (.ref f)=true)(i:PySem.W.isFn K (.ref f)=true):GFn K x st:=⟨f,a,oc,od,kV,dc,pm,an,cd,ct,sl,l,c,k,i⟩
theorem mm{K:PySem.W.Frag}{x q:Str}{st:Stmt}{f:Addr}{oc kV dc pm cd ct:Value}{od an:Option Addr}{sl:Array (Option Value)}{C:Addr}(a:PySem.W.findIn K (.ref C) x=some (some (.ref f)))(l:K.lookup f=some ⟨oc,od,.func (PySem.W.fnOf x q (zbH st) (zbs st) (zaa st) .none kV dc pm an cd ct),sl⟩)(c:PySem.W.codeIn K cd q=true)(k:PySem.W.keepIn K (.ref f)=true)(i:PySem.W.isFn K (.ref f)=true):MFn K C x q st:=⟨f,a,oc,od,kV,dc,pm,an,cd,ct,sl,l,c,k,i⟩
theorem all_mk{l:PySem.W.OpenLaw}{w:PySem.World}{K:PySem.W.Frag}{h:Heap}{mg:Z6}{fa f47:Addr}(X:K.In h)(G:h.Ns mainGlobals mg)(hfa:mg "law" = some (.ref fa))
  {od47 an47:Option Addr} {sl47:Array (Option Value)} {oc47 kV47 dc47 pm47 cd47 ct47:Value}
  {yWays yMends:Addr}
  (nyWays:PySem.W.nsIn K mainGlobals "Ways" = some (some (.ref yWays))) (pgWays:PySem.W.plainGet K yWays Str.empty=true) (hdWays:PySem.W.hasDictIn K yWays=true) (poWays:PySem.W.plainOver K yWays=true) (saWays:PySem.W.findIn K (.ref yWays) "__setattr__" = some (some (.builtin "object.__setattr__"))) (mkWays:PySem.W.makesIn K yWays=true) (kpWays:PySem.W.keepIn K (.ref yWays)=true)
  (naWaystiles:PySem.W.findIn K (.ref yWays) "tiles" = some none)
  (naWaysground:PySem.W.findIn K (.ref yWays) "ground" = some none)
  (naWayssize:PySem.W.findIn K (.ref yWays) "size" = some none)
  (naWaysis_round:PySem.W.findIn K (.ref yWays) "is_round" = some none)
  (naWaysknown:PySem.W.findIn K (.ref yWays) "known" = some none)
  (nyMends:PySem.W.nsIn K mainGlobals "Mends" = some (some (.ref yMends))) (pgMends:PySem.W.plainGet K yMends Str.empty=true) (hdMends:PySem.W.hasDictIn K yMends=true) (poMends:PySem.W.plainOver K yMends=true) (saMends:PySem.W.findIn K (.ref yMends) "__setattr__" = some (some (.builtin "object.__setattr__"))) (mkMends:PySem.W.makesIn K yMends=true) (kpMends:PySem.W.keepIn K (.ref yMends)=true)
  (naMendssize:PySem.W.findIn K (.ref yMends) "size" = some none)
  (naMendsways:PySem.W.findIn K (.ref yMends) "ways" = some none)
  (naMendslaid:PySem.W.findIn K (.ref yMends) "laid" = some none)
  (naMendsweights:PySem.W.findIn K (.ref yMends) "weights" = some none)
  (naMendsknown:PySem.W.findIn K (.ref yMends) "known" = some none)
  {f22:Addr} {od22 an22:Option Addr} {sl22:Array (Option Value)} {oc22 kV22 dc22 pm22 cd22 ct22:Value}
  {dt22:Addr} {dl22:Value} {dm22:Option Addr} {dn22:Nat} {dq22:Array (Option Value)}
  (a22:PySem.W.findIn K (.ref yWays) "__init__" = some (some (.ref f22))) (i22:PySem.W.isFn K (.ref f22)=true)
  (l22:K.lookup f22=some ⟨oc22,od22,.func (PySem.W.fnOf "__init__" "Ways.__init__" (zbH (inC 0 (top 32))) (zbs (inC 0 (top 32))) (zaa (inC 0 (top 32))) (.ref dt22) kV22 dc22 pm22 an22 cd22 ct22),sl22⟩) (c22:PySem.W.codeIn K cd22 "Ways.__init__" = true) (k22:PySem.W.keepIn K (.ref f22)=true)
  (dk22:K.lookup dt22=some ⟨dl22,dm22,.seq #[Value.bool false] dn22,dq22⟩)
  (a47:PySem.W.nsIn K mainGlobals "law" = some (some (.ref f47)))
  (l47:K.lookup f47=some ⟨oc47,od47,.func (PySem.W.fnOf "law" "law" (zbH (top 44)) (zbs (top 44)) (zaa (top 44)) .none kV47 dc47 pm47 an47 cd47 ct47),sl47⟩) (c47:PySem.W.codeIn K cd47 "law" = true) (k47:PySem.W.keepIn K (.ref f47)=true)
  (z1:PySem.W.nsIn K mainGlobals "isinstance" = some none)
  (z2:PySem.W.nsIn K mainGlobals "int" = some none)
  (z3:PySem.W.nsIn K mainGlobals "bool" = some none)
  (z4:PySem.W.nsIn K mainGlobals "tuple" = some none)
  (z5:PySem.W.nsIn K mainGlobals "list" = some none)
  (z6:PySem.W.nsIn K mainGlobals "len" = some none)
  (z7:PySem.W.nsIn K mainGlobals "range" = some none)
  (z8:PySem.W.nsIn K mainGlobals "all" = some none)
  (z9:PySem.W.nsIn K mainGlobals "sum" = some none)
  (z10:PySem.W.nsIn K mainGlobals "min" = some none)
  (z11:PySem.W.nsIn K mainGlobals "zip" = some none)
  (z12:PySem.W.nsIn K mainGlobals "ValueError" = some none)
  {gt1:Tok} (gl1:PySem.W.nsIn K mainGlobals "NORTH" = some (some (.int 0 gt1)))
  {gt2:Tok} (gl2:PySem.W.nsIn K mainGlobals "EAST" = some (some (.int 1 gt2)))
  {gt3:Tok} (gl3:PySem.W.nsIn K mainGlobals "SOUTH" = some (some (.int 2 gt3)))
  {gt4:Tok} (gl4:PySem.W.nsIn K mainGlobals "WEST" = some (some (.int 3 gt4)))
  {e0 e1 e2:Addr}
  (n0:PySem.W.nsIn K mainGlobals "FloorError" = some (some (.ref e0))) (x0:PySem.W.excIn K e0 bmV "ValueError.__new__" = true)
  (n1:PySem.W.nsIn K mainGlobals "NoFill" = some (some (.ref e1))) (x1:PySem.W.excIn K e1 bmV "ValueError.__new__" = true)
  (n2:PySem.W.nsIn K mainGlobals "Unlike" = some (some (.ref e2))) (x2:PySem.W.excIn K e2 bmV "ValueError.__new__" = true)
  {el1:Value} {ed1:Option Addr} {ec1:ClassData} {es1:Array (Option Value)} (lk1:K.lookup e1=some ⟨el1,ed1,.cls ec1,es1⟩) (mr1:ec1.mro.contains (.ref e0)=true)
  {el2:Value} {ed2:Option Addr} {ec2:ClassData} {es2:Array (Option Value)} (lk2:K.lookup e2=some ⟨el2,ed2,.cls ec2,es2⟩) (mr2:ec2.mro.contains (.ref e0)=true)
  (p1:GFn K "is_whole" (top 10)) (p2:GFn K "is_tuple_of" (top 11)) (p3:GFn K "has_number" (top 12)) (p4:GFn K "empty" (top 13)) (p5:GFn K "size_of" (top 14)) (p6:GFn K "places_of" (top 15)) (p7:GFn K "is_row_like" (top 16)) (p8:GFn K "is_like" (top 17)) (p9:GFn K "refuse_unlike" (top 18)) (p10:GFn K "in_rows" (top 19)) (p11:GFn K "number_at" (top 20)) (p12:GFn K "laid_places" (top 21)) (p13:GFn K "has_tiles_of" (top 22)) (p14:GFn K "has_place" (top 23)) (p15:GFn K "edge_at" (top 24)) (p16:GFn K "colours_east" (top 25)) (p17:GFn K "colours_south" (top 26)) (p18:GFn K "do_clash" (top 27)) (p19:GFn K "clashes" (top 28)) (p20:GFn K "is_right" (top 29)) (p21:GFn K "suits" (top 31)) (p23:MFn K yWays "first_seam" "Ways.first_seam" (inC 1 (top 32))) (p24:MFn K yWays "ends_row" "Ways.ends_row" (inC 2 (top 32))) (p25:MFn K yWays "colour_round" "Ways.colour_round" (inC 3 (top 32))) (p26:MFn K yWays "seam_behind" "Ways.seam_behind" (inC 4 (top 32))) (p27:MFn K yWays "numbers_for" "Ways.numbers_for" (inC 5 (top 32))) (p28:MFn K yWays "fits_round" "Ways.fits_round" (inC 6 (top 32))) (p29:MFn K yWays "fits" "Ways.fits" (inC 7 (top 32))) (p30:MFn K yWays "choices" "Ways.choices" (inC 8 (top 32))) (p31:MFn K yWays "count_from" "Ways.count_from" (inC 9 (top 32))) (p32:MFn K yWays "count_all" "Ways.count_all" (inC 10 (top 32))) (p33:GFn K "count_fills" (top 33)) (p34:GFn K "is_fill" (top 34)) (p35:GFn K "cost_at" (top 36)) (p36:GFn K "cost_of" (top 37)) (p37:MFn K yMends "__init__" "Mends.__init__" (inC 0 (top 38))) (p38:MFn K yMends "offers" "Mends.offers" (inC 1 (top 38))) (p39:MFn K yMends "least_by_offers" "Mends.least_by_offers" (inC 2 (top 38))) (p40:MFn K yMends "least_from" "Mends.least_from" (inC 3 (top 38))) (p41:MFn K yMends "least_all" "Mends.least_all" (inC 4 (top 38))) (p42:MFn K yMends "least_whole" "Mends.least_whole" (inC 5 (top 38))) (p43:GFn K "least_cost" (top 39)) (p44:GFn K "mended" (top 40)) (p45:GFn K "_law_cell" (top 42)) (p46:GFn K "_law_pick" (top 43))
  : ∃fd:FuncData,(∀(s:Shared) (v:Value),BindsTo s fd ⟨[v],[]⟩ [("_law_script",v)])/\∀base:Heap,K.In base->base.Ns mainGlobals mg->FnOk l.prog w K mg base (CXE l.prog w) 145 fa fd ["_law_script"] (S2.zlL K):=by
 have e:=hfa.symm.trans (PySem.W.mg_of X G a47);cases e;have CLWays:Cls K yWays:=⟨pgWays,hdWays,poWays,saWays⟩;have CLMends:Cls K yMends:=⟨pgMends,hdMends,poMends,saMends⟩;have U22:FunD K "__init__" "Ways.__init__" (inC 0 (top 32)) f22 _ #[Value.bool false]:=⟨⟨_,_,_,_,dn22,_,_,_,_,_,_,_,rfl,l22,c22,dk22,rfl⟩⟩;have b22:zbJ K (PySem.W.fnOf "__init__" "Ways.__init__" (zbH (inC 0 (top 32))) (zbs (inC 0 (top 32))) (zaa (inC 0 (top 32))) (.ref dt22) kV22 dc22 pm22 an22 cd22 ct22) ["self","tiles","floor","is_round"] []:=fun s us KX hl=>bb4 (p:=fun us=>BindsTo s _ ⟨us,[]⟩ ((["self","tiles","floor","is_round"]:List Str).zip (us++[]))) (fun _ _ _ _=>PySem.W.binds_K KX rfl dk22 rfl rfl rfl) us (by simpa using hl)
 have bd22:zbJ K (PySem.W.fnOf "__init__" "Ways.__init__" (zbH (inC 0 (top 32))) (zbs (inC 0 (top 32))) (zaa (inC 0 (top 32))) (.ref dt22) kV22 dc22 pm22 an22 cd22 ct22) ["self","tiles","floor","is_round"] [Value.bool false]:=fun s us KX hl=>bb3 (p:=fun us=>BindsTo s _ ⟨us,[]⟩ ((["self","tiles","floor","is_round"]:List Str).zip (us++[Value.bool false]))) (fun _ _ _=>PySem.W.binds_K KX rfl dk22 rfl rfl rfl) us (by simpa using hl)
 have U47:=zni (st:=(top 44)) l47 c47 k47;refine ⟨PySem.W.fnOf "law" "law" (zbH (top 44)) (zbs (top 44)) (zaa (top 44)) .none kV47 dc47 pm47 an47 cd47 ct47,fun s v=>.of_eq rfl,fun base _ _=>?_⟩
 let cl:Cf:=⟨fun x=>(([("FloorError",e0),("NoFill",e1),("Unlike",e2),("Ways",yWays),("Mends",yMends)]:List (Str×Addr)).lookup x).getD 0,K,l.prog,w⟩
 have g0:GOk cl (Gn T F0) l.prog w K mg base 0:=zxq (cl:=cl) (zav ⟨.int 0,_,PySem.W.mg_of X G gl1,⟨_,rfl⟩,fun _=>.int _⟩ (zav ⟨.int 1,_,PySem.W.mg_of X G gl2,⟨_,rfl⟩,fun _=>.int _⟩ (zav ⟨.int 2,_,PySem.W.mg_of X G gl3,⟨_,rfl⟩,fun _=>.int _⟩ (zav ⟨.int 3,_,PySem.W.mg_of X G gl4,⟨_,rfl⟩,fun _=>.int _⟩ zfH)))) (zav (PySem.W.mg_none_of X G z1) (zav (PySem.W.mg_none_of X G z2) (zav (PySem.W.mg_none_of X G z3) (zav (PySem.W.mg_none_of X G z4) (zav (PySem.W.mg_none_of X G z5) (zav (PySem.W.mg_none_of X G z6) (zav (PySem.W.mg_none_of X G z7) (zav (PySem.W.mg_none_of X G z8) (zav (PySem.W.mg_none_of X G z9) (zav (PySem.W.mg_none_of X G z10) (zav (PySem.W.mg_none_of X G z11) (zav (PySem.W.mg_none_of X G z12) zfH)))))))))))) (zav ⟨PySem.W.mg_of X G n0,x0⟩ (zav ⟨PySem.W.mg_of X G n1,x1⟩ (zav ⟨PySem.W.mg_of X G n2,x2⟩ zfH))) (zav ⟨⟨_,_,x2⟩,_,_,_,_,lk2,mr2⟩ (zav ⟨⟨_,_,x1⟩,_,_,_,_,lk1,mr1⟩ zfH)) zfH (zav ⟨CLWays,naWaystiles⟩ (zav ⟨CLWays,naWaysground⟩ (zav ⟨CLWays,naWayssize⟩ (zav ⟨CLWays,naWaysis_round⟩ (zav ⟨CLWays,naWaysknown⟩ (zav ⟨CLMends,naMendssize⟩ (zav ⟨CLMends,naMendsways⟩ (zav ⟨CLMends,naMendslaid⟩ (zav ⟨CLMends,naMendsweights⟩ (zav ⟨CLMends,naMendsknown⟩ zfH))))))))));have g1:GOk cl (Gn T F1) l.prog w K mg base 1:=g0.addG X G p1 s1 rfl rfl rfl (fun _ _ _ _ _ _=>bb1 fun _=>rfl) d1;have g2:GOk cl (Gn T F2) l.prog w K mg base 2:=g1.addG X G p2 s2 rfl rfl rfl (fun _ _ _ _ _ _=>bb3 fun _ _ _=>rfl) d2;have g3:GOk cl (Gn T F3) l.prog w K mg base 3:=g2.addG X G p3 s3 rfl rfl rfl (fun _ _ _ _ _ _=>bb2 fun _ _=>rfl) d3;have g4:GOk cl (Gn T F4) l.prog w K mg base 4:=g3.addG X G p4 s4 rfl rfl rfl (fun _ _ _ _ _ _=>bb2 fun _ _=>rfl) d4;have g5:GOk cl (Gn T F5) l.prog w K mg base 5:=g4.addG X G p5 s5 rfl rfl rfl (fun _ _ _ _ _ _=>bb1 fun _=>rfl) d5;have g6:GOk cl (Gn T F6) l.prog w K mg base 6:=g5.addG X G p6 s6 rfl rfl rfl (fun _ _ _ _ _ _=>bb1 fun _=>rfl) d6;have g7:GOk cl (Gn T F7) l.prog w K mg base 7:=g6.addG X G p7 s7 rfl rfl rfl (fun _ _ _ _ _ _=>bb2 fun _ _=>rfl) d7;have g8:GOk cl (Gn T F8) l.prog w K mg base 8:=g7.addG X G p8 s8 rfl rfl rfl (fun _ _ _ _ _ _=>bb2 fun _ _=>rfl) d8;have g9:GOk cl (Gn T F9) l.prog w K mg base 9:=g8.addG X G p9 s9 rfl rfl rfl (fun _ _ _ _ _ _=>bb2 fun _ _=>rfl) d9;have g10:GOk cl (Gn T F10) l.prog w K mg base 10:=g9.addG X G p10 s10 rfl rfl rfl (fun _ _ _ _ _ _=>bb2 fun _ _=>rfl) d10;have g11:GOk cl (Gn T F11) l.prog w K mg base 11:=g10.addG X G p11 s11 rfl rfl rfl (fun _ _ _ _ _ _=>bb2 fun _ _=>rfl) d11;have g12:GOk cl (Gn T F12) l.prog w K mg base 12:=g11.addG X G p12 s12 rfl rfl rfl (fun _ _ _ _ _ _=>bb1 fun _=>rfl) d12;have g13:GOk cl (Gn T F13) l.prog w K mg base 13:=g12.addG X G p13 s13 rfl rfl rfl (fun _ _ _ _ _ _=>bb2 fun _ _=>rfl) d13;have g14:GOk cl (Gn T F14) l.prog w K mg base 14:=g13.addG X G p14 s14 rfl rfl rfl (fun _ _ _ _ _ _=>bb2 fun _ _=>rfl) d14;have g15:GOk cl (Gn T F15) l.prog w K mg base 15:=g14.addG X G p15 s15 rfl rfl rfl (fun _ _ _ _ _ _=>bb4 fun _ _ _ _=>rfl) d15;have g16:GOk cl (Gn T F16) l.prog w K mg base 16:=g15.addG X G p16 s16 rfl rfl rfl (fun _ _ _ _ _ _=>bb3 fun _ _ _=>rfl) d16;have g17:GOk cl (Gn T F17) l.prog w K mg base 17:=g16.addG X G p17 s17 rfl rfl rfl (fun _ _ _ _ _ _=>bb3 fun _ _ _=>rfl) d17;have g18:GOk cl (Gn T F18) l.prog w K mg base 18:=g17.addG X G p18 s18 rfl rfl rfl (fun _ _ _ _ _ _=>bb1 fun _=>rfl) d18;have g19:GOk cl (Gn T F19) l.prog w K mg base 19:=g18.addG X G p19 s19 rfl rfl rfl (fun _ _ _ _ _ _=>bb2 fun _ _=>rfl) d19;have g20:GOk cl (Gn T F20) l.prog w K mg base 20:=g19.addG X G p20 s20 rfl rfl rfl (fun _ _ _ _ _ _=>bb2 fun _ _=>rfl) d20;have g21:GOk cl (Gn T F21) l.prog w K mg base 21:=g20.addG X G p21 s21 rfl rfl rfl (fun _ _ _ _ _ _=>bb2 fun _ _=>rfl) d21;have G22:=zrr (cl:=cl) (wo:=w) (P:=l.prog) U22 s22 (g21.at "Ways") rfl rfl rfl d22;have g22:GOk cl (Gn T F22) l.prog w K mg base 23:=GOk.addK (k':=22) (fi:=⟨4,false,zaT⟩) (dvs:=[.bl false]) (g21.up (by decide)) (by decide) (PySem.W.mg_of X G nyWays) ⟨mkWays,a22,i22,kpWays⟩ b22 bd22 (.cons rfl .nil) (fun _=>(.cons (.bl _) .nil)) G22;have g23:GOk cl (Gn T F23) l.prog w K mg base 24:=g22.addMG (c:="Ways") CLWays p23 s23 rfl rfl rfl (fun _ _ _ _ _ _=>bb1 fun _=>rfl) d23;have g24:GOk cl (Gn T F24) l.prog w K mg base 25:=g23.addMG (c:="Ways") CLWays p24 s24 rfl rfl rfl (fun _ _ _ _ _ _=>bb2 fun _ _=>rfl) d24;have g25:GOk cl (Gn T F25) l.prog w K mg base 26:=g24.addMG (c:="Ways") CLWays p25 s25 rfl rfl rfl (fun _ _ _ _ _ _=>bb4 fun _ _ _ _=>rfl) d25;have g26:GOk cl (Gn T F26) l.prog w K mg base 27:=g25.addMG (c:="Ways") CLWays p26 s26 rfl rfl rfl (fun _ _ _ _ _ _=>bb4 fun _ _ _ _=>rfl) d26;have g27:GOk cl (Gn T F27) l.prog w K mg base 28:=g26.addMG (c:="Ways") CLWays p27 s27 rfl rfl rfl (fun _ _ _ _ _ _=>bb2 fun _ _=>rfl) d27;have g28:GOk cl (Gn T F28) l.prog w K mg base 29:=g27.addMG (c:="Ways") CLWays p28 s28 rfl rfl rfl (fun _ _ _ _ _ _=>bb4 fun _ _ _ _=>rfl) d28;have g29:GOk cl (Gn T F29) l.prog w K mg base 30:=g28.addMG (c:="Ways") CLWays p29 s29 rfl rfl rfl (fun _ _ _ _ _ _=>bb4 fun _ _ _ _=>rfl) d29;have g30:GOk cl (Gn T F30) l.prog w K mg base 31:=g29.addMG (c:="Ways") CLWays p30 s30 rfl rfl rfl (fun _ _ _ _ _ _=>bb3 fun _ _ _=>rfl) d30;have g31:GOk cl (Gn T F31) l.prog w K mg base 71:=g30.addRG (c:="Ways") CLWays p31 s31 rfl rfl rfl (fun _ _ _ _ _ _=>bb3 fun _ _ _=>rfl) d31 40;have g32:GOk cl (Gn T F32) l.prog w K mg base 72:=g31.addMG (c:="Ways") CLWays p32 s32 rfl rfl rfl (fun _ _ _ _ _ _=>bb1 fun _=>rfl) d32;have g33:GOk cl (Gn T F33) l.prog w K mg base 73:=g32.addG X G p33 s33 rfl rfl rfl (fun _ _ _ _ _ _=>bb2 fun _ _=>rfl) d33;have g34:GOk cl (Gn T F34) l.prog w K mg base 74:=g33.addG X G p34 s34 rfl rfl rfl (fun _ _ _ _ _ _=>bb3 fun _ _ _=>rfl) d34;have g35:GOk cl (Gn T F35) l.prog w K mg base 75:=g34.addG X G p35 s35 rfl rfl rfl (fun _ _ _ _ _ _=>bb3 fun _ _ _=>rfl) d35;have g36:GOk cl (Gn T F36) l.prog w K mg base 76:=g35.addG X G p36 s36 rfl rfl rfl (fun _ _ _ _ _ _=>bb3 fun _ _ _=>rfl) d36;have g37:GOk cl (Gn T F37) l.prog w K mg base 78:=g36.addKG (c:="Mends") X G nyMends mkMends kpMends p37 s37 rfl rfl rfl (fun _ _ _ _ _ _=>bb4 fun _ _ _ _=>rfl) d37;have g40:GOk cl (Gn T F40) l.prog w K mg base 138:=GOk.addR3G (cl:=cl) (c:="Mends") (n:=60) (n1:=8) (l1:=3) (b1:=zaG) (r1:=zbW) (n2:=5) (l2:=3) (b2:=zae) (r2:=zbC) (n3:=4) (l3:=3) (b3:=zah) (r3:=zay) g37 CLMends p38 p39 p40 s38 s39 s40 rfl rfl rfl (fun _ _ _ _ _ _=>bb3 fun _ _ _=>rfl) (fun _ _ _ _ _ _=>bb3 fun _ _ _=>rfl) (fun _ _ _ _ _ _=>bb3 fun _ _ _=>rfl) d38 d39 d40 rfl rfl rfl rfl rfl rfl rfl rfl rfl;have g41:GOk cl (Gn T F41) l.prog w K mg base 139:=g40.addMG (c:="Mends") CLMends p41 s41 rfl rfl rfl (fun _ _ _ _ _ _=>bb1 fun _=>rfl) d41;have g42:GOk cl (Gn T F42) l.prog w K mg base 140:=g41.addMG (c:="Mends") CLMends p42 s42 rfl rfl rfl (fun _ _ _ _ _ _=>bb1 fun _=>rfl) d42;have g43:GOk cl (Gn T F43) l.prog w K mg base 141:=g42.addG X G p43 s43 rfl rfl rfl (fun _ _ _ _ _ _=>bb3 fun _ _ _=>rfl) d43;have g44:GOk cl (Gn T F44) l.prog w K mg base 142:=g43.addG X G p44 s44 rfl rfl rfl (fun _ _ _ _ _ _=>bb3 fun _ _ _=>rfl) d44;have g45:GOk cl (Gn T F45) l.prog w K mg base 143:=g44.addG X G p45 s45 rfl rfl rfl (fun _ _ _ _ _ _=>bb2 fun _ _=>rfl) d45;have g46:GOk cl (Gn T F46) l.prog w K mg base 144:=g45.addG X G p46 s46 rfl rfl rfl (fun _ _ _ _ _ _=>bb3 fun _ _ _=>rfl) d46;have G47:=zg7 (cl:=cl) (wo:=w) (P:=l.prog) U47 s47 g46 rfl rfl rfl d47;exact G47.imp (zq7 (cl:=cl) zmo)
theorem walk{l:PySem.W.OpenLaw}{q:Program}{loose:List Str}{XP:(Str->Option Value)->Heap->Prop}{YP:PySem.World->Heap->Prop}{d:DefRec}{K:Params->PySem.W.Frag}(hn:l.most=some 63)(hdf:d.params.defaults=[])
  (hY:∀(w:PySem.World) (h:Heap),YP w h->(K w.params).In h)
  (F:∀(w:PySem.World) (mg:Z6) (fa:Addr) (h:Heap),(K w.params).In h->h.Ns mainGlobals mg->mg d.name=some (.ref fa) →
   ∃fd:FuncData,(∀(s:Shared) (u:Value),BindsTo s fd ⟨[u],[]⟩ [("_law_script",u)])/\∀base:Heap,(K w.params).In base->base.Ns mainGlobals mg->FnOk l.prog w (K w.params) mg base (CXE l.prog w) 145 fa fd ["_law_script"] (S2.zlL (K w.params))) :
  PySem.W.WalkO q loose XP YP l.row.toRowW d [] (fun f vs=>PySem.call f vs) :=
 L2.znx (n:=63) (k:=145) (x:="_law_script") (CX:=fun w=>CXE l.prog w) (sp:=fun w=>S2.zlL (K w.params)) hn (by decide) hdf ⟨rfl,by decide,by decide⟩ hY F (fun _ _ a ns hl hO hS=>⟨a,ns,rfl,hl,hO,hS,fun _=>rfl⟩) (by rintro _ _ _ _ _ ⟨_,_,_,_,_,_,_,_,_,_,_,_,_,_,z⟩;exact z)
end M99
namespace PySem.W.Fast
def tw4316853678870506132:=0
def tw609318553748521773:=0
def tw886352764748877161:=0
def tw15161966120185729264:=0
def tw9224896023078378513:=0
def tw9828647577122680488:=0
def tw8031922695249301898:=0
def tw13601055198143034084:=0
def tw1119125737987596767:=0
def tw13037560288789410802:=0
def tw3612798315829059229:=0
def tw11629155235255708059:=0
def tw18113823010124315515:=0
def tw14681242775405874873:=0
def tw14976349928367183523:=0
def tw3055236399227765427:=0
def tw5571312180538826725:=0
def tw5989939110244107617:=0
def tw1063268381798776910:=0
def tw16614467748828878492:=0
def tw2464906264029891303:=0
def tw11877088307652874890:=0
def tw16535620482776697782:=0
def tw6839407944128677122:=0
def tw5448728159936033899:=0
def tw2679310364653283036:=0
def tw3478302213875387291:=0
def tw1746618880274581153:=0
def tw2895408658359283793:=0
def tw3453953764141995121:=0
def tw14955765651917416097:=0
def tw7632457669614738788:=0
def tw5930804509164439724:=0
def tw5212018469386148132:=0
def tw10086277368941667995:=0
def tw4600465116869035472:=0
def tw14798647579478920184:=0
def tw8626083110340326125:=0
def tw12609105050479428696:=0
def tw9511729316584486719:=0
def tw4521606670560312820:=0
def tw9046885129922512705:=0
def tw4160025478012679505:=0
def tw9302359663254136038:=0
def tw11999084912283692822:=0
def tw14159410164385826403:=0
def tw5313916552419710368:=0
def tw17502826897945898078:=0
def tw6558269543826775325:=0
def tw16024604085007925914:=0
def tw13113373724475364524:=0
def tw13832076917779350435:=0
def tw8711708481075789285:=0
def tw13133380357276890789:=0
def tw11776348227843169739:=0
def tw11491235367162329344:=0
def tw451986310460473394:=0
def tw5436535833101299781:=0
def tw1839760932365199256:=0
def tw9765878732219103481:=0
def tw1725880810670353964:=0
def tw8676983653004470193:=0
def tw6731903728270360559:=0
def tw16483777338388686260:=0
def tw14724812131236211487:=0
def tw13481266881636002197:=0
def tw16525573882169295133:=0
def tw17856394094841986494:=0
def tw10144521660315096603:=0
def tw2962362489627650784:=0
def tw10462799927139432855:=0
def tw2753950674134180070:=0
def tw5100937480766382629:=0
def tw16889629385705630233:=0
def tw8400429412335264335:=0
def tw12280798206618092844:=0
def tw14065988898302742353:=0
def tw13912189579218351181:=0
def tw7620220358613463785:=0
def tw8883025982296796010:=0
def tw6155600539696786932:=0
def tw18322700976105977466:=0
def tw14925220255177982147:=0
def tw1862495896848304747:=0
def tw6278883105962487436:=0
def tw5899109007510163454:=0
def tw18044076503094559228:=0
def tw8309927874551162216:=0
def tw4098699476821582517:=0
def tw17147139972252732293:=0
def tw12085843696432082088:=0
def tw5809664904160554125:=0
def tw10940077137468462274:=0
def tw3816323067971307546:=0
def tw8489431476064698512:=0
def tw9966033885932957848:=0
def tw10689399385417333115:=0
def tw8442061369617602260:=0
def tw17576243433323860984:=0
def tw1385191114119878061:=0
def tw16250503787000308145:=0
def tw15363402419844693140:=0
def tw18103735643566291857:=0
def tw14352530096641592191:=0
def tw10192811372293382550:=0
def tw8371386700516709857:=0
def tw15014709739432240392:=0
def tw649610437339204520:=0
def tw1958851884990524345:=0
def tw8657023678440039613:=0
def tw2535326151095681962:=0
def tw3075765559492091889:=0
def tw6365081243772801790:=0
def tw11446403520343606062:=0
def tw9709996175758835739:=0
def tw13914782822292951288:=0
def tw2385879226085257896:=0
def tw5553460828878976361:=0
def tw352728482134914539:=0
def tw18017775875277765174:=0
def tw8707093420516468013:=0
def tw2110412903282074465:=0
def tw18436300864478174420:=0
def tw12974690863058115481:=0
def tw7152524227899302047:=0
def tw13388584724522181433:=0
def tw7548449819296353862:=0
def tw9831136791800686928:=0
def tw11068928761046946265:=0
def tw16095923062582564205:=0
def tw14713857454900368940:=0
def tw13795224188008920123:=0
def tw12618338264694712309:=0
def tw678534991249509702:=0
def tw2049499998854869303:=0
def tw12935314795166674576:=0
def tw6516980011310117437:=0
def tw5269542920380982759:=0
def tw10946143580817551751:=0
def tw2359295550646071827:=0
def tw5996737569735066598:=0
def tw4037756075327279977:=0
def tw3468960100010633305:=0
def tw15807567511289836934:=0
def tw9966844162308195279:=0
def tw5707761004267746127:=0
def tw8540704246077039055:=0
def tw5566701182150684934:=0
def tw9855416365032550124:=0
def tw9477274967750342043:=0
def tw3889833978874306320:=0
def tw6094359471060349000:=0
def tw9592064271546841430:=0
def tw8788289203823880509:=0
def tw2999532296985308986:=0
def tw3039408784487954332:=0
def tw2147154429466562201:=0
def tw14235967590030689331:=0
def tw8875788591831563689:=0
def tw18100464966859155832:=0
def tw1359629064952468192:=0
def tw12557143360003300726:=0
def tw7685944685169733918:=0
def tw18076174482706314296:=0
def tw1959973947168834520:=0
def tw8560026980649406959:=0
def tw16627984681498856737:=0
def tw15124513465698329979:=0
def tw239162069704348422:=0
def tw7041029443404767649:=0
def tw3277162517699309360:=0
def tw11625676224905956813:=0
def tw15764569253678279520:=0
def tw9028806937629753965:=0
def tw11916132587964494907:=0
def tw15530137815151821578:=0
def tw7449426176961494214:=0
def tw5949768144616309287:=0
def tw1299060407946256070:=0
def tw11937952274188662605:=0
def tw15382599767511531452:=0
def tw12173954961119963578:=0
def tw9623252768052452287:=0
def tw4122536457150686217:=0
def tw2792912213290881485:=0
def tw17405802920792329232:=0
def tw15239546419602050943:=0
def tw14702754615531544137:=0
def tw7854374286942849140:=0
def tw6767960882726689137:=0
def tw152457032719264499:=0
def tw3614209088463408565:=0
def tw14026309281899184724:=0
def tw11319215013563144733:=0
def tw8198948772454208083:=0
def tw7225113148177265320:=0
def tw12415382990257595497:=0
def tw15779515462048123278:=0
def tw3342341398974216209:=0
def tw17261668491211748847:=0
def tw8699472106431455803:=0
def tw3088796368295790606:=0
def tw11504350175739712979:=0
def tw6079071522747466162:=0
def tw4361238663584896536:=0
def tw5830959632656647328:=0
def tw18191363646409905363:=0
def tw14863285461423534328:=0
def tw11580570388270361571:=0
def tw4167141044775645939:=0
def tw5571204661415557494:=0
def tw917331341593571896:=0
def tw3532047450289166489:=0
def tw6497704594500081043:=0
def tw914316120417266525:=0
def tw828311529230592116:=0
def tw6813181735358966072:=0
def tw2022967035025338930:=0
def tw1967676658239848523:=0
def tw449976161440250988:=0
def tw15080991313223534738:=0
def tw14181876335300859367:=0
def tw7167122804048467841:=0
def tw2266844962683150571:=0
def tw5747846823952941342:=0
def tw1383686920573426703:=0
def tw4180164944392799303:=0
def tw2207025976599818807:=0
def tw1126110101301623958:=0
def tw3095243682680394506:=0
def tw2909096232263224396:=0
def tw1760705215121572014:=0
def tw460438443604386354:=0
def tw13622834882157505180:=0
def tw11561043753858185270:=0
def tw8052312184885797644:=0
def tw12351922433484321969:=0
def tw12215570168853738248:=0
def tw11824130325586849871:=0
def tw10462809703169997456:=0
def tw7312430544981547563:=0
def tw683400041287054930:=0
def tw16497409562055241919:=0
def tw11745162480938938672:=0
def tw11862204471115095722:=0
def tw364727480052576967:=0
def tw12861944404522181290:=0
def tw5045976773329995839:=0
def tw8179442025551233061:=0
def tw7658370282829929797:=0
def tw4878573643311184440:=0
def tw3021922366872632232:=0
def tw14462938601580456466:=0
def tw14003022204407101945:=0
def tw13015574257022561067:=0
def tw11020272229609655840:=0
def tw9058977832158316144:=0
def tw6572094437552513286:=0
def tw4236639708950610163:=0
def tw13825337528058178087:=0
def tw16808165816346169505:=0
def tw6775027808999067146:=0
def tw12599422443507531820:=0
def tw13022789109511651013:=0
def tw16239681049629352063:=0
def tw2682331144446752825:=0
def tw17258190418789513039:=0
def tw1852193916754885065:=0
def tw9977467435217270508:=0
def tw690337244121172166:=0
def tw8105358057749655669:=0
def tw7381538734596643316:=0
def tw267073009083008138:=0
def tw535516747034637742:=0
def tw11296665449590089713:=0
def tw8624917912587324572:=0
def tw4881843506904123881:=0
def tw7781107703410721073:=0
def tw2577611989959362323:=0
def tw9671271569299044611:=0
def tw15904362815241572841:=0
def tw765854113409227455:=0
def tw14281865158504463520:=0
def tw1251521725365364907:=0
def tw5403210672633344035:=0
def tw4145454761528816938:=0
def tw14606494339121176982:=0
def tw9445927935998750485:=0
def tw8307780098232330694:=0
def tw14791751270202778009:=0
def tw12866200794071538822:=0
def tw17024363545994080192:=0
def tw2715003201093174934:=0
def tw11122526883201347203:=0
def tw10043096830205427889:=0
def tw7394434114899613763:=0
def tw4414842442593605196:=0
def tw13599597845763781913:=0
def tw15941190699619602733:=0
def tw8617680660886753143:=0
def tw545316981843770472:=0
def tw9386708683190142750:=0
def tw5539102459763813839:=0
def tw1981448500787310201:=0
def tw16772880420528992941:=0
def tw12088936961589224033:=0
def tw11645015484469524928:=0
def tw16788315633355103489:=0
def tw10778078539520733795:=0
def tw7997691655766226352:=0
def tw5505087230869019993:=0
def tw4127669596264711625:=0
def tw16599871049719429085:=0
def tw16500286726838969862:=0
def tw1194921897086152688:=0
def tw9445186727663482851:=0
def tw8561307662240078089:=0
def tw6597041503590901728:=0
def tw5633426245590101516:=0
def tw18263357275319866524:=0
def tw17788995087219324077:=0
def tw1282854238919870784:=0
def tw1242416452291584070:=0
def tw4778882148493134149:=0
def tw4525986207624187753:=0
def tw17513831110005374845:=0
def tw16183549121985896326:=0
def tw14107761786262020851:=0
def tw12749396636795143452:=0
def tw12151908957282527372:=0
def tw977717688723984825:=0
def tw9739972177742659234:=0
def tw9315130657054068256:=0
def tw9313015445629393928:=0
def tw9219867928065234769:=0
def tw9068876678599198310:=0
def tw8939935913149220751:=0
def tw879802097744031229:=0
def tw8683183376902101738:=0
def tw8597455217307392071:=0
def tw8580868952243165598:=0
def tw8510544590202806316:=0
def tw8439317043603995230:=0
def tw8269261837133233570:=0
def tw8145852089477528356:=0
def tw8042850190646037000:=0
def tw7814686952428056331:=0
def tw7509379677356369278:=0
def tw7281813456185537136:=0
def tw7095555011680949762:=0
def tw6989932679841317102:=0
def tw6946178758896357213:=0
def tw6772023528630238899:=0
def tw6696187666150999359:=0
def tw6594627698192559970:=0
def tw6461306865763211928:=0
def tw6408608567099748043:=0
def tw6360748536519651916:=0
def tw5854535367491197890:=0
def tw5851823927915104101:=0
def tw5680753560078633027:=0
def tw5541900226480636101:=0
def tw5501403392395480821:=0
def tw5448583351491938206:=0
def tw5385440747669618571:=0
def tw5343273217812848522:=0
def tw5064217264424804373:=0
def tw4889795233167077464:=0
def tw4800365292186739118:=0
def tw4506337596068785987:=0
def tw435451950251351525:=0
def tw4267386079906282360:=0
def tw4244552821145643670:=0
def tw4031911797205538878:=0
def tw3899736202832812053:=0
def tw3899315886939742541:=0
def tw3388158330008888971:=0
def tw3263026017644294398:=0
def tw3216469043078799812:=0
def tw3198200856953223803:=0
def tw2985827276109273308:=0
def tw2900014708866989814:=0
def tw2741036531346228338:=0
def tw2636894117367733804:=0
def tw2217618815226707715:=0
def tw2115042738481761781:=0
def tw2112591682781194886:=0
def tw1814029430594772598:=0
def tw18029988639267741511:=0
def tw18018113776653689452:=0
def tw17867579962330338356:=0
def tw17803837338694060361:=0
def tw1766119324774204740:=0
def tw17635055500271186180:=0
def tw17490654134276995096:=0
def tw17202697686188998242:=0
def tw17182709648495966038:=0
def tw17121246222024314810:=0
def tw1661223446923725773:=0
def tw16358037986900982113:=0
def tw1633897651025796075:=0
def tw1620829109416609302:=0
def tw16131965782437463808:=0
def tw15937468464386404122:=0
def tw15460892696993563820:=0
def tw15445076947240919815:=0
def tw15297651855800148949:=0
def tw15233344181859599762:=0
def tw15194146881605704042:=0
def tw15097526948113366461:=0
def tw15089812480664895702:=0
def tw1506360310102762448:=0
def tw15035122664540693915:=0
def tw15027360097594494988:=0
def tw14983519457878345089:=0
def tw14877297389776974353:=0
def tw14627989004566605892:=0
def tw14588758003549601471:=0
def tw14475465661728196426:=0
def tw14472886994220272807:=0
def tw14397734936341992549:=0
def tw14218034878234310015:=0
def tw14121909536071323069:=0
def tw14117437819768337106:=0
def tw1407688050868482701:=0
def tw14072882797489322477:=0
def tw13927998042569666496:=0
def tw13907526514156686360:=0
def tw13799406546371368464:=0
def tw13529219720428977153:=0
def tw13516312658069720595:=0
def tw1322272313143085825:=0
def tw13064400721472196887:=0
def tw12978002293622164873:=0
def tw12938856607304672144:=0
def tw12922348070841088429:=0
def tw12865976035083646901:=0
def tw12720635677550699290:=0
def tw12629162781089477655:=0
def tw12617844028220931508:=0
def tw12464154115423833680:=0
def tw12448195871318484056:=0
def tw12258383319243687655:=0
def tw12236329710952813325:=0
def tw12050885955638004290:=0
def tw11837280663308007669:=0
def tw11628398334233024846:=0
def tw11615250204180414745:=0
def tw11360097193263628381:=0
def tw1129774070742935108:=0
def tw10703396674878781162:=0
def tw10522782202480634466:=0
def tw10478308273514047933:=0
def tw10139017776744837121:=0
end PySem.W.Fast
open PySem PySem.W PyProof.Rows
set_option maxRecDepth 100000 in
set_option maxHeartbeats 0 in
theorem PySem.Challenge.cw_floorfits_k99_whole_edges_by_hand_holds : PySem.Challenge.rw_floorfits_k99_whole_edges_by_hand.Holds := by
 w_on;o_law;k_head;(case hw=>w_witness2)
 k_fill
 refine M99.walk (l:=PySem.Challenge.rw_floorfits_k99_whole_edges_by_hand) rfl rfl (fun w h Y=>PySem.W.kIn_of Y) ?F
 case F =>
  intro w mg fa h KX G hmg;refine' M99.all_mk KX G hmg ?nyWays ?pgWays ?hdWays ?poWays ?saWays ?mkWays ?kpWays ?naWaystiles ?naWaysground ?naWayssize ?naWaysis_round ?naWaysknown ?nyMends ?pgMends ?hdMends ?poMends ?saMends ?mkMends ?kpMends ?naMendssize ?naMendsways ?naMendslaid ?naMendsweights ?naMendsknown ?a22 ?i22 ?l22 ?c22 ?k22 ?dk22 ?a47 ?l47 ?c47 ?k47 ?z1 ?z2 ?z3 ?z4 ?z5 ?z6 ?z7 ?z8 ?z9 ?z10 ?z11 ?z12 ?gl1 ?gl2 ?gl3 ?gl4 ?n0 ?x0 ?n1 ?x1 ?n2 ?x2 ?lk1 ?mr1 ?lk2 ?mr2 ?_ ?_ ?_ ?_ ?_ ?_ ?_ ?_ ?_ ?_ ?_ ?_ ?_ ?_ ?_ ?_ ?_ ?_ ?_ ?_ ?_ ?_ ?_ ?_ ?_ ?_ ?_ ?_ ?_ ?_ ?_ ?_ ?_ ?_ ?_ ?_ ?_ ?_ ?_ ?_ ?_ ?_ ?_ ?_ ?_
  (case nyWays=>k_is);(case pgWays=>k_is);(case hdWays=>k_is);(case poWays=>k_is)
  (case saWays=>k_is);(case mkWays=>k_is);(case kpWays=>k_is);(case naWaystiles=>k_is)
  (case naWaysground=>k_is);(case naWayssize=>k_is);(case naWaysis_round=>k_is);(case naWaysknown=>k_is)
  (case nyMends=>k_is);(case pgMends=>k_is);(case hdMends=>k_is);(case poMends=>k_is)
  (case saMends=>k_is);(case mkMends=>k_is);(case kpMends=>k_is);(case naMendssize=>k_is)
  (case naMendsways=>k_is);(case naMendslaid=>k_is);(case naMendsweights=>k_is);(case naMendsknown=>k_is)
  (case a22=>k_is);(case i22=>k_is);(case l22=>k_is);(case c22=>k_is)
  (case k22=>k_is);(case dk22=>k_is);(case a47=>k_is);(case l47=>k_is)
  (case c47=>k_is);(case k47=>k_is);(case z1=>k_is);(case z2=>k_is)
  (case z3=>k_is);(case z4=>k_is);(case z5=>k_is);(case z6=>k_is)
  (case z7=>k_is);(case z8=>k_is);(case z9=>k_is);(case z10=>k_is)
  (case z11=>k_is);(case z12=>k_is);(case gl1=>k_is);(case gl2=>k_is)
  (case gl3=>k_is);(case gl4=>k_is);(case n0=>k_is);(case x0=>k_exc)
  (case n1=>k_is);(case x1=>k_exc);(case n2=>k_is);(case x2=>k_exc)
  (case lk1=>k_is);(case mr1=>with_unfolding_all rfl);(case lk2=>k_is);(case mr2=>with_unfolding_all rfl)
  all_goals ((first | refine' M99.gm ?a ?l ?c ?k ?i | refine' M99.mm ?a ?l ?c ?k ?i);(case a=>k_is);(case l=>k_is);(case c=>k_is);(case k=>k_is);(case i=>k_is))
#print axioms PySem.Challenge.cw_floorfits_k99_whole_edges_by_hand_holds
