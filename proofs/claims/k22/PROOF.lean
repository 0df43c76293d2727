import PyProof.Rows.All
import Wide.All
import OpenK.AllK
import Wide.FinOn
import Lean
import PyProof.EqAt
import PyProof.EqKinds
import PyProof.TupleCall
import PySem.SetTable
import PyProof.TupleKey
import Wide.Seal
import PyProof.DictRoadsH
import PyProof.Rows.TupTab
import PyProof.Draws
import PyProof.EnumMake
import OpenK.KRaise
import OpenK.KOwn
import PyProof.Rows.TopTwo
import PyProof.RulesAs
import PyProof.RulesDel
import PyProof.ExcArgsOwn
import PyProof.ExcAttrAll.ValueError
import PyProof.Rows.CountFlat
import PyProof.SumWalk
import PyProof.Rows.SeqCalls
import PyProof.ZipIter
import KE.KRevIter
import PyProof.CollectIter
import PyProof.TupleOfGen
import PyProof.ListRange
import PyProof.WalkInts
import PySem.Challenge.RW_floorfits_k22_whole_known_grows
set_option Elab.async false
set_option linter.all false
set_option maxRecDepth 100000
set_option maxHeartbeats 4000000
abbrev Z1:=Nat->Nat->Option Int
abbrev Z2:=List (List Int)
abbrev Z3:=List (PySem.Addr×PySem.Obj)
abbrev Z4:=List (Option Int)
abbrev Z5:=PySem.Value->PySem.Shared->Prop
abbrev Z6:=PySem.Str->Option PySem.Value
namespace L2
open PySem PySem.Spec PyProof.Rows
abbrev Key:=Sum Int Str
def keyIs:Key->Value->Bool
 | .inl k,v=>Value.isInt k v
 | .inr x,v=>Value.isStrOf x v
def keyH(w:World):Key->Int
 | .inl k=>hashInt k
 | .inr x=>hashStr w x
theorem keyIs_shape:∀{k:Key} {v:Value},keyIs k v=true->(∃i t,k=Sum.inl i/\v=Value.int i t)\/(∃x t,k=Sum.inr x/\v=Value.str x t)
 | .inl i,v,h=>by
  obtain ⟨t,e⟩:=Value.isInt_shape (k:=i) (v:=v) h
  exact .inl ⟨i,t,rfl,e⟩
 | .inr x,v,h=>by
  obtain ⟨t,e⟩:=Value.isStrOf_shape (x:=x) (v:=v) h
  exact .inr ⟨x,t,rfl,e⟩
theorem key_ll(a b:Int):decide ((Sum.inl a:Key)=Sum.inl b)=(a == b):=by
 by_cases e:a=b
 ·subst e;simp
 ·have h:¬ (Sum.inl a:Key)=Sum.inl b:=fun q=>e (Sum.inl.inj q)
  rw [decide_eq_false h]
  exact (beq_eq_false_iff_ne.mpr e).symm
theorem key_rr(a b:Str):decide ((Sum.inr a:Key)=Sum.inr b)=decide (a=b):=by
 by_cases e:a=b
 ·subst e;simp
 ·have h:¬ (Sum.inr a:Key)=Sum.inr b:=fun q=>e (Sum.inr.inj q)
  rw [decide_eq_false h,decide_eq_false e]
theorem key_lr(a:Int)(b:Str):decide ((Sum.inl a:Key)=Sum.inr b)=false:=decide_eq_false (fun q=>nomatch q)
theorem key_rl(a:Str)(b:Int):decide ((Sum.inr a:Key)=Sum.inl b)=false:=decide_eq_false (fun q=>nomatch q)
def mixKind(prog:Program)(w:World):PySem.KeyKind prog w Key where
 is:=keyIs
 hash:=keyH w
 inj:=fun v a b ha hb=>by
  rcases keyIs_shape ha with ⟨i,t,rfl,rfl⟩ | ⟨x,t,rfl,rfl⟩
  ·rcases keyIs_shape hb with ⟨j,u,rfl,e⟩ | ⟨y,u,rfl,e⟩
   ·injection e with e1 _;rw [e1]
   ·exact nomatch e
  ·rcases keyIs_shape hb with ⟨j,u,rfl,e⟩ | ⟨y,u,rfl,e⟩
   ·exact nomatch e
   ·injection e with e1 _;rw [e1]
 byValue:=fun k v h=>by
  rcases keyIs_shape h with ⟨i,t,rfl,rfl⟩ | ⟨x,t,rfl,rfl⟩<;>rfl
 pyHash:=fun hv h=>by
  rcases keyIs_shape hv with ⟨i,t,rfl,rfl⟩ | ⟨x,t,rfl,rfl⟩
  ·exact wpAny_pyHash_int h
  ·exact wpAny_pyHash_str h
 eqBool:=fun hu hv h=>by
  rcases keyIs_shape hu with ⟨i,t,rfl,rfl⟩ | ⟨x,t,rfl,rfl⟩
  ·rcases keyIs_shape hv with ⟨j,u,rfl,rfl⟩ | ⟨y,u,rfl,rfl⟩
   ·rw [key_ll] at h;exact wpAny_eqBool_int h
   ·rw [key_lr] at h;exact SeqAt.EqAt.int_str i t y u _ _ _ _ h
  ·rcases keyIs_shape hv with ⟨j,u,rfl,rfl⟩ | ⟨y,u,rfl,rfl⟩
   ·rw [key_rl] at h;exact SeqAt.EqAt.str_int x t j u _ _ _ _ h
   ·rw [key_rr] at h;exact wpAny_eqBool_str h
 «strs»:=fun k x t v h=>by
  rcases keyIs_shape h with ⟨i,u,rfl,e⟩ | ⟨y,u,rfl,e⟩
  ·exact nomatch e
  ·injection e with e1 _
   subst e1
   cases v<;>rfl
end L2
namespace L2
open PySem PySem.Spec PyProof.Rows
inductive V where
 | non | bl (b:Bool) | int (i:Int) | str (x:Str) | byt (b:Array UInt8) | flt (b:UInt64) | ref (a:Addr) | ty (n:String)
 deriving DecidableEq
def RelV:V->Value->Prop
 | .non,u=>u=Value.none
 | .bl b,u=>u=Value.bool b
 | .int i,u=>∃t,u=Value.int i t
 | .str x,u=>∃t,u=Value.str x t
 | .byt b,u=>∃t,u=Value.bytes b t
 | .flt b,u=>∃t,u=Value.float b t
 | .ref a,u=>u=Value.ref a
 | .ty n,u=>u=Value.type n
abbrev Vals:List V->List Value->Prop:=Paired RelV
theorem Vals.length{xs:List V}{us:List Value}(r:Vals xs us):xs.length=us.length:=Paired.length r
theorem Vals.get:∀{xs:List V} {us:List Value} {i:Nat} {x:V},Vals xs us->xs[i]?=some x->∃u,us[i]?=some u/\RelV x u
 | _,_,_,_,.nil,e=>by simp at e
 | _,_,0,_,.cons r _,e=>by simp at e;subst e;exact ⟨_,rfl,r⟩
 | _,_,i+1,x,.cons _ t,e=>by
  obtain ⟨u,h1,h2⟩:=Vals.get (i:=i) (x:=x) t (by simpa using e)
  exact ⟨u,by simpa using h1,h2⟩
theorem Vals.append:∀{xs ys:List V} {us ws:List Value},Vals xs us->Vals ys ws->Vals (xs++ys) (us++ws)
 | _,_,_,_,.nil,s=>s
 | _,_,_,_,.cons r t,s=>.cons r (Vals.append t s)
theorem Vals.take:∀{xs:List V} {us:List Value} (n:Nat),Vals xs us->Vals (xs.take n) (us.take n)
 | _,_,0,_=>.nil
 | _,_,_+1,.nil=>.nil
 | _,_,n+1,.cons r t=>.cons r (Vals.take n t)
theorem Vals.drop:∀{xs:List V} {us:List Value} (n:Nat),Vals xs us->Vals (xs.drop n) (us.drop n)
 | _,_,0,r=>r
 | _,_,_+1,.nil=>.nil
 | _,_,n+1,.cons _ t=>Vals.drop n t
def RelO:Option V->Option Value->Prop
 | some v,some u=>RelV v u
 | none,none=>True
 | _,_=>False
def KV{κ:Type}:List (κ×V)->List (κ×Value)->Prop:=Paired fun (p:κ×V) (q:κ×Value)=>p.1=q.1/\RelV p.2 q.2
def kV:Key->V
 | .inl i=>.int i
 | .inr x=>.str x
inductive HO where
 | lst (xs:List V)
 | tup (xs:List V)
 | dK (kvs:List (Key×V)) | dT (kvs:List (List Key×V))
 | set (S:Int->Bool) (n:Nat)
 | ins (C dx:Addr) (fs:List (Str×V))
 | own (x:Addr)
 | xd (fs:List (Str×V))
 | met (f x:Addr)
 | rng (lo hi:Int)
 | frz (o:Obj) (u:HO)
 | tbl (ps:Array Value)
 | ext (φ:Heap->Prop)
abbrev Hp:=Addr->Option HO
def upd(H:Hp)(a:Addr)(o:HO):Hp:=fun b=>if b=a then some o else H b
theorem upd_same{H:Hp}{a:Addr}{o:HO}:upd H a o a=some o:=by unfold upd;rw [if_pos rfl]
theorem upd_ne{H:Hp}{a b:Addr}{o:HO}(h:b≠a):upd H a o b=H b:=by unfold upd;rw [if_neg h]
theorem ne_of_none{H:Hp}{a b:Addr}{o:HO}(h:H a=some o)(h':H b=none):a≠b:=by
 intro e;subst e;rw [h] at h';cases h'
section
variable(P:Program)(w:World)
def ObjOk(H:Hp)(h:Heap)(a:Addr):HO->Prop
 | .lst xs=>xs.length<=sizeLine/\∃(its:List Value) (n:Nat),Vals xs its/\h.get? a=some { cls:=.type "list",data:=.seq its.toArray n }
 | .tup xs=>xs.length<=sizeLine/\∃its:List Value,Vals xs its/\IsTup h a its.toArray
 | .dK kvs=>kvs.length<=sizeLine/\(a == sysModules)=false/\∃vs,KV kvs vs/\h.DictOf (mixKind P w) a vs
 | .dT kvs=>kvs.length<=sizeLine/\(a == sysModules)=false/\∃xs:List (List Key×Addr×Value),
   Paired (fun (p:List Key×V) (q:List Key×Addr×Value)=>p.1=q.1/\H q.2.1=some (.tup (p.1.map kV))/\RelV p.2 q.2.2) kvs xs ∧
   ∃o es ep,h.get? a=some o/\o.ExactDict/\o.data=.dict es ep/\es.toList=xs.map (entryOfKey (tupleKind (mixKind P w)))/\(xs.map (·.1)).Nodup
 | .set S n=>h.SetOf (intKind P w) a S n
 | .ins C dx fs=>H dx=some (.own a)/\fs.length<=1000/\dx≠a/\h.get? a=some (PySem.W.instObj C dx) ∧
   ∃mA,h.Ns1 dx mA/\(∀f,RelO (fs.lookup f) (mA f))/\PySem.Within mA (fs.map (·.1))
 | .own _=>∃o,h.get? a=some o
 | .xd fs=>∃mA,h.Ns1 a mA/\∀f,RelO (fs.lookup f) (mA f)
 | .rng lo hi=>∃t u v,h.get? a=some { cls:=.type "range",data:=.fields #[.int lo t,.int hi u,.int 1 v] }
 | .frz o u=>h.get? a=some o/\ObjOk H h a u
 | .tbl ps=>h.get? a=some { cls:=.none,data:=.fields ps }
 | .met f x=>h.get? a=some (PySem.W.methodObj (.ref f) (.ref x))
 | .ext φ=>φ h/\(∃o,h.get? a=some o)/\∀h1 h2:Heap,φ h1->(∀o,h1.get? a=some o->h2.get? a=some o)->φ h2
def HOk(H:Hp)(h:Heap):Prop:=∀a o,H a=some o->ObjOk P w H h a o
end
section
variable{P:Program}{w:World}{H H':Hp}{h h':Heap}{a:Addr}{o:HO}
theorem ObjOk.lt(x:ObjOk P w H h a o):a<h.objs.size:=by
 cases o with
 | lst xs=>obtain ⟨_,_,_,_,e⟩:=x;exact Heap.lt_size e
 | tup xs=>obtain ⟨_,_,_,p⟩:=x;exact p.lt
 | dK kvs=>obtain ⟨_,_,_,_,o,_,_,e,_⟩:=x;exact Heap.lt_size e
 | dT kvs=>obtain ⟨_,_,_,_,o,_,_,e,_⟩:=x;exact Heap.lt_size e
 | set S n=>obtain ⟨o,_,_,_,e,_⟩:=x;exact Heap.lt_size e
 | ins C dx fs=>obtain ⟨_,_,_,e,_⟩:=x;exact Heap.lt_size e
 | own y=>obtain ⟨_,e⟩:=x;exact Heap.lt_size e
 | xd fs=>obtain ⟨_,⟨_,_,_,e,_⟩,_⟩:=x;exact Heap.lt_size e
 | rng lo hi=>obtain ⟨_,_,_,e⟩:=x;exact Heap.lt_size e
 | frz ob u=>obtain ⟨e,_⟩:=x;exact Heap.lt_size e
 | tbl ps=>exact Heap.lt_size (show h.get? a=some _ from x)
 | met f y=>exact Heap.lt_size (show h.get? a=some _ from x)
 | ext φ=>obtain ⟨_,⟨_,e⟩,_⟩:=x;exact Heap.lt_size e
theorem Paired.mapP{α β:Type}{F G:α->β->Prop}:∀{l₁:List α} {l₂:List β},Paired F l₁ l₂->(∀a b,F a b->G a b)->Paired G l₁ l₂
 | _,_,.nil,_=>.nil
 | _,_,.cons r t,f=>.cons (f _ _ r) (Paired.mapP t f)
theorem ObjOk.stay(x:ObjOk P w H h a o)(k:∀b u,(b=a\/H b=some (.own a))->h.get? b=some u->h'.get? b=some u)
  (ho:∀b,H b=some (.own a)->H' b=some (.own a)) (ht:∀b xs,H b=some (.tup xs)->H' b=some (.tup xs)):ObjOk P w H' h' a o:=by
 induction o with
 | lst xs=>obtain ⟨z,its,n,r,e⟩:=x;exact ⟨z,its,n,r,k _ _ (.inl rfl) e⟩
 | tup xs=>obtain ⟨z,its,r,ob,e,c⟩:=x;exact ⟨z,its,r,ob,k _ _ (.inl rfl) e,c⟩
 | dK kvs=>obtain ⟨z,y,vs,r,ob,es,ep,e,c⟩:=x;exact ⟨z,y,vs,r,ob,es,ep,k _ _ (.inl rfl) e,c⟩
 | dT kvs =>
  obtain ⟨z,y,xs,r,ob,es,ep,e,c⟩:=x
  exact ⟨z,y,xs,Paired.mapP r fun p q z=>⟨z.1,ht _ _ z.2.1,z.2.2⟩,ob,es,ep,k _ _ (.inl rfl) e,c⟩
 | set S n=>obtain ⟨ob,es,ep,t,e,c⟩:=x;exact ⟨ob,es,ep,t,k _ _ (.inl rfl) e,c⟩
 | ins C dx fs =>
  obtain ⟨d,z,ne,e,mA,⟨od,es,ep,e2,c⟩,r⟩:=x
  exact ⟨ho _ d,z,ne,k _ _ (.inl rfl) e,mA,⟨od,es,ep,k _ _ (.inr d) e2,c⟩,r⟩
 | own y=>obtain ⟨ob,e⟩:=x;exact ⟨ob,k _ _ (.inl rfl) e⟩
 | xd fs=>obtain ⟨mA,⟨od,es,ep,e,c⟩,r⟩:=x;exact ⟨mA,⟨od,es,ep,k _ _ (.inl rfl) e,c⟩,r⟩
 | rng lo hi=>obtain ⟨t,u,v,e⟩:=x;exact ⟨t,u,v,k _ _ (.inl rfl) e⟩
 | frz ob u ih=>obtain ⟨e,q⟩:=x;exact ⟨k _ _ (.inl rfl) e,ih q⟩
 | tbl ps =>
  have e:h.get? a=some { cls:=.none,data:=.fields ps }:=x
  show h'.get? a=some { cls:=.none,data:=.fields ps }
  exact k a _ (.inl rfl) e
 | met f y =>
  have e:h.get? a=some (PySem.W.methodObj (.ref f) (.ref y)):=x
  show h'.get? a=some (PySem.W.methodObj (.ref f) (.ref y))
  exact k a _ (.inl rfl) e
 | ext φ=>obtain ⟨p,⟨o,e⟩,st⟩:=x;exact ⟨st _ _ p fun o q=>k _ _ (.inl rfl) q,⟨o,k _ _ (.inl rfl) e⟩,st⟩
theorem HOk.lt(x:HOk P w H h)(e:H a=some o):a<h.objs.size:=(x a o e).lt
theorem HOk.fresh(x:HOk P w H h)(e:h.objs.size<=a):H a=none:=by
 cases q:H a with
 | none=>rfl
 | some u=>exact absurd (Nat.lt_of_lt_of_le (x.lt q) e) (Nat.lt_irrefl _)
theorem HOk.kept(x:HOk P w H h)(k:∀b u,h.get? b=some u->h'.get? b=some u):HOk P w H h':=fun a o e =>
 (x a o e).stay (fun b u _ q=>k b u q) (fun _ q=>q) fun _ _ q=>q
theorem HOk.laid(x:HOk P w H h)(k:∀b u,h.get? b=some u->h'.get? b=some u)(hp:h.objs.size<=a)(new:ObjOk P w (upd H a o) h' a o):HOk P w (upd H a o) h':=fun b u e=>by
 have hn:=x.fresh hp
 by_cases hb:b=a
 ·subst hb;rw [upd_same] at e;cases e;exact new
 ·rw [upd_ne hb] at e
  exact (x b u e).stay (fun c v _ q=>k c v q) (fun c q=>by rw [upd_ne (ne_of_none q hn)];exact q) fun c xs q=>by rw [upd_ne (ne_of_none q hn)];exact q
end
def Rd(H:Hp)(a:Addr)(u:HO):Prop:=H a=some u\/∃o,H a=some (.frz o u)
theorem Rd.ok{P:Program}{w:World}{H:Hp}{h:Heap}{a:Addr}{u:HO}(r:Rd H a u)(x:HOk P w H h):ObjOk P w H h a u:=by
 rcases r with r | ⟨o,r⟩
 ·exact x a u r
 ·obtain ⟨_,q⟩:=x a _ r
  exact q
def Mut:Option HO->Prop
 | some (.lst _)=>True
 | some (.dK _)=>True
 | some (.dT _)=>True
 | some (.set _ _)=>True
 | some (.ins _ _ _)=>True
 | some (.ext _)=>True
 | _=>False
section
variable{P:Program}{w:World}{H:Hp}{h h':Heap}{x e:Addr}{o':HO}
theorem HOk.write(ok:HOk P w H h)(mu:Mut (H x))(he:e=x\/H e=some (.own x))(k:∀b u,b≠e->h.get? b=some u->h'.get? b=some u)(heo:∃u,h'.get? e=some u)
  (new:ObjOk P w (upd H x o') h' x o'):HOk P w (upd H x o') h':=fun b u q=>by
 have nown:∀c y,H c=some (.own y)->c≠x:=fun c y r z=>by subst z;rw [r] at mu;exact mu
 have ntup:∀c xs,H c=some (.tup xs)->c≠x:=fun c xs r z=>by subst z;rw [r] at mu;exact mu
 by_cases hb:b=x
 ·subst hb;rw [upd_same] at q;cases q;exact new
 ·rw [upd_ne hb] at q
  by_cases hbe:b=e
  ·have q':H b=some (.own x):=by
    rcases he with z | z
    ·exact absurd (hbe.trans z) hb
    ·rw [hbe];exact z
   rw [q] at q';cases q'
   obtain ⟨v,hv⟩:=heo
   exact ⟨v,by rw [hbe];exact hv⟩
  ·refine (ok b u q).stay (fun c v hc r=>k c v ?_ r) (fun c r=>by rw [upd_ne (nown c b r)];exact r) fun c xs r=>by rw [upd_ne (ntup c xs r)];exact r
   rcases hc with rfl | hc
   ·exact hbe
   ·rintro rfl
    rcases he with z | z
    ·exact nown c b hc z
    ·rw [hc] at z;cases z;exact hb rfl
end
structure Un(fs ex:List Addr)(H H':Hp)(h h':Heap):Prop where
 keep:∀b o,h.get? b=some o->H b=none->b ∉ fs->b ∉ ex->h'.get? b=some o
 slot:∀b o,h.get? b=some o->H b=none->b∈fs->b ∉ ex->∃sl,h'.get? b=some { o with slots:=sl }
 free:∀b o,h.get? b=some o->H b=none->b ∉ ex->H' b=none
 there:∀b o,h.get? b=some o->b ∉ ex->∃o',h'.get? b=some o'
 tups:∀b xs,H b=some (.tup xs)->H' b=some (.tup xs)
 frzs:∀b o u,H b=some (.frz o u)->H' b=some (.frz o u)
 tbls:∀b ps,H b=some (.tbl ps)->∃more,H' b=some (.tbl (ps++more))
section
variable{fs fs' ex ex':List Addr}{H H1 H2:Hp}{h h1 h2 h':Heap}{a x e:Addr}{o:HO}
theorem Un.any(u:Un fs ex H H1 h h1){b:Addr}{ob:Obj}(q:h.get? b=some ob)(n:H b=none)(hx:b ∉ ex):∃sl,h1.get? b=some { ob with slots:=sl }:=by
 by_cases hb:b∈fs
 ·exact u.slot b ob q n hb hx
 ·exact ⟨ob.slots,u.keep b ob q n hb hx⟩
theorem Un.kept(k:∀b u,h.get? b=some u->h'.get? b=some u):Un fs ex H H h h' :=
 ⟨fun b ob q _ _ _=>k b ob q,fun b ob q _ _ _=>⟨ob.slots,k b ob q⟩,fun _ _ _ n _=>n,fun b ob q _=>⟨ob,k b ob q⟩,fun _ _ q=>q,fun _ _ _ q=>q,fun _ ps q=>⟨#[],by rw [q];simp⟩⟩
theorem Un.refl:Un fs ex H H h h:=Un.kept fun _ _ q=>q
theorem Un.laid(k:∀b u,h.get? b=some u->h'.get? b=some u)(hp:h.objs.size<=a)(hn:H a=none):Un fs ex H (upd H a o) h h' where
 keep:=fun b u q _ _ _=>k b u q
 slot:=fun b u q _ _ _=>⟨u.slots,k b u q⟩
 free:=fun b u q n _=>by rw [upd_ne (Nat.ne_of_lt (Nat.lt_of_lt_of_le (Heap.lt_size q) hp))];exact n
 there:=fun b u q _=>⟨u,k b u q⟩
 tups:=fun b xs q=>by rw [upd_ne (ne_of_none q hn)];exact q
 frzs:=fun b u xs q=>by rw [upd_ne (ne_of_none q hn)];exact q
 tbls:=fun b ps q=>⟨#[],by rw [upd_ne (ne_of_none q hn),q];simp⟩
theorem Un.write(mu:Mut (H x))(he:e=x\/H e=some (.own x))(k:∀b u,b≠e->h.get? b=some u->h'.get? b=some u)(heo:∃u,h'.get? e=some u):Un fs ex H (upd H x o) h h':=by
 have hx:∀b,H b=none->b≠x:=fun b n z=>by subst z;rw [n] at mu;exact mu
 have hb:∀b,H b=none->b≠e:=fun b n z=>by
  subst z
  rcases he with r | r
  ·exact hx b n r
  ·rw [n] at r;cases r
 have hm:∀b u,H b=some u->¬ Mut (some u)->b≠x:=fun b u q nm z=>by subst z;rw [q] at mu;exact nm mu
 refine ⟨fun b u q n _ _=>k b u (hb b n) q,fun b u q n _ _=>⟨u.slots,k b u (hb b n) q⟩,fun b u q n _=>by rw [upd_ne (hx b n)];exact n,fun b u q _=>?_,
  fun b xs q=>by rw [upd_ne (hm b _ q fun z=>z)];exact q,fun b u xs q=>by rw [upd_ne (hm b _ q fun z=>z)];exact q,fun b ps q=>⟨#[],by rw [upd_ne (hm b _ q fun z=>z),q];simp⟩⟩
 by_cases hbe:b=e
 ·subst hbe;exact heo
 ·exact ⟨u,k b u hbe q⟩
end
def trk(h:Heap)(H:Hp):List Addr:=(List.range h.objs.size).filter fun a=>(H a).isSome
def hidT(h:Heap)(H:Hp):Heap:=PySem.W.hideAll h (trk h H)
theorem hidT_size(h:Heap)(H:Hp):(hidT h H).objs.size=h.objs.size:=PySem.W.hideAll_size _ _
theorem hidT_get{h:Heap}{H:Hp}{b:Addr}{o:Obj}(e:h.get? b=some o)(n:H b=none):(hidT h H).get? b=some o :=
 PySem.W.hideAll_get _ e fun hm=>by
  have q:(H b).isSome=true:=(List.mem_filter.mp hm).2
  rw [n] at q;simp at q
theorem of_hidT{h:Heap}{H:Hp}{b:Addr}{o:Obj}(e:(hidT h H).get? b=some o):h.get? b=some o/\H b=none:=by
 have e':h.get? b=some o:=PySem.W.of_hideAll (trk h H) e
 refine ⟨e',?_⟩
 cases q:H b with
 | none=>rfl
 | some x =>
  have hm:b∈trk h H:=List.mem_filter.mpr ⟨List.mem_range.mpr (Heap.lt_size e'),by simp [q]⟩
  have z:(hidT h H).get? b=none:=PySem.W.hideAll_none (trk h H) hm
  rw [z] at e;cases e
def allNews(g h:Heap)(L:Addr):List (Addr×Obj):=(List.range h.objs.size).filterMap fun a=>if a=L\/(g.get? a).isSome=true then none else (h.get? a).map fun o=>(a,o)
def rest(g h:Heap)(L d:Addr):List (Addr×Obj):=(allNews g h L).filter fun p=>decide (p.1≠d)
end L2
namespace L2
open PySem PySem.Spec PyProof.Rows
structure Mod(K:PySem.W.Frag)(mg:Z6)(base:Heap):Prop where
 kin:K.In base
 glob:base.Ns mainGlobals mg
 blt:∃mb,base.Ns builtinsNs mb/\∀x:Str,x ≠ "__name__" -> mb x=bootBuiltins x
 nolimit:base.NoLimit
structure Cx where
 prog:Program
 w:World
 K:PySem.W.Frag
 mg:Str->Option Value
 base:Heap
 A:Around
 N:List Str
 s₀:Shared
 H₀:Hp
 env:Env
 outer:List Env
 stack:List Env
 ex:List Addr
 fn:Str->Bool
 calm:Bool
 pn:List (Addr×Obj)
 xe:Value->Shared->Prop
def frs(l:List Env):List Addr:=l.filterMap (·.frame)
abbrev Cx.fs(X:Cx):List Addr:=frs X.outer
def Vis(sc:Scope)(x:Str):Prop:=sc.names.lookup x=some .local\/sc.names.lookup x=some .cell\/sc.names.lookup x=some .free
def Loc(sc:Scope)(x:Str):Prop:=sc.names.lookup x=some .local\/sc.names.lookup x=some .cell
def Look(env:Env)(h:Heap)(m:Z6)(x:Str)(u:Value):Prop :=
 (env.kindOf x=some .local/\m x=some u)\/((env.kindOf x=some .cell\/env.kindOf x=some .free)/\∃c,env.cells.lookup x=some c/\h.IsCell c (some u))
structure Cx.Ok(X:Cx):Prop where
 mod:Mod X.K X.mg X.base
 kind:X.env.scope.kind=.function
 glob:X.env.globals=mainGlobals
 blt:X.env.builtins=builtinsNs
 above:X.s₀.heap.objs.size<=X.env.locals
 inj:∀x y c,X.env.cells.lookup x=some c->X.env.cells.lookup y=some c->x=y
 has:∀x,(X.env.kindOf x=some .cell\/X.env.kindOf x=some .free)->∃c,X.env.cells.lookup x=some c
 cab:∀x c,X.fn x=true->X.env.cells.lookup x=some c->X.s₀.heap.objs.size<=c
 hd:X.calm=true->X.A.handled=none
 frames:X.A.frames=some X.stack
 stk:X.stack=X.outer\/(X.stack=X.env::X.outer/\X.env.frame=some X.env.locals)
 exf:∀b∈X.ex,b≠X.env.locals/\∀x c,X.env.cells.lookup x=some c->c≠b
 bs:∀b o,X.base.get? b=some o->X.s₀.heap.get? b=some o/\X.H₀ b=none
 bsz:X.base.objs.size<=X.s₀.heap.objs.size
 noex:∀b o,X.base.get? b=some o->b ∉ X.ex
 exfs:∀b∈X.ex,b ∉ X.fs
 funs:X.s₀.heap.FunFrames X.base X.outer
 frf:∀b∈X.fs,X.H₀ b=none
structure Inv(X:Cx)(pins:Z3)(σ:List (Option V))(H:Hp)(s:Shared):Prop where
 ok:X.Ok
 os:s.os=X.s₀.os
 bare:AllBare s.gens
 base:Un X.fs X.ex X.H₀ H X.s₀.heap s.heap
 loc:∃m,s.heap.Ns X.env.locals m/\∀(i:Nat) (x:Str) (v:V),X.N[i]?=some x->σ[i]?=some (some v)->Vis X.env.scope x->∃u,RelV v u/\Look X.env s.heap m x u
 cell:∀x c,X.env.cells.lookup x=some c->∃v,s.heap.IsCell c v
 free:H X.env.locals=none
 freeC:∀x c,X.env.cells.lookup x=some c->H c=none
 pin:∀p∈X.pn++pins,s.heap.get? p.1=some p.2/\H p.1=none/\p.1≠X.env.locals/\p.1 ∉ X.fs/\∀v,p.2.data≠.cell v
 hok:HOk X.prog X.w H s.heap
 len:σ.length=X.N.length
section
variable{X:Cx}{pins:Z3}{σ:List (Option V)}{H H':Hp}{s:Shared}{h':Heap}
theorem Cx.Ok.nofr(ok:X.Ok){b:Addr}{o:Obj}(e:X.base.get? b=some o):b ∉ X.fs:=fun hb=>by
 have:=(ok.funs.mem hb).1
 rw [e] at this;cases this
theorem Inv.bs(I:Inv X pins σ H s):∀b o,X.base.get? b=some o->s.heap.get? b=some o/\H b=none:=fun b o e =>
 ⟨I.base.keep b o (I.ok.bs b o e).1 (I.ok.bs b o e).2 (I.ok.nofr e) (I.ok.noex b o e),I.base.free b o (I.ok.bs b o e).1 (I.ok.bs b o e).2 (I.ok.noex b o e)⟩
theorem Inv.bk(I:Inv X pins σ H s):∀b o,X.base.get? b=some o->s.heap.get? b=some o:=fun b o e=>(I.bs b o e).1
theorem Inv.mod(I:Inv X pins σ H s):Mod X.K X.mg X.base:=I.ok.mod
theorem Inv.kIn(I:Inv X pins σ H s):X.K.In s.heap:=I.ok.mod.kin.keeps I.bk
theorem Inv.lt(I:Inv X pins σ H s):X.env.locals<s.heap.objs.size:=let ⟨_,hn,_⟩:=I.loc;hn.lt
theorem Inv.sz(I:Inv X pins σ H s):X.s₀.heap.objs.size<=s.heap.objs.size:=Nat.le_trans I.ok.above (Nat.le_of_lt I.lt)
theorem Inv.nofs(I:Inv X pins σ H s){a:Addr}(h:s.heap.objs.size<=a):a ∉ X.fs:=fun hb=>by
 obtain ⟨_,o,ho,_⟩:=I.ok.funs.mem hb
 exact absurd (Nat.lt_of_lt_of_le (Heap.lt_size ho) (Nat.le_trans I.sz h)) (Nat.lt_irrefl _)
theorem Inv.cne(I:Inv X pins σ H s):∀x c,X.env.cells.lookup x=some c->c≠X.env.locals:=fun x c e z=>by
 obtain ⟨v,o,ho,hd⟩:=I.cell x c e
 obtain ⟨m,⟨o',es,ep,ho',hd',_⟩,_⟩:=I.loc
 rw [z,ho'] at ho;cases ho;rw [hd'] at hd;cases hd
theorem Inv.funs(I:Inv X pins σ H s):s.heap.FunFrames X.base X.outer:=by
 have all:∀(l:List Env),(∀b∈frs l,b∈X.fs)->X.s₀.heap.FunFrames X.base l->s.heap.FunFrames X.base l:=by
  intro l
  induction l with
  | nil=>intro _ _;trivial
  | cons env r ih =>
   intro hs hl
   obtain ⟨hk,⟨L,o,hf,hn,ho,hd⟩,hr⟩:=hl
   have hL:L∈X.fs:=hs L (by unfold frs;rw [List.filterMap_cons,hf];exact List.mem_cons_self)
   obtain ⟨sl,e⟩:=I.base.slot L o ho (I.ok.frf L hL) hL fun z=>I.ok.exfs L z hL
   exact ⟨hk,⟨L,_,hf,hn,e,hd⟩,ih (fun b hb=>hs b (by unfold frs;rw [List.filterMap_cons,hf];exact List.mem_cons_of_mem _ hb)) hr⟩
 exact all X.outer (fun _ hb=>hb) I.ok.funs
theorem Inv.stack(I:Inv X pins σ H s):s.heap.FunFrames X.base X.stack:=by
 rcases I.ok.stk with e | ⟨e,hf⟩
 ·rw [e];exact I.funs
 ·rw [e]
  obtain ⟨m,hn,_⟩:=I.loc
  refine .cons (by rw [I.ok.kind];decide) hf hn ?_ I.funs
  exact Heap.get?_none_of_le (Nat.le_trans I.ok.bsz I.ok.above)
theorem Inv.stkSub(I:Inv X pins σ H s):∀b∈frs X.stack,b∈X.env.locals::X.fs:=fun b hb=>by
 rcases I.ok.stk with e | ⟨e,hf⟩
 ·rw [e] at hb;exact List.mem_cons_of_mem _ hb
 ·rw [e] at hb
  unfold frs at hb
  rw [List.filterMap_cons,hf] at hb
  exact hb
theorem Inv.stkFree(I:Inv X pins σ H s):∀b∈frs X.stack,H b=none:=fun b hb=>by
 rcases List.mem_cons.mp (I.stkSub b hb) with e | hb
 ·rw [e];exact I.free
 ·obtain ⟨_,o,ho,_⟩:=I.ok.funs.mem hb
  exact I.base.free b o ho (I.ok.frf b hb) fun z=>I.ok.exfs b z hb
theorem Inv.step{g':Array GenState}{t':Nat}{d':Drawn}{ch:List Addr}(I:Inv X pins σ H s)
  (hch:∀b∈ch,(b∈X.ex\/X.s₀.heap.objs.size<=b)/\b≠X.env.locals/\(∀x c,X.env.cells.lookup x=some c->c≠b)/\∀p∈X.pn++pins,p.1≠b)
  (keep:∀b o,b≠X.env.locals->b ∉ X.fs->b ∉ ch->s.heap.get? b=some o->H b=none->h'.get? b=some o)
  (slot:∀b o,b≠X.env.locals->b∈X.fs->b ∉ ch->s.heap.get? b=some o->H b=none->∃sl,h'.get? b=some { o with slots:=sl }) (free:∀b o,b ∉ ch->s.heap.get? b=some o->H b=none->H' b=none)
  (there:∀b o,b ∉ ch->s.heap.get? b=some o->∃o',h'.get? b=some o')
  (tups:∀b xs,H b=some (.tup xs)->H' b=some (.tup xs)) (frzs:∀b o u,H b=some (.frz o u)->H' b=some (.frz o u)) (tbls:∀b ps,H b=some (.tbl ps)->∃more,H' b=some (.tbl (ps++more)))
  (ns:∀m,s.heap.Ns X.env.locals m->h'.Ns X.env.locals m) (hok:HOk X.prog X.w H' h') (hg:AllBare g') :
  Inv X pins σ H' { s with heap:=h',gens:=g',drawn:=d',toks:=t' }:=by
 have neL:∀b o,X.s₀.heap.get? b=some o->b≠X.env.locals:=fun b o e=>Nat.ne_of_lt (Nat.lt_of_lt_of_le (Heap.lt_size e) I.ok.above)
 have neC:∀b o,X.s₀.heap.get? b=some o->b ∉ X.ex->b ∉ ch:=fun b o e hx hb=>by
  rcases (hch b hb).1 with z | z
  ·exact hx z
  ·exact absurd (Nat.lt_of_lt_of_le (Heap.lt_size e) z) (Nat.lt_irrefl _)
 have cellK:∀x c,X.env.cells.lookup x=some c->∀v,s.heap.IsCell c v->h'.IsCell c v:=fun x c e v ⟨o,ho,hd⟩=>by
  have nch:c ∉ ch:=fun z=>(hch c z).2.2.1 x c e rfl
  by_cases hc:c∈X.fs
  ·obtain ⟨sl,q⟩:=slot c o (I.cne x c e) hc nch ho (I.freeC x c e)
   exact ⟨_,q,hd⟩
  ·exact ⟨o,keep c o (I.cne x c e) hc nch ho (I.freeC x c e),hd⟩
 refine ⟨I.ok,I.os,hg,⟨fun b o e n hb hx=>?_,fun b o e n hb hx=>?_,fun b o e n hx=>?_,fun b o e hx=>?_,fun b xs e=>tups b xs (I.base.tups b xs e),fun b o xs e=>frzs b o xs (I.base.frzs b o xs e),fun b ps e=>?_⟩,?_,fun x c e=>?_,?_,fun x c e=>?_,fun p hp=>?_,hok,I.len⟩
 ·exact keep b o (neL b o e) hb (neC b o e hx) (I.base.keep b o e n hb hx) (I.base.free b o e n hx)
 ·obtain ⟨sl,e1⟩:=I.base.slot b o e n hb hx
  obtain ⟨sl',e2⟩:=slot b _ (neL b o e) hb (neC b o e hx) e1 (I.base.free b o e n hx)
  exact ⟨sl',e2⟩
 ·obtain ⟨o',e1⟩:=I.base.there b o e hx
  exact free b o' (neC b o e hx) e1 (I.base.free b o e n hx)
 ·obtain ⟨o',e1⟩:=I.base.there b o e hx
  exact there b o' (neC b o e hx) e1
 ·obtain ⟨m1,e1⟩:=I.base.tbls b ps e
  obtain ⟨m2,e2⟩:=tbls b _ e1
  exact ⟨m1++m2,by rw [e2,Array.append_assoc]⟩
 ·obtain ⟨m,hn,hl⟩:=I.loc
  refine ⟨m,ns m hn,fun i x v e1 e2 e3=>?_⟩
  obtain ⟨u,r,l⟩:=hl i x v e1 e2 e3
  refine ⟨u,r,?_⟩
  rcases l with l | ⟨k,c,e,z⟩
  ·exact .inl l
  ·exact .inr ⟨k,c,e,cellK x c e _ z⟩
 ·obtain ⟨v,z⟩:=I.cell x c e
  exact ⟨v,cellK x c e v z⟩
 ·obtain ⟨m,⟨o,_,_,ho,_⟩,_⟩:=I.loc
  exact free _ o (fun z=>(hch _ z).2.1 rfl) ho I.free
 ·obtain ⟨v,o,ho,hd⟩:=I.cell x c e
  exact free c o (fun z=>(hch c z).2.2.1 x c e rfl) ho (I.freeC x c e)
 ·obtain ⟨e,n,ne,nf,d⟩:=I.pin p hp
  have nch:p.1 ∉ ch:=fun z=>(hch p.1 z).2.2.2 p hp rfl
  exact ⟨keep p.1 p.2 ne nf nch e n,free p.1 p.2 nch e n,ne,nf,d⟩
theorem Inv.un{t':Nat}(I:Inv X pins σ H s)(u:Un X.fs [] H H' s.heap h')(hok:HOk X.prog X.w H' h'):Inv X pins σ H' { s with heap:=h',toks:=t' }:=by
 obtain ⟨m,⟨o,es,ep,ho,r⟩,_⟩:=id I.loc
 obtain ⟨sl,hL⟩:=u.any ho I.free (by simp)
 exact I.step (g':=s.gens) (d':=s.drawn) (ch:=[]) (fun _ z=>nomatch z) (fun b o _ hb _ e n=>u.keep b o e n hb (by simp)) (fun b o _ hb _ e n=>u.slot b o e n hb (by simp)) (fun b o _ e n=>u.free b o e n (by simp)) (fun b o _ e=>u.there b o e (by simp)) u.tups u.frzs u.tbls (fun m' hm=>by
  obtain ⟨o',es',ep',ho',r'⟩:=hm
  rw [ho] at ho';cases ho'
  exact ⟨_,es',ep',hL,r'⟩) hok I.bare
theorem Inv.call{g':Array GenState}{t':Nat}{d':Drawn}{ch:List Addr}(I:Inv X pins σ H s)(u:Un (frs X.stack) ch H H' s.heap h')(hok:HOk X.prog X.w H' h')(hg:AllBare g')
  (hch:∀b∈ch,(b∈X.ex\/X.s₀.heap.objs.size<=b)/\b≠X.env.locals/\(∀x c,X.env.cells.lookup x=some c->c≠b)/\∀p∈X.pn++pins,p.1≠b) :
  Inv X pins σ H' { s with heap:=h',gens:=g',drawn:=d',toks:=t' }:=by
 obtain ⟨m,⟨o,es,ep,ho,r⟩,_⟩:=id I.loc
 obtain ⟨sl,hL⟩:=u.any ho I.free fun z=>(hch _ z).2.1 rfl
 exact I.step (ch:=ch) hch (fun b o hL hb hc e n=>u.keep b o e n (fun z=>(List.mem_cons.mp (I.stkSub b z)).elim hL hb) hc) (fun b o _ _ hc e n=>u.any e n hc) (fun b o hc e n=>u.free b o e n hc) (fun b o hc e=>u.there b o e hc) u.tups u.frzs u.tbls (fun m' hm=>by
  obtain ⟨o',es',ep',ho',r'⟩:=hm
  rw [ho] at ho';cases ho'
  exact ⟨_,es',ep',hL,r'⟩) hok hg
theorem Inv.turned{t':Nat}{it:Addr}(I:Inv X pins σ H s)(k:∀b o,b≠it->s.heap.get? b=some o->h'.get? b=some o)(hn:H it=none)(hL:it≠X.env.locals)
  (h1:it∈X.ex\/X.s₀.heap.objs.size<=it) (h2:∀x c,X.env.cells.lookup x=some c->c≠it) (h3:∀p∈X.pn++pins,p.1≠it):Inv X pins σ H { s with heap:=h',toks:=t' }:=by
 have nit:∀b u,H b=some u->b≠it:=fun b u e z=>by rw [z,hn] at e;cases e
 refine I.step (g':=s.gens) (d':=s.drawn) (ch:=[it]) (fun b hb=>?_) (fun b o _ _ hc e _=>k b o (fun z=>hc (by simp [z])) e) (fun b o _ _ hc e _=>⟨o.slots,k b o (fun z=>hc (by simp [z])) e⟩) (fun _ _ _ _ n=>n)
  (fun b o hc e=>⟨o,k b o (fun z=>hc (by simp [z])) e⟩) (fun _ _ e=>e) (fun _ _ _ e=>e) (fun b ps e=>⟨#[],by rw [e];simp⟩) (fun m hm=>?_) (fun b u e=>?_) I.bare
 ·have e:b=it:=by simpa using hb
  subst e
  exact ⟨h1,hL,h2,h3⟩
 ·obtain ⟨o,es,ep,ho,r⟩:=hm
  exact ⟨o,es,ep,k _ o (Ne.symm hL) ho,r⟩
 ·refine (I.hok b u e).stay (fun c v hc q=>k c v ?_ q) (fun _ q=>q) fun _ _ q=>q
  rcases hc with z | z
  ·rw [z];exact nit b u e
  ·exact nit c _ z
theorem Inv.tok(I:Inv X pins σ H s)(t:Nat):Inv X pins σ H { s with toks:=t }:=I.un (h':=s.heap) (t':=t) Un.refl I.hok
theorem Inv.kept{t':Nat}(I:Inv X pins σ H s)(k:∀b u,s.heap.get? b=some u->h'.get? b=some u):Inv X pins σ H { s with heap:=h',toks:=t' }:=I.un (Un.kept k) (I.hok.kept k)
theorem Inv.laid{a:Addr}{o:HO}{t':Nat}(I:Inv X pins σ H s)(k:∀b u,s.heap.get? b=some u->h'.get? b=some u)(hp:s.heap.objs.size<=a)(new:ObjOk X.prog X.w (upd H a o) h' a o) :
  Inv X pins σ (upd H a o) { s with heap:=h',toks:=t' }:=I.un (Un.laid k hp (I.hok.fresh hp)) (I.hok.laid k hp new)
theorem Inv.write{x e:Addr}{o:HO}{t':Nat}(I:Inv X pins σ H s)(mu:Mut (H x))(he:e=x\/H e=some (.own x))(k:∀b u,b≠e->s.heap.get? b=some u->h'.get? b=some u)(heo:∃u,h'.get? e=some u)
  (new:ObjOk X.prog X.w (upd H x o) h' x o):Inv X pins σ (upd H x o) { s with heap:=h',toks:=t' }:=I.un (Un.write mu he k heo) (I.hok.write mu he k heo new)
theorem Inv.pins_of{pins':Z3}(I:Inv X pins σ H s)(h:∀p∈pins',s.heap.get? p.1=some p.2/\H p.1=none/\p.1≠X.env.locals/\p.1 ∉ X.fs/\∀v,p.2.data≠.cell v):Inv X pins' σ H s :=
 ⟨I.ok,I.os,I.bare,I.base,I.loc,I.cell,I.free,I.freeC,fun p hp=>(List.mem_append.mp hp).elim (fun z=>I.pin p (List.mem_append_left _ z)) (h p),I.hok,I.len⟩
theorem nodup_ix{N:List Str}(hN:N.Nodup){i j:Nat}{x:Str}(a:N[i]?=some x)(b:N[j]?=some x):i=j:=by
 obtain ⟨h1,e1⟩:=List.getElem?_eq_some_iff.mp a
 obtain ⟨h2,e2⟩:=List.getElem?_eq_some_iff.mp b
 exact (List.getElem_inj hN).mp (e1.trans e2.symm)
theorem store_ok2{M:Model}{A:Around}{E:Z5}{i:Nat}{x:Str}{v:V}{u:Value}{Q:Unit->Shared->Prop}(I:Inv X pins σ H s)(hN:X.N.Nodup)(hi:X.N[i]?=some x)(hx:Loc X.env.scope x)(r:RelV v u)
  (h:∀s',Inv X pins (σ.set i (some v)) H s'->(∃a,Heap.SameBut a s.heap s'.heap/\(a=X.env.locals\/X.env.cells.lookup x=some a))->Q () s') (hf:X.fn x=true\/X.env.scope.names.lookup x=some .local:=by first | exact .inl rfl | exact .inr rfl | assumption):wpAny M A (storeName X.env x u) Q E s:=by
 obtain ⟨m,hn,hl⟩:=id I.loc
 have hcls:(X.env.scope.kind == .class||(X.env.scope.kind == .module&&X.env.locals != X.env.globals))=false:=by rw [I.ok.kind];rfl
 have hiσ:i<σ.length:=by rw [I.len];exact (List.getElem?_eq_some_iff.mp hi).1
 have cne:=I.cne
 have tracked:∀{a:Addr} {h':Heap},(∃o,s.heap.get? a=some o/\H a=none)->Heap.SameBut a s.heap h'->HOk X.prog X.w H h':=fun {a h'} ha hs b ob e=>by
  obtain ⟨_,_,hfree⟩:=ha
  refine (I.hok b ob e).stay (fun c w' hc q=>(hs.2 c ?_).trans q) (fun _ q=>q) fun _ _ q=>q
  rintro rfl
  rcases hc with rfl | hc
  ·rw [hfree] at e;cases e
  ·rw [hfree] at hc;cases hc
 rcases hx with hk | hk
 ·refine wpAny_storeName_local hk hn (fun h' hn' hs=>?_) hcls
  obtain ⟨oL,_,_,hoL,_⟩:=id hn
  refine h _ ⟨I.ok,I.os,I.bare,⟨fun b o e n hb hx=>?_,fun b o e n hb hx=>?_,I.base.free,fun b o e hx=>?_,I.base.tups,I.base.frzs,I.base.tbls⟩,⟨_,hn',fun j y v' e1 e2 e3=>?_⟩,fun y c e=>?_,I.free,I.freeC,fun p hp=>?_,tracked ⟨oL,hoL,I.free⟩ hs,by simpa using I.len⟩ ⟨_,hs,.inl rfl⟩
  ·exact (hs.2 b (Nat.ne_of_lt (Nat.lt_of_lt_of_le (Heap.lt_size e) I.ok.above))).trans (I.base.keep b o e n hb hx)
  ·obtain ⟨sl,e1⟩:=I.base.slot b o e n hb hx
   exact ⟨sl,(hs.2 b (Nat.ne_of_lt (Nat.lt_of_lt_of_le (Heap.lt_size e) I.ok.above))).trans e1⟩
  ·obtain ⟨o',e1⟩:=I.base.there b o e hx
   exact ⟨o',(hs.2 b (Nat.ne_of_lt (Nat.lt_of_lt_of_le (Heap.lt_size e) I.ok.above))).trans e1⟩
  ·by_cases hj:j=i
   ·subst hj
    rw [hi] at e1;cases e1
    rw [List.getElem?_set_self hiσ] at e2
    cases e2
    exact ⟨u,r,.inl ⟨hk,by simp⟩⟩
   ·rw [List.getElem?_set_ne (Ne.symm hj)] at e2
    obtain ⟨u',r',q⟩:=hl j y v' e1 e2 e3
    refine ⟨u',r',?_⟩
    rcases q with ⟨k,e⟩ | ⟨k,c,e,z⟩
    ·refine .inl ⟨k,?_⟩
     have:y≠x:=fun e=>hj (nodup_ix hN e1 (e ▸ hi))
     simp [this,e]
    ·exact .inr ⟨k,c,e,z.sameBut hs (cne y c e)⟩
  ·obtain ⟨w',z⟩:=I.cell y c e
   exact ⟨w',z.sameBut hs (cne y c e)⟩
  ·obtain ⟨e,n,ne,nf,d⟩:=I.pin p hp
   exact ⟨(hs.2 p.1 ne).trans e,n,ne,nf,d⟩
 ·have hfn:X.fn x=true:=by
   rcases hf with z | z
   ·exact z
   ·rw [z] at hk;cases hk
  obtain ⟨c,hc⟩:=I.ok.has x (.inl hk)
  obtain ⟨w',z⟩:=I.cell x c hc
  refine wpAny_storeName_cell I.ok.kind hk hc z (fun h' hc' hs=>?_)
  obtain ⟨oc,hoc,hocd⟩:=id z
  refine h { s with heap:=h' } ⟨I.ok,I.os,I.bare,⟨fun b o e n hb hx=>?_,fun b o e n hb hx=>?_,I.base.free,fun b o e hx=>?_,I.base.tups,I.base.frzs,I.base.tbls⟩,⟨m,hn.sameBut hs (Ne.symm (cne x c hc)),fun j y v' e1 e2 e3=>?_⟩,fun y c' e=>?_,I.free,I.freeC,fun p hp=>?_,tracked ⟨oc,hoc,I.freeC x c hc⟩ hs,by simpa using I.len⟩ ⟨c,hs,.inr hc⟩
  ·exact (hs.2 b (Nat.ne_of_lt (Nat.lt_of_lt_of_le (Heap.lt_size e) (I.ok.cab x c hfn hc)))).trans (I.base.keep b o e n hb hx)
  ·obtain ⟨sl,e1⟩:=I.base.slot b o e n hb hx
   exact ⟨sl,(hs.2 b (Nat.ne_of_lt (Nat.lt_of_lt_of_le (Heap.lt_size e) (I.ok.cab x c hfn hc)))).trans e1⟩
  ·obtain ⟨o',e1⟩:=I.base.there b o e hx
   exact ⟨o',(hs.2 b (Nat.ne_of_lt (Nat.lt_of_lt_of_le (Heap.lt_size e) (I.ok.cab x c hfn hc)))).trans e1⟩
  ·by_cases hj:j=i
   ·subst hj
    rw [hi] at e1;cases e1
    rw [List.getElem?_set_self hiσ] at e2
    cases e2
    exact ⟨u,r,.inr ⟨.inl hk,c,hc,hc'⟩⟩
   ·rw [List.getElem?_set_ne (Ne.symm hj)] at e2
    obtain ⟨u',r',q⟩:=hl j y v' e1 e2 e3
    refine ⟨u',r',?_⟩
    rcases q with q | ⟨k,c',e,z'⟩
    ·exact .inl q
    ·refine .inr ⟨k,c',e,z'.sameBut hs ?_⟩
     rintro rfl
     exact hj (nodup_ix hN e1 (I.ok.inj _ _ _ e hc ▸ hi))
  ·by_cases hcc:c'=c
   ·subst hcc;exact ⟨_,hc'⟩
   ·obtain ⟨w2,z2⟩:=I.cell y c' e
    exact ⟨w2,z2.sameBut hs hcc⟩
  ·obtain ⟨e,n,ne,nf,d⟩:=I.pin p hp
   refine ⟨(hs.2 p.1 ?_).trans e,n,ne,nf,d⟩
   intro q
   rw [q,hoc] at e
   have q':oc=p.2:=Option.some.inj e
   exact d w' (by rw [<-q'];exact hocd)
theorem store_ok{M:Model}{A:Around}{E:Z5}{i:Nat}{x:Str}{v:V}{u:Value}{Q:Unit->Shared->Prop}(I:Inv X pins σ H s)(hN:X.N.Nodup)(hi:X.N[i]?=some x)(hx:Loc X.env.scope x)(r:RelV v u)
  (h:∀s',Inv X pins (σ.set i (some v)) H s'->Q () s') (hf:X.fn x=true\/X.env.scope.names.lookup x=some .local:=by first | exact .inl rfl | exact .inr rfl | assumption):wpAny M A (storeName X.env x u) Q E s :=
 store_ok2 I hN hi hx r (fun s' I' _=>h s' I') hf
theorem Inv.call'{s':Shared}{ch:List Addr}(I:Inv X pins σ H s)(ho:s'.os=s.os)(u:Un (frs X.stack) ch H H' s.heap s'.heap)(hok:HOk X.prog X.w H' s'.heap)(hg:AllBare s'.gens)
  (hch:∀b∈ch,(b∈X.ex\/X.s₀.heap.objs.size<=b)/\b≠X.env.locals/\(∀x c,X.env.cells.lookup x=some c->c≠b)/\∀p∈X.pn++pins,p.1≠b):Inv X pins σ H' s':=by
 obtain ⟨h',g',d',t',o'⟩:=s'
 have e:o'=s.os:=ho
 subst e
 exact I.call (g':=g') (t':=t') (d':=d') u hok hg hch
end
abbrev XK:=Value->Option Addr->Hp->Prop
abbrev St:=List (Option V)
abbrev VK:=V->Hp->Prop
abbrev TE:=St->Hp->VK->Prop
abbrev TT:=St->Hp->(Bool->Hp->Prop)->Prop
abbrev TA:=St->Hp->(List V->Hp->Prop)->Prop
structure Ends where
 nx:St->Hp->Prop
 rt:VK
 bk:St->Hp->Prop:=fun _ _=>False
 ct:St->Hp->Prop:=fun _ _=>False
abbrev TS:=Ends->St->Hp->Prop
def EP(X:Cx)(pins:Z3)(σ:St)(Q:VK)(u:Value)(s':Shared):Prop:=∃v H',Inv X pins σ H' s'/\RelV v u/\Q v H'
def TP(X:Cx)(pins:Z3)(σ:St)(Q:Bool->Hp->Prop)(b:Bool)(s':Shared):Prop:=∃H',Inv X pins σ H' s'/\Q b H'
def AP(X:Cx)(pins:Z3)(σ:St)(Q:List V->Hp->Prop)(us:List Value)(s':Shared):Prop:=∃vs H',Inv X pins σ H' s'/\Vals vs us/\Q vs H'
def SP(X:Cx)(pins:Z3)(D:Ends)(f:Flow)(s':Shared):Prop :=
 match f with
 | .next=>∃σ' H',Inv X pins σ' H' s'/\D.nx σ' H'
 | .brk=>∃σ' H',Inv X pins σ' H' s'/\D.bk σ' H'
 | .cont=>∃σ' H',Inv X pins σ' H' s'/\D.ct σ' H'
 | .ret u=>∃v σ' H',Inv X pins σ' H' s'/\RelV v u/\D.rt v H'
def PE(X:Cx)(e:Expr)(t:TE):Prop :=
 ∀(pins:Z3) (s:Shared) (σ:St) (H:Hp) (Q:VK),Inv X pins σ H s->t σ H Q->wpAny (model X.prog X.w) X.A (eval e X.env) (EP X pins σ Q) X.xe s
def PT(X:Cx)(e:Expr)(t:TT):Prop :=
 ∀(pins:Z3) (s:Shared) (σ:St) (H:Hp) (Q:Bool->Hp->Prop),Inv X pins σ H s->t σ H Q->wpAny (model X.prog X.w) X.A (isTrue e X.env (eval e X.env)) (TP X pins σ Q) X.xe s
def PW(X:Cx)(e:Expr)(t:TT):Prop :=
 ∀(whole:Sem Value) (pins:Z3) (s:Shared) (σ:St) (H:Hp) (Q:Bool->Hp->Prop),Inv X pins σ H s->t σ H Q->wpAny (model X.prog X.w) X.A (isTrue e X.env whole) (TP X pins σ Q) X.xe s
theorem PW.pt{X:Cx}{e:Expr}{t:TT}(h:PW X e t):PT X e t:=h _
def PA(X:Cx)(es:List Expr)(t:TA):Prop :=
 ∀(pos:Pos) (pins:Z3) (s:Shared) (σ:St) (H:Hp) (Q:List V->Hp->Prop),Inv X pins σ H s->t σ H Q->wpAny (model X.prog X.w) X.A (spliced (backTo pos (starEach es X.env))) (AP X pins σ Q) X.xe s
def PS(X:Cx)(st:Stmt)(t:TS):Prop :=
 ∀(pins:Z3) (s:Shared) (σ:St) (H:Hp) (D:Ends),Inv X pins σ H s->t D σ H->wpAny (model X.prog X.w) X.A (exec st X.env) (SP X pins D) X.xe s
def PSs(X:Cx)(st:List Stmt)(t:TS):Prop :=
 ∀(pins:Z3) (s:Shared) (σ:St) (H:Hp) (D:Ends),Inv X pins σ H s->t D σ H->wpAny (model X.prog X.w) X.A (execs st X.env) (SP X pins D) X.xe s
theorem thn{α:Type}{t:Sem α}{Q Q':α->Shared->Prop}{M:Model}{A:Around}{E:Z5}{s:Shared}(h:wpAny M A t Q E s)(hQ:∀a s,Q a s->Q' a s):wpAny M A t Q' E s:=wpAny_mono h hQ fun _ _ x=>x
end L2
namespace L2
open PySem PySem.Spec PyProof.Rows
section
variable{X:Cx}
def tVar(i:Nat):TE:=fun σ H Q=>∃v,σ[i]?=some (some v)/\Q v H
def tC(v:V):TE:=fun _ H Q=>Q v H
theorem pe_var{i:Nat}{x:Str}{pos:Pos}(hN:X.N[i]?=some x)(hv:Vis X.env.scope x)(hd:(x == ("__debug__":Str))=false:=by decide)(hcd:(x == ("__classdict__":Str))=false:=by decide):PE X (.Name x pos) (tVar i):=by
 intro pins s σ H Q I h
 obtain ⟨v,e,h⟩:=h
 obtain ⟨m,hn,hl⟩:=I.loc
 obtain ⟨u,r,l⟩:=hl i x v hN e hv
 have fin:EP X pins σ Q u s:=⟨v,H,I,r,h⟩
 rcases l with ⟨hk,hm⟩ | ⟨hk,c,hc,hcell⟩
 ·exact wpAny_Name (wpAny_loadName_local I.ok.kind hk hn hm fin) hd
 ·rcases hk with hk | hk
  ·exact wpAny_Name (wpAny_loadName_cell I.ok.kind hk hc hcell fin) hd
  ·exact wpAny_Name (wpAny_loadName_free I.ok.kind hk hc hcell fin hcd) hd
theorem pe_int{i j pos}:PE X (.Constant (.int i) j pos) (tC (.int i)):=fun _ _ _ H _ I h=>wpAny_Constant_int ⟨.int i,H,I.tok _,⟨_,rfl⟩,h⟩
theorem pe_bl{b j pos}:PE X (.Constant (.bool b) j pos) (tC (.bl b)):=fun _ _ _ H _ I h=>Constant_bool ⟨.bl b,H,I,rfl,h⟩
theorem pe_non{j pos}:PE X (.Constant .none j pos) (tC .non):=fun _ _ _ H _ I h=>Constant_none ⟨.non,H,I,rfl,h⟩
theorem pe_str{x j pos}:PE X (.Constant (.str x) j pos) (tC (.str x)):=fun _ _ _ H _ I h=>Calls.Constant_str ⟨.str x,H,I.tok _,⟨_,rfl⟩,h⟩
def Gl(X:Cx)(x:Str):Prop:=X.env.kindOf x=some .globalImplicit
theorem ld_glob{E:Z5}{pins:Z3}{s:Shared}{σ:St}{H:Hp}{x:Str}{u:Value}{pos:Pos}{Q:Z5}(I:Inv X pins σ H s)(hg:Gl X x)(hm:X.mg x=some u)(h:Q u s)
  (hd:(x == ("__debug__":Str))=false:=by decide):wpAny (model X.prog X.w) X.A (eval (.Name x pos) X.env) Q E s :=
 Calls.Name_function_global I.ok.kind hg (Calls.loadGlobal_global (by rw [I.ok.glob];exact I.mod.glob.keeps I.bk) hm h) hd
theorem ld_blt{E:Z5}{pins:Z3}{s:Shared}{σ:St}{H:Hp}{x:Str}{u:Value}{pos:Pos}{Q:Z5}(I:Inv X pins σ H s)(hg:Gl X x)(hm:X.mg x=none)(hv:bootBuiltins x=some u)(h:Q u s)
  (hn:x ≠ "__name__":=by decide) (hd:(x == ("__debug__":Str))=false:=by decide):wpAny (model X.prog X.w) X.A (eval (.Name x pos) X.env) Q E s:=by
 obtain ⟨mb,h1,h2⟩:=I.mod.blt
 exact Calls.Name_function_global I.ok.kind hg (Calls.loadGlobal_builtin (by rw [I.ok.glob];exact I.mod.glob.keeps I.bk) hm (by rw [I.ok.blt];exact h1.keeps I.bk) ((h2 x hn).trans hv) h) hd
theorem pe_glob{x:Str}{v:V}{u:Value}{pos:Pos}(hg:Gl X x)(hm:X.mg x=some u)(r:RelV v u)(hd:(x == ("__debug__":Str))=false:=by decide):PE X (.Name x pos) (tC v) :=
 fun _ _ _ H _ I h=>ld_glob I hg hm ⟨v,H,I,r,h⟩ hd
theorem pe_bltn{x:Str}{v:V}{u:Value}{pos:Pos}(hg:Gl X x)(hm:X.mg x=none)(hv:bootBuiltins x=some u)(r:RelV v u)(hn:x ≠ "__name__":=by decide)(hd:(x == ("__debug__":Str))=false:=by decide):PE X (.Name x pos) (tC v) :=
 fun _ _ _ H _ I h=>ld_blt I hg hm hv ⟨v,H,I,r,h⟩ hn hd
variable{a b:Expr}{ta tb:TE}{pos:Pos}
def tB(t:TE):TT:=fun σ H Q=>t σ H fun x H1=>∃c,x=.bl c/\Q c H1
theorem pt_val{e:Expr}{t:TE}(h:PE X e t)(he:∀whole,isTrue e X.env whole=(do let v ← whole;standAt e.pos;holding [v] (truthy v)):=by intro _;rfl):PT X e (tB t):=by
 intro pins s σ H Q I hw
 refine isTrue_plain (thn (h pins s σ H _ I hw) fun v s1 ⟨x,H1,I1,r1,q1⟩=>?_) (he _)
 obtain ⟨d,rfl,q⟩:=q1
 cases r1
 exact wpAny_truthy_bool ⟨H1,I1,q⟩
variable{tA tB':TT}{rest:List Expr}
def tAnd(t u:TT):TT:=fun σ H Q=>t σ H fun c H1=>if c=true then u σ H1 Q else Q false H1
def tOr(t u:TT):TT:=fun σ H Q=>t σ H fun c H1=>if c=true then Q true H1 else u σ H1 Q
def tNot(t:TT):TT:=fun σ H Q=>t σ H fun c H1=>Q (!c) H1
theorem pw_and1(ha:PT X a tA):PW X (.BoolOp .And [a] pos) tA:=by
 intro wh pins s σ H Q I h
 refine isTrue_and (thn (ha pins s σ H Q I h) fun c s1 e=>?_)
 cases c with
 | true=>exact isTrue_and_nil e
 | false=>exact e
theorem pw_or1(ha:PT X a tA):PW X (.BoolOp .Or [a] pos) tA:=by
 intro wh pins s σ H Q I h
 refine isTrue_or (thn (ha pins s σ H Q I h) fun c s1 e=>?_)
 cases c with
 | false=>exact isTrue_or_nil e
 | true=>exact e
theorem pw_and(ha:PT X a tA)(hb:PW X (.BoolOp .And (b::rest) pos) tB'):PW X (.BoolOp .And (a::b::rest) pos) (tAnd tA tB'):=by
 intro wh pins s σ H Q I h
 refine isTrue_and (thn (ha pins s σ H _ I h) fun c s1 ⟨H1,I1,q1⟩=>?_)
 cases c with
 | true=>exact hb wh pins s1 σ H1 Q I1 q1
 | false=>exact ⟨H1,I1,q1⟩
theorem pw_or(ha:PT X a tA)(hb:PW X (.BoolOp .Or (b::rest) pos) tB'):PW X (.BoolOp .Or (a::b::rest) pos) (tOr tA tB'):=by
 intro wh pins s σ H Q I h
 refine isTrue_or (thn (ha pins s σ H _ I h) fun c s1 ⟨H1,I1,q1⟩=>?_)
 cases c with
 | true=>exact ⟨H1,I1,q1⟩
 | false=>exact hb wh pins s1 σ H1 Q I1 q1
theorem pt_not(ha:PT X a tA):PT X (.UnaryOp .Not a pos) (tNot tA):=by
 intro pins s σ H Q I h
 exact isTrue_not (ha pins s σ H (fun c H1=>Q (!c) H1) I h)
def tAndV(ta tb:TE):TE:=fun σ H Q=>ta σ H fun x H1=>∃c,x=.bl c/\if c=true then tb σ H1 Q else Q (.bl false) H1
def tOrV(ta tb:TE):TE:=fun σ H Q=>ta σ H fun x H1=>∃c,x=.bl c/\if c=true then Q (.bl true) H1 else tb σ H1 Q
def tNotV(ta:TE):TE:=fun σ H Q=>ta σ H fun x H1=>∃c,x=.bl c/\Q (.bl (!c)) H1
theorem pe_one{op}{t:TE}(h:PE X a t):PE X (.BoolOp op [a] pos) t:=fun pins s σ H Q I hw=>BoolOp_one (h pins s σ H Q I hw)
theorem pe_and(ha:PE X a ta)(hb:PE X (.BoolOp .And (b::rest) pos) tb):PE X (.BoolOp .And (a::b::rest) pos) (tAndV ta tb):=by
 intro pins s σ H Q I h
 refine BoolOp_and (thn (ha pins s σ H _ I h) fun v s1 ⟨x,H1,I1,r1,q1⟩=>?_)
 obtain ⟨c,rfl,q1⟩:=q1
 cases r1
 refine wpAny_truthy_bool ?_
 cases c with
 | true=>exact hb pins s1 σ H1 Q I1 q1
 | false=>exact ⟨.bl false,H1,I1,rfl,q1⟩
theorem pe_or(ha:PE X a ta)(hb:PE X (.BoolOp .Or (b::rest) pos) tb):PE X (.BoolOp .Or (a::b::rest) pos) (tOrV ta tb):=by
 intro pins s σ H Q I h
 refine BoolOp_or (thn (ha pins s σ H _ I h) fun v s1 ⟨x,H1,I1,r1,q1⟩=>?_)
 obtain ⟨c,rfl,q1⟩:=q1
 cases r1
 refine wpAny_truthy_bool ?_
 cases c with
 | false=>exact hb pins s1 σ H1 Q I1 q1
 | true=>exact ⟨.bl true,H1,I1,rfl,q1⟩
theorem pe_not(ha:PE X a ta):PE X (.UnaryOp .Not a pos) (tNotV ta):=by
 intro pins s σ H Q I h
 refine UnaryOp_ (thn (ha pins s σ H _ I h) fun v s1 ⟨x,H1,I1,r1,q1⟩=>?_)
 obtain ⟨c,rfl,q1⟩:=q1
 cases r1
 exact not_of (wpAny_truthy_bool ⟨.bl (!c),H1,I1,rfl,q1⟩)
def tIf(t:TT)(ta tb:TE):TE:=fun σ H Q=>t σ H fun c H1=>if c=true then ta σ H1 Q else tb σ H1 Q
theorem pe_ifExp{c:Expr}(hc:PT X c tA)(ha:PE X a ta)(hb:PE X b tb):PE X (.IfExp c a b pos) (tIf tA ta tb):=by
 intro pins s σ H Q I h
 refine wpAny_IfExp (thn (hc pins s σ H _ I h) fun d s1 ⟨H1,I1,q1⟩=>?_)
 cases d with
 | true=>exact ha pins s1 σ H1 Q I1 q1
 | false=>exact hb pins s1 σ H1 Q I1 q1
end
end L2
namespace L2
open PySem PySem.Spec PyProof.Rows
def SqL(K:PySem.W.Frag)(H:Hp)(a:Addr)(xs:List V):Prop :=
 Rd H a (.lst xs) ∨
  ∃(o:Obj) (its:Array Value) (n:Nat),K.lookup a=some o/\o.cls=.type "list" /\ o.dict=none/\o.data=.seq its n/\its.size<=sizeLine/\Vals xs its.toList
def SqT(K:PySem.W.Frag)(H:Hp)(a:Addr)(xs:List V):Prop :=
 Rd H a (.tup xs) ∨
  ∃(o:Obj) (its:Array Value) (n:Nat),K.lookup a=some o/\o.cls=.type "tuple" /\ o.data=.seq its n/\its.size<=sizeLine/\Vals xs its.toList
def absV:Value->Option V
 | .none=>some .non
 | .bool b=>some (.bl b)
 | .int i _=>some (.int i)
 | .str x _=>some (.str x)
 | .bytes b _=>some (.byt b)
 | .float b _=>some (.flt b)
 | .ref a=>some (.ref a)
 | .type n=>some (.ty n)
 | _=>none
theorem RelV.abs{x:V}{u:Value}(r:RelV x u):absV u=some x:=by
 cases x with
 | non=>cases r;rfl
 | bl _=>cases r;rfl
 | int _=>obtain ⟨t,rfl⟩:=r;rfl
 | str _=>obtain ⟨t,rfl⟩:=r;rfl
 | byt _=>obtain ⟨t,rfl⟩:=r;rfl
 | flt _=>obtain ⟨t,rfl⟩:=r;rfl
 | ref _=>cases r;rfl
 | ty _=>cases r;rfl
theorem RelV.inj{x y:V}{u:Value}(r:RelV x u)(q:RelV y u):x=y:=Option.some.inj (r.abs.symm.trans q.abs)
theorem Vals.inj:∀{xs ys:List V} {us:List Value},Vals xs us->Vals ys us->xs=ys
 | _,_,_,.nil,.nil=>rfl
 | _,_,_,.cons r t,.cons r' t'=>by rw [r.inj r',Vals.inj t t']
section
variable{X:Cx}{pins:Z3}{σ:St}{H:Hp}{s:Shared}{a:Addr}{xs ys:List V}
theorem SqL.of{K:PySem.W.Frag}(h:H a=some (.lst xs)):SqL K H a xs:=.inl (.inl h)
theorem SqT.of{K:PySem.W.Frag}(h:H a=some (.tup xs)):SqT K H a xs:=.inl (.inl h)
theorem Inv.list(I:Inv X pins σ H s)(h:SqL X.K H a xs):∃its:List Value,Vals xs its/\PlainL s.heap a its.toArray/\xs.length<=sizeLine:=by
 rcases h with h | ⟨o,its,n,hk,hc,hd,hs,hz,r⟩
 ·obtain ⟨z,its,n,r,e⟩:=h.ok I.hok
  exact ⟨its,r,⟨_,n,e,rfl,rfl,rfl⟩,z⟩
 ·refine ⟨its.toList,r,⟨o,n,I.kIn a o hk,hc,hd,by simpa using hs⟩,?_⟩
  have e:=r.length
  simp only [Array.length_toList] at e
  omega
theorem Inv.tuple(I:Inv X pins σ H s)(h:SqT X.K H a xs):∃its:List Value,Vals xs its/\IsTup s.heap a its.toArray/\xs.length<=sizeLine:=by
 rcases h with h | ⟨o,its,n,hk,hc,hs,hz,r⟩
 ·obtain ⟨z,its,r,p⟩:=h.ok I.hok
  exact ⟨its,r,p,z⟩
 ·refine ⟨its.toList,r,⟨o,I.kIn a o hk,hc,n,by simpa using hs⟩,?_⟩
  have e:=r.length
  simp only [Array.length_toList] at e
  omega
theorem Inv.list_inj(I:Inv X pins σ H s)(h:SqL X.K H a xs)(h':SqL X.K H a ys):xs=ys:=by
 obtain ⟨its,r,⟨o,n,e,_,_,d⟩,_⟩:=I.list h
 obtain ⟨its',r',⟨o',n',e',_,_,d'⟩,_⟩:=I.list h'
 rw [e] at e';cases e'
 rw [d] at d'
 injection d' with d1 _
 have:its=its':=by simpa using congrArg Array.toList d1
 subst this
 exact r.inj r'
theorem Inv.tuple_inj(I:Inv X pins σ H s)(h:SqT X.K H a xs)(h':SqT X.K H a ys):xs=ys:=by
 obtain ⟨its,r,⟨o,e,_,n,d⟩,_⟩:=I.tuple h
 obtain ⟨its',r',⟨o',e',_,n',d'⟩,_⟩:=I.tuple h'
 rw [e] at e';cases e'
 rw [d] at d'
 injection d' with d1 _
 have:its=its':=by simpa using congrArg Array.toList d1
 subst this
 exact r.inj r'
end
section
variable{X:Cx}{pins:Z3}{σ:St}{H:Hp}{s:Shared}{E:Z5}
end
section
variable{X:Cx}{st:Stmt}{rest:List Stmt}{t u:TS}{e:Expr}{te:TE}{pos:Pos}
def tNext:TS:=fun D σ H=>D.nx σ H
def tSeq(t u:TS):TS:=fun D σ H=>t { D with nx:=u D } σ H
theorem pss_nil:PSs X [] tNext:=fun _ _ σ H _ I h=>wpAny_execs_nil ⟨σ,H,I,h⟩
theorem pss_cons(h1:PS X st t)(h2:PSs X rest u):PSs X (st::rest) (tSeq t u):=by
 intro pins s σ H D I h
 refine wpAny_execs_cons (thn (h1 pins s σ H { D with nx:=u D } I h) fun f s1 q=>?_)
 cases f with
 | next =>
  obtain ⟨σ',H',I',q⟩:=q
  exact h2 pins s1 σ' H' D I' q
 | ret v=>exact q
 | brk=>exact q
 | cont=>exact q
theorem pss_one(h1:PS X st t):PSs X [st] t:=by
 intro pins s σ H D I h
 refine wpAny_execs_cons (thn (h1 pins s σ H D I h) fun f s1 q=>?_)
 cases f with
 | next=>exact wpAny_execs_nil q
 | ret v=>exact q
 | brk=>exact q
 | cont=>exact q
def tBreak:TS:=fun D σ H=>D.bk σ H
theorem ps_pass:PS X (.Pass pos) tNext:=fun _ _ σ H _ I h=>wpAny_Pass ⟨σ,H,I,h⟩
theorem ps_break:PS X (.Break pos) tBreak:=fun _ _ σ H _ I h=>wpAny_Break ⟨σ,H,I,h⟩
theorem Inv.quiet{pins:Z3}{σ:St}{H:Hp}{s:Shared}(I:Inv X pins σ H s):interactive X.env=false:=by simp [interactive,I.ok.kind]
def tDrop(te:TE):TS:=fun D σ H=>te σ H fun _ H1=>D.nx σ H1
theorem ps_expr(he:PE X e te)(hs:swapsWith e none pos.line X.env=pure false:=by rfl):PS X (.Expr e pos) (tDrop te):=by
 intro pins s σ H D I h
 exact wpAny_Expr_any (thn (he pins s σ H _ I h) fun v s1 ⟨x,H1,I1,r1,q1⟩=>⟨σ,H1,I1,q1⟩) I.quiet hs
def tRet(te:TE):TS:=fun D σ H=>te σ H D.rt
theorem ps_ret(he:PE X e te):PS X (.Return (some e) pos) (tRet te):=by
 intro pins s σ H D I h
 exact wpAny_Return_some (thn (he pins s σ H _ I h) fun v s1 ⟨x,H1,I1,r1,q1⟩=>⟨x,σ,H1,I1,r1,q1⟩)
def tRetN:TS:=fun D _ H=>D.rt .non H
theorem ps_retN:PS X (.Return none pos) tRetN:=fun _ _ σ H _ I h=>wpAny_Return_none ⟨.non,σ,H,I,rfl,h⟩
def tIfS(c:TT)(t u:TS):TS:=fun D σ H=>c σ H fun b H1=>if b=true then t D σ H1 else u D σ H1
theorem ps_if{c:Expr}{a b:List Stmt}{tc:TT}(hc:PT X c tc)(ha:PSs X a t)(hb:PSs X b u):PS X (.If c a b pos) (tIfS tc t u):=by
 intro pins s σ H D I h
 refine wpAny_If (thn (hc pins s σ H _ I h) fun d s1 ⟨H1,I1,q1⟩=>?_)
 cases d with
 | true=>exact ha pins s1 σ H1 D I1 q1
 | false=>exact hb pins s1 σ H1 D I1 q1
end
abbrev TG:=V->St->Hp->(St->Hp->Prop)->Prop
abbrev TGs:=List V->St->Hp->(St->Hp->Prop)->Prop
def PG(X:Cx)(target:Expr)(t:TG):Prop :=
 ∀(pins:Z3) (s:Shared) (σ:St) (H:Hp) (v:V) (u:Value) (Q:St->Hp->Prop),Inv X pins σ H s->RelV v u->t v σ H Q →
  wpAny (model X.prog X.w) X.A (assign target X.env u) (fun _ s'=>∃σ' H',Inv X pins σ' H' s'/\Q σ' H') X.xe s
def PGs(X:Cx)(ts:List Expr)(t:TGs):Prop :=
 ∀(pins:Z3) (s:Shared) (σ:St) (H:Hp) (vs:List V) (us:List Value) (Q:St->Hp->Prop),Inv X pins σ H s->Vals vs us->t vs σ H Q →
  wpAny (model X.prog X.w) X.A (assignInOrder ((assignEach ts X.env).map (·.2)) us) (fun _ s'=>∃σ' H',Inv X pins σ' H' s'/\Q σ' H') X.xe s
abbrev TSet:=V->V->V->Hp->(Hp->Prop)->Prop
def PSet(X:Cx)(t:TSet):Prop :=
 ∀(pins:Z3) (s:Shared) (σ:St) (H:Hp) (o i v:V) (ov iv u:Value) (Q:Hp->Prop),Inv X pins σ H s->RelV o ov->RelV i iv->RelV v u->t o i v H Q →
  wpAny (model X.prog X.w) X.A (setItem ov iv u) (fun _ s'=>∃H',Inv X pins σ H' s'/\Q H') X.xe s
abbrev TIp:=V->V->Hp->VK->Prop
def PIp(X:Cx)(op:Operator)(t:TIp):Prop :=
 ∀(pins:Z3) (s:Shared) (σ:St) (H:Hp) (x y:V) (v u:Value) (Q:VK),Inv X pins σ H s->RelV x v->RelV y u->t x y H Q →
  wpAny (model X.prog X.w) X.A (inplaceOp op v u) (EP X pins σ Q) X.xe s
section
variable{X:Cx}{pos:Pos}
def gName(i:Nat):TG:=fun v σ H Q=>Q (σ.set i (some v)) H
theorem pg_name{i:Nat}{x:Str}(hN:X.N.Nodup)(hi:X.N[i]?=some x)(hx:Loc X.env.scope x)(hf:X.fn x=true\/X.env.scope.names.lookup x=some .local:=by first | exact .inl rfl | exact .inr rfl | assumption):PG X (.Name x pos) (gName i):=by
 intro pins s σ H v u Q I r h
 exact wpAny_assign_Name (store_ok I hN hi hx r (fun s' I'=>⟨_,H,I',h⟩) hf)
def gNil:TGs:=fun vs σ H Q=>vs=[]/\Q σ H
def gCons(t:TG)(u:TGs):TGs:=fun vs σ H Q=>∃v r,vs=v::r/\t v σ H fun σ' H'=>u r σ' H' Q
theorem pgs_nil:PGs X [] gNil:=by
 intro pins s σ H vs us Q I r h
 obtain ⟨e,h⟩:=h
 subst e
 cases r
 exact assignInOrder_nil ⟨σ,H,I,h⟩
theorem pgs_cons{e:Expr}{es:List Expr}{t:TG}{u:TGs}(h1:PG X e t)(h2:PGs X es u)
  (hs:(assignEach (e::es) X.env).map (·.2)=assign e X.env::(assignEach es X.env).map (·.2):=by rfl):PGs X (e::es) (gCons t u):=by
 intro pins s σ H vs us Q I r h
 obtain ⟨v,vr,e1,h⟩:=h
 subst e1
 cases r with
 | cons r rr =>
  rw [hs]
  refine assignInOrder_cons (thn (h1 pins s σ H _ _ _ I r h) fun _ s1 ⟨σ1,H1,I1,q1⟩=>?_)
  exact h2 pins s1 σ1 H1 _ _ Q I1 rr q1
def gTup(K:PySem.W.Frag)(n:Nat)(t:TGs):TG:=fun v σ H Q=>∃a xs,v=.ref a/\SqT K H a xs/\xs.length=n/\t xs σ H Q
theorem pg_tup{es:List Expr}{k:Nat}{t:TGs}{n:Nat}(hc:X.calm=true)(h:PGs X es t)
  (hn:(assignEach es X.env).length=n:=by rfl) (hst:(assignEach es X.env).findIdx? (·.1)=none:=by rfl):PG X (.Tuple es k pos) (gTup X.K n t):=by
 intro pins s σ H v u Q I r hw
 obtain ⟨a,xs,e1,hq,hl,hw⟩:=hw
 subst e1
 cases r
 obtain ⟨its,rv,ht,hz⟩:=I.tuple hq
 refine assign_Tuple_tuple (I.ok.hd hc) ht (by simp [hn,<-hl,rv.length]) hst fun h' hx=>?_
 have I1:Inv X pins σ H { s with heap:=h' }:=I.kept (t':=s.toks) fun b o e=>hx b o (Nat.ne_of_lt (Heap.lt_size e)) e
 exact h pins _ σ H xs _ Q I1 (by simpa using rv) hw
def gSub(to ti:TE)(t:TSet):TG:=fun v σ H Q=>to σ H fun o H1=>ti σ H1 fun i H2=>t o i v H2 fun H3=>Q σ H3
theorem pg_sub{o i:Expr}{to ti:TE}{t:TSet}(ho:PE X o to)(hi:PE X i ti)(hs:PSet X t)
  (ha:∀v,assign (.Subscript o i pos) X.env v=(do
   let ov ← holding [v] (eval o X.env)
   let iv ← holding [v,ov] (eval i X.env)
   standAt pos
   holding [v,ov,iv] (setItem ov iv v)
   release [v,ov,iv] []):=by intro _;rfl):PG X (.Subscript o i pos) (gSub to ti t):=by
 intro pins s σ H v u Q I r h
 rw [ha]
 refine wpAny_bind (wpAny_holding (thn (ho pins s σ H _ I h) fun ov s1 ⟨x,H1,I1,r1,q1⟩=>?_))
 refine wpAny_bind (wpAny_holding (thn (hi pins s1 σ H1 _ I1 q1) fun iv s2 ⟨y,H2,I2,r2,q2⟩=>?_))
 refine wpAny_bind (wpAny_standAt (wpAny_bind (wpAny_holding (thn (hs pins s2 σ H2 x y v ov iv u _ I2 r1 r2 r q2) fun _ s3 ⟨H3,I3,q3⟩=>?_))))
 exact wpAny_release ⟨σ,H3,I3,q3⟩
def tAsg(te:TE)(g:TG):TS:=fun D σ H=>te σ H fun x H1=>g x σ H1 D.nx
theorem ps_asg{tg e:Expr}{te:TE}{g:TG}(he:PE X e te)(hg:PG X tg g)(hs:swapsWithSole [tg] e pos.line X.env=pure false:=by rfl)(hw:swappedStores [tg] e X.env=pure none:=by rfl)
  (h1:(assignEach [tg] X.env).map (·.2)=[assign tg X.env]:=by rfl):PS X (.Assign [tg] e pos) (tAsg te g):=by
 intro pins s σ H D I h
 refine wpAny_Assign_stores (thn (he pins s σ H _ I h) fun v s1 ⟨x,H1,I1,r1,q1⟩=>?_) hs hw
 rw [h1]
 exact thn (hg pins s1 σ H1 x v _ I1 r1 q1) fun _ s2 q=>q
theorem ps_set{i:Nat}{x:Str}{e:Expr}{te:TE}{pos':Pos}(hN:X.N.Nodup)(hi:X.N[i]?=some x)(hx:Loc X.env.scope x)(he:PE X e te)(hs:swapsWith e (some (.Name x pos')) pos.line X.env=pure false:=by rfl)(hf:X.fn x=true\/X.env.scope.names.lookup x=some .local:=by first | exact .inl rfl | exact .inr rfl | assumption) :
  PS X (.Assign [.Name x pos'] e pos) (tAsg te (gName i)):=by
 intro pins s σ H D I h
 refine wpAny_Assign_Name (thn (he pins s σ H _ I h) fun v s1 ⟨y,H1,I1,r1,q1⟩=>?_) hs
 exact store_ok I1 hN hi hx r1 (fun s2 I2=>⟨_,H1,I2,q1⟩) hf
def tPar(i j:Nat)(ta:TA):TS:=fun D σ H=>ta σ H fun vs H1=>∃v w,vs=[v,w]/\D.nx ((σ.set i (some v)).set j (some w)) H1
def tAug(i:Nat)(te:TE)(ti:TIp):TS:=fun D σ H=>∃x,σ[i]?=some (some x)/\te σ H fun y H1=>ti x y H1 fun z H2=>D.nx (σ.set i (some z)) H2
theorem ps_aug{i:Nat}{x:Str}{e:Expr}{te:TE}{op:Operator}{ti:TIp}{pos':Pos}(hN:X.N.Nodup)(hi:X.N[i]?=some x)(hx:Loc X.env.scope x)(he:PE X e te)(ho:PIp X op ti)(hf:X.fn x=true\/X.env.scope.names.lookup x=some .local:=by first | exact .inl rfl | exact .inr rfl | assumption) :
  PS X (.AugAssign (.Name x pos') op e pos) (tAug i te ti):=by
 intro pins s σ H D I h
 obtain ⟨v,e1,h⟩:=h
 obtain ⟨m,hn,hl⟩:=I.loc
 have vis:Vis X.env.scope x:=by rcases hx with k | k;exact .inl k;exact .inr (.inl k)
 obtain ⟨u,r,l⟩:=hl i x v hi e1 vis
 refine wpAny_AugAssign_Name ?_
 have go:wpAny (model X.prog X.w) X.A (eval e X.env) (fun w s₂=>wpAny (model X.prog X.w) X.A (inplaceOp op u w) (fun r s₃=>wpAny (model X.prog X.w) X.A (storeName X.env x r) (fun _=>SP X pins D .next) X.xe s₃) X.xe s₂) X.xe s:=by
  refine thn (he pins s σ H _ I h) fun w s1 ⟨y,H1,I1,r1,q1⟩=>?_
  refine thn (ho pins s1 σ H1 v y u w _ I1 r r1 q1) fun z s2 ⟨zv,H2,I2,r2,q2⟩=>?_
  exact store_ok I2 hN hi hx r2 (fun s3 I3=>⟨_,H2,I3,q2⟩) hf
 rcases l with ⟨hk,hm⟩ | ⟨hk,c,hc,hcell⟩
 ·exact wpAny_loadName_local I.ok.kind hk hn hm go
 ·rcases hk with hk | hk
  ·exact wpAny_loadName_cell I.ok.kind hk hc hcell go
  ·rcases hx with k | k
   ·have:X.env.scope.names.lookup x=some .free:=hk
    rw [k] at this;cases this
   ·have:X.env.scope.names.lookup x=some .free:=hk
    rw [k] at this;cases this
end
section
variable{X:Cx}{pos:Pos}
end
structure It where
 go:Nat->Hp->Prop
 yld:Nat->Hp->V->Hp->Prop
 stop:Nat->Hp->Prop
def FpOk(X:Cx)(pins:Z3)(H:Hp)(b:Addr):Prop :=
 H b=none/\b≠X.env.locals/\b ∉ X.fs/\(b∈X.ex\/X.s₀.heap.objs.size<=b)/\(∀x c,X.env.cells.lookup x=some c->c≠b)/\∀p∈X.pn++pins,p.1≠b
theorem Inv.fpOk{X:Cx}{pins:Z3}{σ:St}{H H':Hp}{s:Shared}{b:Addr}(I:Inv X pins σ H s)(hb:s.heap.objs.size<=b)(hn:H' b=none):FpOk X pins H' b:=by
 refine ⟨hn,Nat.ne_of_gt (Nat.lt_of_lt_of_le I.lt hb),I.nofs hb,.inr (Nat.le_trans I.sz hb),fun x c e z=>?_,fun p hp z=>?_⟩
 ·obtain ⟨v,q⟩:=I.cell x c e
  exact absurd (Nat.lt_of_lt_of_le q.lt (by rw [z];exact hb)) (Nat.lt_irrefl _)
 ·exact absurd (Nat.lt_of_lt_of_le (Heap.lt_size (I.pin p hp).1) (by rw [z];exact hb)) (Nat.lt_irrefl _)
structure Turn(P:Program)(w:World)(K:PySem.W.Frag)(tg:Expr)(J:It)(fp:List Addr)(it:Addr)(tn:Nat->Heap->Prop):Prop where
 mem:it∈fp
 obj:∀i h,tn i h->∀b∈fp,∃o,h.get? b=some o/\∀v,o.data≠.cell v
 keep:∀i h h',tn i h->(∀b∈fp,∀o,h.get? b=some o->h'.get? b=some o)->tn i h'
 item:∀(X:Cx),X.prog=P->X.w=w->X.K=K->X.calm=true->∀(i:Nat) (pins:Z3) (s:Shared) (σ:St) (H:Hp) (E:Z5),Inv X pins σ H s->(∀b∈fp,FpOk X pins H b)->tn i s.heap->J.go i H →
  wpAny (model P w) X.A (pyNext (.ref it)) (fun r s1=>∃u,r=some u ∧
   wpAny (model P w) X.A (letOwnedTupleGo tg (.ref it) u) (fun _ s2=>∃x H',Inv X pins σ H' s2/\RelV x u/\J.yld i H x H'/\tn (i+1) s2.heap/\∀b∈fp,H' b=none) E s1) E s
 done:∀(X:Cx),X.prog=P->X.w=w->X.K=K->X.calm=true->∀(i:Nat) (pins:Z3) (s:Shared) (σ:St) (H:Hp) (E:Z5),Inv X pins σ H s->(∀b∈fp,FpOk X pins H b)->tn i s.heap->J.stop i H →
  wpAny (model P w) X.A (pyNext (.ref it)) (fun r s1=>r=none/\Inv X pins σ H s1) E s
 self:∀(A:Around) (i:Nat) (s:Shared) (Q:Z5) (E:Z5),tn i s.heap->Q (.ref it) s->wpAny (model P w) A (pyIter (.ref it)) Q E s
abbrev TI:=St->Hp->(It->Hp->Prop)->Prop
def PIE(X:Cx)(pins:Z3)(σ:St)(tg:Expr)(R:It->Hp->Prop)(itv:Value)(s2:Shared):Prop :=
 ∃(it:Addr) (fp:List Addr) (tn:Nat->Heap->Prop) (J:It) (H':Hp),itv=.ref it/\Inv X pins σ H' s2/\Turn X.prog X.w X.K tg J fp it tn/\tn 0 s2.heap/\(∀b∈fp,FpOk X pins H' b)/\R J H'
def PI(X:Cx)(tg iter:Expr)(wi:TI):Prop :=
 ∀(pins:Z3) (s:Shared) (σ:St) (H:Hp) (R:It->Hp->Prop),Inv X pins σ H s->wi σ H R →
  wpAny (model X.prog X.w) X.A (eval iter X.env) (fun v s1=>wpAny (model X.prog X.w) X.A (pyIter v) (PIE X pins σ tg R) X.xe s1) X.xe s
theorem go_of {M : Model} {A : Around} {E : Z5} {s : Shared} {tg : Expr} {it : Addr} {u : Value} {o : Obj} {n : String} {vs : Array Value} {Q : Unit -> Shared -> Prop} (ho : s.heap.get? it = some o) (hc : o.cls = .type n) (hd : o.data = .fields vs)
    (hn : ["enumerate", "zip", "dict_itemiterator", "dict_reverseitemiterator", "odict_iterator", "itertools.zip_longest", "itertools.pairwise"].contains n = false) (hQ : Q () s) : wpAny M A (letOwnedTupleGo tg (.ref it) u) Q E s := by
  unfold letOwnedTupleGo
  cases tg <;> first
    | exact wpAny_pure hQ
    | (cases u <;> first
        | exact wpAny_pure hQ
        | (refine wpAny_bind (wpAny_load ho ?_)
           rw [hc, hd]
           show wpAny M A (if (["enumerate", "zip", "dict_itemiterator", "dict_reverseitemiterator", "odict_iterator", "itertools.zip_longest", "itertools.pairwise"].contains n && vs[0]? == some (rawInt _)) = true then _ else _) Q E s
           rw [if_neg (by intro h; rw [hn, Bool.false_and] at h; cases h)]
           exact wpAny_pure hQ))
def Itl(K:PySem.W.Frag)(a:Addr):It :=
 ⟨fun i H=>∃xs x,SqL K H a xs/\xs[i]?=some x,fun i H x H'=>H'=H/\∀xs,SqL K H a xs->xs[i]?=some x,fun i H=>∃xs,SqL K H a xs/\xs.length<=i⟩
def Itt(K:PySem.W.Frag)(a:Addr):It :=
 ⟨fun i H=>∃xs x,SqT K H a xs/\xs[i]?=some x,fun i H x H'=>H'=H/\∀xs,SqT K H a xs->xs[i]?=some x,fun i H=>∃xs,SqT K H a xs/\xs.length<=i⟩
def Itr(lo:Int)(n:Nat):It:=⟨fun i _=>i<n,fun i H x H'=>H'=H/\x=.int (lo+i),fun i _=>n<=i⟩
theorem turn_list{P:Program}{w:World}{K:PySem.W.Frag}{tg:Expr}(a it:Addr):Turn P w K tg (Itl K a) [it] it (fun i h=>h.IsListIter it a i) where
 mem:=by simp
 obj:=fun i h st b hb=>by
  have e:b=it:=by simpa using hb
  subst e
  obtain ⟨o,e,c,d⟩:=st
  exact ⟨o,e,fun v z=>by rw [d] at z;cases z⟩
 keep:=fun i h h' st k=>st.at fun o e=>k it (by simp) o e
 item:=by
  intro X hP hw hK hc i pins s σ H E I hf st hg
  subst hP hw hK
  obtain ⟨xs,x,hq,hx⟩:=hg
  obtain ⟨its,rv,p,hz⟩:=I.list hq
  obtain ⟨u,hu,ru⟩:=rv.get hx
  obtain ⟨f0,f1,f2,f3,f4,f5⟩:=hf it (by simp)
  refine wpAny_pyNext_list_item st p.isList (x:=u) (by simpa using hu) fun h' st' sb=>?_
  have I1:Inv X pins σ H { s with heap:=h' }:=I.turned (t':=s.toks) (fun b o hb e=>(sb.2 b hb).trans e) f0 f1 f3 f4 f5
  obtain ⟨o,e,c,d⟩:=id st'
  exact ⟨u,rfl,go_of (s:={ s with heap:=h' }) e c d (by decide) ⟨x,H,I1,ru,⟨rfl,fun ys hy=>by rw [I.list_inj hy hq];exact hx⟩,st',fun b hb=>(hf b hb).1⟩⟩
 done:=by
  intro X hP hw hK hc i pins s σ H E I hf st hg
  subst hP hw hK
  obtain ⟨xs,hq,hx⟩:=hg
  obtain ⟨its,rv,p,hz⟩:=I.list hq
  obtain ⟨f0,f1,f2,f3,f4,f5⟩:=hf it (by simp)
  have hl:=rv.length
  exact wpAny_pyNext_list_end (I.ok.hd hc) st p.isList (by simp;omega) fun h' eb=>⟨rfl,I.turned (t':=s.toks) (fun b o hb e=>eb b o hb e) f0 f1 f3 f4 f5⟩
 self:=fun _ _ _ _ _ st h=>wpAny_pyIter_listiter st h
theorem turn_tuple{P:Program}{w:World}{K:PySem.W.Frag}{tg:Expr}(a it:Addr):Turn P w K tg (Itt K a) [it] it (fun i h=>h.IsTupleIter it a i) where
 mem:=by simp
 obj:=fun i h st b hb=>by
  have e:b=it:=by simpa using hb
  subst e
  obtain ⟨o,e,c,d⟩:=st
  exact ⟨o,e,fun v z=>by rw [d] at z;cases z⟩
 keep:=fun i h h' st k=>st.at fun o e=>k it (by simp) o e
 item:=by
  intro X hP hw hK hc i pins s σ H E I hf st hg
  subst hP hw hK
  obtain ⟨xs,x,hq,hx⟩:=hg
  obtain ⟨its,rv,p,hz⟩:=I.tuple hq
  obtain ⟨u,hu,ru⟩:=rv.get hx
  obtain ⟨f0,f1,f2,f3,f4,f5⟩:=hf it (by simp)
  refine wpAny_pyNext_tuple_item st (show s.heap.IsTuple a its.toArray from p) (x:=u) (by simpa using hu) fun h' st' sb=>?_
  have I1:Inv X pins σ H { s with heap:=h' }:=I.turned (t':=s.toks) (fun b o hb e=>(sb.2 b hb).trans e) f0 f1 f3 f4 f5
  obtain ⟨o,e,c,d⟩:=id st'
  exact ⟨u,rfl,go_of (s:={ s with heap:=h' }) e c d (by decide) ⟨x,H,I1,ru,⟨rfl,fun ys hy=>by rw [I.tuple_inj hy hq];exact hx⟩,st',fun b hb=>(hf b hb).1⟩⟩
 done:=by
  intro X hP hw hK hc i pins s σ H E I hf st hg
  subst hP hw hK
  obtain ⟨xs,hq,hx⟩:=hg
  obtain ⟨its,rv,p,hz⟩:=I.tuple hq
  obtain ⟨f0,f1,f2,f3,f4,f5⟩:=hf it (by simp)
  have hl:=rv.length
  exact wpAny_pyNext_tuple_end (I.ok.hd hc) st (show s.heap.IsTuple a its.toArray from p) (by simp;omega) fun h' eb=>⟨rfl,I.turned (t':=s.toks) (fun b o hb e=>eb b o hb e) f0 f1 f3 f4 f5⟩
 self:=fun _ _ _ _ _ st h=>wpAny_pyIter_tupleiter st h
theorem turn_range{P:Program}{w:World}{K:PySem.W.Frag}{tg:Expr}(it:Addr)(lo:Int)(n:Nat):Turn P w K tg (Itr lo n) [it] it (fun i h=>IsRangeIter h it (lo+(i:Nat)*1) ((n:Int)-(i:Nat)) 1) where
 mem:=by simp
 obj:=fun i h st b hb=>by
  have e:b=it:=by simpa using hb
  subst e
  exact ⟨_,st,fun v z=>by
   have z':Data.fields _=Data.cell v:=z
   cases z'⟩
 keep:=fun i h h' st k=>k it (by simp) _ st
 item:=by
  intro X hP hw hK hc i pins s σ H E I hf st hg
  subst hP hw hK
  obtain ⟨f0,f1,f2,f3,f4,f5⟩:=hf it (by simp)
  have W:=Walks.range (prog:=X.prog) (w:=X.w) (I.ok.hd hc) it lo 1 n
  refine W.item i s _ _ hg st fun v h' tk hv st' kk=>?_
  obtain ⟨t,rfl⟩:=hv
  have I1:Inv X pins σ H { s with heap:=h',toks:=tk }:=I.turned (fun b o hb e=>kk b o (by simpa using hb) e) f0 f1 f3 f4 f5
  refine ⟨_,rfl,go_of (s:={ s with heap:=h',toks:=tk }) (n:="range_iterator") st' rfl rfl (by decide) ⟨.int (lo+i),H,I1,⟨t,?_⟩,⟨rfl,rfl⟩,st',fun b hb=>(hf b hb).1⟩⟩
  rw [Int.mul_one]
 done:=by
  intro X hP hw hK hc i pins s σ H E I hf st hg
  subst hP hw hK
  obtain ⟨f0,f1,f2,f3,f4,f5⟩:=hf it (by simp)
  exact wpAny_pyNext_range_end (I.ok.hd hc) st (by have:n<=i:=hg;omega) fun h' eb=>⟨rfl,I.turned (t':=s.toks) (fun b o hb e=>eb b o hb e) f0 f1 f3 f4 f5⟩
 self:=fun _ _ _ _ _ st h=>wpAny_pyIter_rangeiter st h
end L2
namespace L2
open PySem PySem.Spec PyProof.Rows
section
variable{X:Cx}{tg:Expr}
def iList(K:PySem.W.Frag)(tl:TE):TI:=fun σ H R=>tl σ H fun x H1=>∃a,x=.ref a/\(∃xs,SqL K H1 a xs)/\R (Itl K a) H1
def iTup(K:PySem.W.Frag)(tl:TE):TI:=fun σ H R=>tl σ H fun x H1=>∃a,x=.ref a/\(∃xs,SqT K H1 a xs)/\R (Itt K a) H1
theorem pi_list{l:Expr}{tl:TE}(hl:PE X l tl):PI X tg l (iList X.K tl):=by
 intro pins s σ H R I h
 refine thn (hl pins s σ H _ I h) fun v s1 ⟨x,H1,I1,r1,q1⟩=>?_
 obtain ⟨a,e,⟨xs,hq⟩,q⟩:=q1
 subst e
 cases r1
 obtain ⟨its,rv,p,hz⟩:=I1.list hq
 refine wpAny_pyIter_list p.isList ?_
 refine ⟨s1.heap.objs.size,[s1.heap.objs.size],_,_,H1,rfl,I1.kept (t':=s1.toks) fun b o e=>Heap.get?_push_of_some _ e,turn_list a _,⟨_,Heap.get?_push_size _ rfl,rfl,rfl⟩,fun b hb=>?_,q⟩
 have e:b=s1.heap.objs.size:=by simpa using hb
 subst e
 exact I1.fpOk (Nat.le_refl _) (I1.hok.fresh (Nat.le_refl _))
theorem pi_tup{l:Expr}{tl:TE}(hl:PE X l tl):PI X tg l (iTup X.K tl):=by
 intro pins s σ H R I h
 refine thn (hl pins s σ H _ I h) fun v s1 ⟨x,H1,I1,r1,q1⟩=>?_
 obtain ⟨a,e,⟨xs,hq⟩,q⟩:=q1
 subst e
 cases r1
 obtain ⟨its,rv,p,hz⟩:=I1.tuple hq
 refine wpAny_pyIter_tuple (show s1.heap.IsTuple a its.toArray from p) ?_
 refine ⟨s1.heap.objs.size,[s1.heap.objs.size],_,_,H1,rfl,I1.kept (t':=s1.toks) fun b o e=>Heap.get?_push_of_some _ e,turn_tuple a _,⟨_,Heap.get?_push_size _ rfl,rfl,rfl⟩,fun b hb=>?_,q⟩
 have e:b=s1.heap.objs.size:=by simpa using hb
 subst e
 exact I1.fpOk (Nat.le_refl _) (I1.hok.fresh (Nat.le_refl _))
theorem range_it{pins:Z3}{σ:St}{H:Hp}{s:Shared}{R:It->Hp->Prop}{E:Z5}{lo hi:Int}{t u v:Tok}{tk:Nat}(I:Inv X pins σ H s)(h1:-(2 ^ 62)<=lo)(h2:lo<2 ^ 62)(h3:-(2 ^ 62)<=hi)(h4:hi<2 ^ 62)
  (q:R (Itr lo (hi-lo).toNat) H):wpAny (model X.prog X.w) X.A (pyIter (.ref s.heap.objs.size)) (PIE X pins σ tg R) E { s with heap:=s.heap.push { cls:=.type "range",data:=.fields #[.int lo t,.int hi u,.int 1 v] },toks:=tk }:=by
 refine wpAny_pyIter_range (IsRange.new ..) (small_one h1 h2 h3 h4) ?_
 have I1:Inv X pins σ H { s with heap:=s.heap.push { cls:=.type "range",data:=.fields #[.int lo t,.int hi u,.int 1 v] },toks:=tk }:=I.kept fun b o e=>Heap.get?_push_of_some _ e
 refine ⟨(s.heap.push { cls:=.type "range",data:=.fields #[.int lo t,.int hi u,.int 1 v] }).objs.size,[(s.heap.push { cls:=.type "range",data:=.fields #[.int lo t,.int hi u,.int 1 v] }).objs.size],_,_,H,rfl,
  I1.kept (t':=tk) fun b o e=>Heap.get?_push_of_some _ e,turn_range _ lo (hi-lo).toNat,?_,fun b hb=>?_,q⟩
 ·have e1:lo+((0:Nat):Int)*1=lo:=by simp
  have e2:(((hi-lo).toNat:Nat):Int)-((0:Nat):Int)=Builtin.Range.rangeSize lo hi 1:=by rw [rangeSize_one];split<;>omega
  show IsRangeIter _ _ (lo+((0:Nat):Int)*1) ((((hi-lo).toNat:Nat):Int)-((0:Nat):Int)) 1
  rw [e1,e2]
  exact Heap.get?_push_size _ rfl
 ·have e:b=(s.heap.push { cls:=.type "range",data:=.fields #[.int lo t,.int hi u,.int 1 v] }).objs.size:=by simpa using hb
  subst e
  exact I1.fpOk (Nat.le_refl _) (I1.hok.fresh (Nat.le_refl _))
def iRng1(ta:TA):TI:=fun σ H R=>ta σ H fun vs H1=>∃j:Int,vs=[.int j]/\-(2 ^ 62)<=j/\j<2 ^ 62/\R (Itr 0 j.toNat) H1
def iRng2(ta:TA):TI:=fun σ H R=>ta σ H fun vs H1=>∃i j:Int,vs=[.int i,.int j]/\(-(2 ^ 62)<=i/\i<2 ^ 62/\-(2 ^ 62)<=j/\j<2 ^ 62)/\R (Itr i (j-i).toNat) H1
theorem pi_range1{a:Expr}{ta:TA}{p pos:Pos}(hg:Gl X "range")(hm:X.mg "range" = none)(ha:PA X [a] ta)(hs:starEach [a] X.env=[(false,eval a X.env)]:=by rfl):PI X tg (.Call (.Name "range" p) [a] [] pos) (iRng1 ta):=by
 intro pins s σ H R I h
 refine Call_ (ld_blt I hg hm boot_range (PyProof.Rows.callWith_type1 (thn (ha pos pins s σ H _ I h) fun us s1 ⟨vs,H1,I1,r1,q1⟩=>?_) hs rfl))
 obtain ⟨j,e,q1,q2,q⟩:=q1
 subst e
 cases r1 with
 | cons r rr =>
  cases rr
  obtain ⟨t,rfl⟩:=r
  exact call_range_1 (range_it I1 (by omega) (by omega) q1 q2 (by simpa using q))
theorem pi_range2{a b:Expr}{ta:TA}{p pos:Pos}(hg:Gl X "range")(hm:X.mg "range" = none)(ha:PA X [a,b] ta)(hs:starEach [a,b] X.env=[(false,eval a X.env),(false,eval b X.env)]:=by rfl)(hs2:starEach [b] X.env=[(false,eval b X.env)]:=by rfl) :
  PI X tg (.Call (.Name "range" p) [a,b] [] pos) (iRng2 ta):=by
 intro pins s σ H R I h
 refine Call_ (ld_blt I hg hm boot_range (PyProof.Rows.callWith_type1 (thn (ha pos pins s σ H _ I h) fun us s1 ⟨vs,H1,I1,r1,q1⟩=>?_) (by rw [hs,hs2]) (by rw [hs2];rfl)))
 obtain ⟨i,j,e,⟨q1,q2,q3,q4⟩,q⟩:=q1
 subst e
 cases r1 with
 | cons r rr =>
  cases rr with
  | cons r' rr =>
   cases rr
   obtain ⟨t,rfl⟩:=r
   obtain ⟨t',rfl⟩:=r'
   exact call_range_2 (range_it I1 q1 q2 q3 q4 q)
def tFor(wi:TI)(g:TG)(tb:TS):TS:=fun D σ H=>wi σ H fun J H1=>∃W:Nat->Nat->St->Hp->Prop,(∃m,W 0 m σ H1)/\∀i m σ H,W i m σ H →
 (J.stop i H/\D.nx σ H)\/(J.go i H/\∃N:St->Hp->Prop,(∀σ' H',N σ' H'->∃m',m'<m/\W (i+1) m' σ' H')/\∀x H',J.yld i H x H'->g x σ H' fun σ2 H2=>tb { D with nx:=N,ct:=N,bk:=D.nx } σ2 H2)
def pinsAt(fp:List Addr)(h:Heap):List (Addr×Obj):=fp.filterMap fun b=>(h.get? b).map fun o=>(b,o)
theorem mem_pinsAt{fp:List Addr}{h:Heap}{b:Addr}{o:Obj}(hb:b∈fp)(e:h.get? b=some o):(b,o)∈pinsAt fp h:=List.mem_filterMap.mpr ⟨b,hb,by rw [e];rfl⟩
theorem of_pinsAt{fp:List Addr}{h:Heap}{p:Addr×Obj}(hp:p∈pinsAt fp h):p.1∈fp/\h.get? p.1=some p.2:=by
 obtain ⟨b,hb,e⟩:=List.mem_filterMap.mp hp
 cases q:h.get? b with
 | none=>rw [q] at e;cases e
 | some o =>
  rw [q] at e
  have e':(b,o)=p:=Option.some.inj e
  subst e'
  exact ⟨hb,q⟩
theorem Inv.pinned{pins:Z3}{σ:St}{H:Hp}{s:Shared}{fp:List Addr}(I:Inv X pins σ H s)(hf:∀b∈fp,FpOk X pins H b)(ho:∀b∈fp,∃o,s.heap.get? b=some o/\∀v,o.data≠.cell v):Inv X (pins++pinsAt fp s.heap) σ H s :=
 I.pins_of fun p hp=>(List.mem_append.mp hp).elim (fun z=>I.pin p (List.mem_append_right _ z)) fun z=>by
  obtain ⟨hb,e⟩:=of_pinsAt z
  obtain ⟨f0,f1,f2,_⟩:=hf p.1 hb
  obtain ⟨o,e',d⟩:=ho p.1 hb
  rw [e] at e';cases e'
  exact ⟨e,f0,f1,f2,d⟩
theorem Inv.unpinned{pins pl:Z3}{σ:St}{H:Hp}{s:Shared}(I:Inv X (pins++pl) σ H s):Inv X pins σ H s:=I.pins_of fun p hp=>I.pin p (List.mem_append_right _ (List.mem_append_left _ hp))
theorem ps_for{iter:Expr}{body:List Stmt}{wi:TI}{g:TG}{tb:TS}{pos:Pos}(hp:PassesOwn (model X.prog X.w) X.A X.env X.xe)(hc:X.calm=true)(hi:PI X tg iter wi)(hg:PG X tg g)(hb:PSs X body tb)
  (hs:∀x,foldedSetIterable iter X.env x=pure x:=by intro _;rfl):PS X (.For tg iter body [] pos) (tFor wi g tb):=by
 intro pins s σ H D I h
 refine wpAny_For (thn (hi pins s σ H _ I h) fun v s1 h1=>thn h1 fun itv s2 h2=>?_) hs
 obtain ⟨it,fp,tn,J,H2,e,I2,T,st2,f2,W,⟨m0,w0⟩,turn⟩:=h2
 subst e
 have stat:∀{H':Hp},(∀b∈fp,H' b=none)->∀b∈fp,FpOk X pins H' b:=fun hn b hb=>⟨hn b hb,(f2 b hb).2⟩
 refine codeAny_forLoop_any (fun n s'=>∃i σ' H',Inv X pins σ' H' s'/\tn i s'.heap/\(∀b∈fp,H' b=none)/\W i n σ' H') ?_ m0 ⟨0,σ,H2,I2,st2,fun b hb=>(f2 b hb).1,w0⟩
 rintro n s3 ⟨i,σ3,H3,I3,st3,fr3,w3⟩
 rcases turn i n σ3 H3 w3 with ⟨stop,qn⟩ | ⟨go,N,hN,step⟩
 ·refine wpAny_passesOwn hp (thn (T.done X rfl rfl rfl hc i pins s3 σ3 H3 X.xe I3 (stat fr3) st3 stop) fun r s4 ⟨hr,I4⟩=>?_)
  subst hr
  exact wpAny_execs_nil ⟨σ3,H3,I4,qn⟩
 ·refine wpAny_passesOwn hp (thn (T.item X rfl rfl rfl hc i pins s3 σ3 H3 X.xe I3 (stat fr3) st3 go) fun r s4 ⟨u,hr,h4⟩=>?_)
  subst hr
  refine wpAny_passesOwn hp (thn h4 fun _ s5 ⟨x,H5,I5,r5,y5,st5,fr5⟩=>?_)
  have I5':=I5.pinned (stat fr5) (T.obj _ _ st5)
  refine wpAny_passesOwn hp (thn (hg _ s5 σ3 H5 x u _ I5' r5 (step x H5 y5)) fun _ s6 ⟨σ6,H6,I6,q6⟩=>?_)
  refine wpAny_passesOwn hp (thn (hb _ s6 σ6 H6 _ I6 q6) fun f s7 q7=>?_)
  have again:∀{σ7:St} {H7:Hp},Inv X (pins++pinsAt fp s5.heap) σ7 H7 s7->N σ7 H7->∃m,m<n/\∃i σ' H',Inv X pins σ' H' s7/\tn i s7.heap/\(∀b∈fp,H' b=none)/\W i m σ' H':=fun {σ7 H7} I7 n7=>by
   obtain ⟨m',hm,w7⟩:=hN σ7 H7 n7
   refine ⟨m',hm,i+1,σ7,H7,I7.unpinned,T.keep _ _ _ st5 fun b hb o e=>(I7.pin (b,o) (List.mem_append_right _ (List.mem_append_right _ (mem_pinsAt hb e)))).1,fun b hb=>?_,w7⟩
   obtain ⟨o,e,d⟩:=T.obj _ _ st5 b hb
   exact (I7.pin (b,o) (List.mem_append_right _ (List.mem_append_right _ (mem_pinsAt hb e)))).2.1
  cases f with
  | next=>obtain ⟨σ7,H7,I7,n7⟩:=q7;exact again I7 n7
  | cont=>obtain ⟨σ7,H7,I7,n7⟩:=q7;exact again I7 n7
  | brk=>obtain ⟨σ7,H7,I7,q7⟩:=q7;exact ⟨σ7,H7,I7.unpinned,q7⟩
  | ret v=>obtain ⟨x7,σ7,H7,I7,r7,q7⟩:=q7;exact ⟨x7,σ7,H7,I7.unpinned,r7,q7⟩
end
end L2
namespace L2
open PySem PySem.Spec PyProof.Rows
abbrev R2:=V->V->Hp->VK->Prop
def OpR(X:Cx)(f:Value->Value->Sem Value)(r:R2):Prop :=
 ∀(pins:Z3) (s:Shared) (σ:St) (H:Hp) (x y:V) (v u:Value) (Q:VK),Inv X pins σ H s->RelV x v->RelV y u->r x y H Q →
  wpAny (model X.prog X.w) X.A (f v u) (EP X pins σ Q) X.xe s
def UnR(X:Cx)(f:Value->Sem Value)(r:V->Hp->VK->Prop):Prop :=
 ∀(pins:Z3) (s:Shared) (σ:St) (H:Hp) (x:V) (v:Value) (Q:VK),Inv X pins σ H s->RelV x v->r x H Q →
  wpAny (model X.prog X.w) X.A (f v) (EP X pins σ Q) X.xe s
def CallR(X:Cx)(f:Value)(r:List V->Hp->VK->Prop):Prop :=
 ∀(pins:Z3) (s:Shared) (σ:St) (H:Hp) (xs:List V) (us:List Value) (Q:VK),Inv X pins σ H s->Vals xs us->r xs H Q →
  wpAny (model X.prog X.w) X.A (call f us) (EP X pins σ Q) X.xe s
def tOp(r:R2)(ta tb:TE):TE:=fun σ H Q=>ta σ H fun x H1=>tb σ H1 fun y H2=>r x y H2 Q
def tUn(r:V->Hp->VK->Prop)(ta:TE):TE:=fun σ H Q=>ta σ H fun x H1=>r x H1 Q
def rI(C:Int->Int->Prop)(g:Int->Int->V):R2:=fun x y H Q=>∃i j,x=.int i/\y=.int j/\C i j/\Q (g i j) H
def rI0(g:Int->Int->V):R2:=fun x y H Q=>∃i j,x=.int i/\y=.int j/\Q (g i j) H
def rU(g:Int->V):V->Hp->VK->Prop:=fun x H Q=>∃i,x=.int i/\Q (g i) H
section
variable{X:Cx}{a b c:Expr}{ta tb tc:TE}{pos:Pos}
theorem binT(ha:PE X a ta)(hb:PE X b tb){pins:Z3}{s:Shared}{σ:St}{H:Hp}{R:V->V->Hp->Prop}(I:Inv X pins σ H s)
  (h:ta σ H fun x H1=>tb σ H1 fun y H2=>R x y H2) {Q:Z5} {f:Value->Value->Sem Value}
  (hf:∀v u s2 x y H2,Inv X pins σ H2 s2->RelV x v->RelV y u->R x y H2->wpAny (model X.prog X.w) X.A (f v u) Q X.xe s2) :
  wpAny (model X.prog X.w) X.A (eval a X.env) (fun v s₁=>wpAny (model X.prog X.w) X.A (eval b X.env) (fun u s₂=>wpAny (model X.prog X.w) X.A (f v u) Q X.xe s₂) X.xe s₁) X.xe s:=by
 refine thn (ha pins s σ H _ I h) fun v s1 ⟨x,H1,I1,r1,q1⟩=>?_
 refine thn (hb pins s1 σ H1 _ I1 q1) fun u s2 ⟨y,H2,I2,r2,q2⟩=>?_
 exact hf v u s2 x y H2 I2 r1 r2 q2
theorem pe_op{op:Operator}{r:R2}(ho:OpR X (binaryOp op) r)(ha:PE X a ta)(hb:PE X b tb):PE X (.BinOp a op b pos) (tOp r ta tb):=by
 intro pins s σ H Q I h
 exact wpAny_BinOp (binT ha hb I h fun v u s2 x y H2 I2 rx ry q=>ho pins s2 σ H2 x y v u Q I2 rx ry q)
theorem pe_un{op:UnaryOp}{r:V->Hp->VK->Prop}(ho:UnR X (unaryOp op) r)(ha:PE X a ta):PE X (.UnaryOp op a pos) (tUn r ta):=by
 intro pins s σ H Q I h
 exact UnaryOp_ (thn (ha pins s σ H _ I h) fun v s1 ⟨x,H1,I1,r1,q1⟩=>ho pins s1 σ H1 x v Q I1 r1 q1)
theorem opI{f:Value->Value->Sem Value}{C:Int->Int->Prop}{g:Int->Int->Int}
  (rule:∀(i j:Int) (t u:Tok) (s:Shared) (Q:Z5) (E:Z5),C i j->Q (.int (g i j) s.toks) { s with toks:=s.toks+1 }->wpAny (model X.prog X.w) X.A (f (.int i t) (.int j u)) Q E s) :
  OpR X f (rI C fun i j=>.int (g i j)):=by
 intro pins s σ H x y v u Q I rx ry h
 obtain ⟨i,j,rfl,rfl,hc,q⟩:=h
 obtain ⟨t,rfl⟩:=rx
 obtain ⟨t',rfl⟩:=ry
 exact rule i j t t' s _ _ hc ⟨.int (g i j),H,I.tok _,⟨_,rfl⟩,q⟩
theorem opI0{f:Value->Value->Sem Value}{g:Int->Int->Int}
  (rule:∀(i j:Int) (t u:Tok) (s:Shared) (Q:Z5) (E:Z5),Q (.int (g i j) s.toks) { s with toks:=s.toks+1 }->wpAny (model X.prog X.w) X.A (f (.int i t) (.int j u)) Q E s) :
  OpR X f (rI0 fun i j=>.int (g i j)):=by
 intro pins s σ H x y v u Q I rx ry h
 obtain ⟨i,j,rfl,rfl,q⟩:=h
 obtain ⟨t,rfl⟩:=rx
 obtain ⟨t',rfl⟩:=ry
 exact rule i j t t' s _ _ ⟨.int (g i j),H,I.tok _,⟨_,rfl⟩,q⟩
theorem opB0{f:Value->Value->Sem Value}{g:Int->Int->Bool}
  (rule:∀(i j:Int) (t u:Tok) (s:Shared) (Q:Z5) (E:Z5),Q (.bool (g i j)) s->wpAny (model X.prog X.w) X.A (f (.int i t) (.int j u)) Q E s) :
  OpR X f (rI0 fun i j=>.bl (g i j)):=by
 intro pins s σ H x y v u Q I rx ry h
 obtain ⟨i,j,rfl,rfl,q⟩:=h
 obtain ⟨t,rfl⟩:=rx
 obtain ⟨t',rfl⟩:=ry
 exact rule i j t t' s _ _ ⟨.bl (g i j),H,I,rfl,q⟩
def CDiv(i j:Int):Prop:=0<j/\j<1073741824
def CMul(i j:Int):Prop:=(-(2 ^ 64)<i/\i<2 ^ 64)\/(-(2 ^ 64)<j/\j<2 ^ 64)
theorem CMul.ok{i j:Int}(h:CMul i j):IntMulOk i j:=by
 rcases h with ⟨h1,h2⟩ | ⟨h1,h2⟩
 ·exact .of_left (intBits_le_64 h1 h2)
 ·exact .of_right (intBits_le_64 h1 h2)
theorem op_add:OpR X (binaryOp .Add) (rI0 fun i j=>.int (i+j)):=opI0 fun _ _ _ _ _ _ _ q=>add_int q
theorem op_sub:OpR X (binaryOp .Sub) (rI0 fun i j=>.int (i-j)):=opI0 fun _ _ _ _ _ _ _ q=>sub_int q
theorem op_mul:OpR X (binaryOp .Mult) (rI CMul fun i j=>.int (i*j)):=opI fun _ _ _ _ _ _ _ hc q=>mul_int q hc.ok
theorem op_fdiv:OpR X (binaryOp .FloorDiv) (rI CDiv fun i j=>.int (i / j)):=opI fun i j _ _ _ _ _ hc q=>by
 have h1:(0:Int)<j:=hc.1
 have h2:j<1073741824:=hc.2
 exact floordiv_int (by omega) (by rw [Int.fdiv_eq_ediv_of_nonneg i (by omega)];exact q) (.inl (PyProof.noPylong_small (by omega)))
theorem op_mod:OpR X (binaryOp .Mod) (rI (fun _ j=>0<j) fun i j=>.int (i % j)):=opI fun i j _ _ _ _ _ hc q=>by
 have h1:(0:Int)<j:=hc
 exact mod_int' (by omega) (by rw [Int.fmod_eq_emod_of_nonneg i (by omega)];exact q)
theorem unI{f:Value->Sem Value}{g:Int->Int}
  (rule:∀(i:Int) (t:Tok) (s:Shared) (Q:Z5) (E:Z5),Q (.int (g i) s.toks) { s with toks:=s.toks+1 }->wpAny (model X.prog X.w) X.A (f (.int i t)) Q E s) :
  UnR X f (rU fun i=>.int (g i)):=by
 intro pins s σ H x v Q I rx h
 obtain ⟨i,rfl,q⟩:=h
 obtain ⟨t,rfl⟩:=rx
 exact rule i t s _ _ ⟨.int (g i),H,I.tok _,⟨_,rfl⟩,q⟩
theorem un_neg:UnR X (unaryOp .USub) (rU fun i=>.int (-i)):=unI fun _ _ _ _ _ q=>neg_int q
end
section
variable{X:Cx}{a b c:Expr}{ta tb tc:TE}{pos:Pos}
theorem fin_bl{pins:Z3}{σ:St}{H:Hp}{s:Shared}{Q:VK}{k k':Bool}(I:Inv X pins σ H s)(q:Q (.bl k) H)(e:k=k'):EP X pins σ Q (.bool k') s:=by
 subst e
 exact ⟨.bl k,H,I,rfl,q⟩
theorem op_lt:OpR X (compareOp .Lt) (rI0 fun i j=>.bl (decide (i<j))):=opB0 fun _ _ _ _ _ _ _ q=>lt_int q
theorem op_le:OpR X (compareOp .LtE) (rI0 fun i j=>.bl (decide (i<=j))):=opB0 fun _ _ _ _ _ _ _ q=>le_int q
theorem op_gt:OpR X (compareOp .Gt) (rI0 fun i j=>.bl (decide (j<i))):=opB0 fun _ _ _ _ _ _ _ q=>gt_int q
theorem op_ge:OpR X (compareOp .GtE) (rI0 fun i j=>.bl (decide (j<=i))):=opB0 fun _ _ _ _ _ _ _ q=>ge_int q
theorem op_isN:OpR X (compareOp .Is) (fun x y H Q=>y=.non/\Q (.bl (decide (x=.non))) H):=by
 intro pins s σ H x y v u Q I rx ry h
 obtain ⟨rfl,q⟩:=h
 cases ry
 refine is_none_gen (fin_bl I q ?_)
 cases x<;>first
  | (cases rx;rfl)
  | (obtain ⟨t,rfl⟩:=rx;rfl)
theorem op_notN:OpR X (compareOp .IsNot) (fun x y H Q=>y=.non/\Q (.bl (!decide (x=.non))) H):=by
 intro pins s σ H x y v u Q I rx ry h
 obtain ⟨rfl,q⟩:=h
 cases ry
 refine isnot_none_gen (fin_bl I q ?_)
 cases x<;>first
  | (cases rx;rfl)
  | (obtain ⟨t,rfl⟩:=rx;rfl)
theorem pe_cmpR{op:CmpOp}{r:R2}(ho:OpR X (compareOp op) r)(ha:PE X a ta)(hb:PE X b tb)(hm:behindInMarks op b=false):PE X (.Compare a [op] [b] pos) (tOp r ta tb):=by
 intro pins s σ H Q I h
 exact wpAny_Compare1 (binT ha hb I h fun v u s2 x y H2 I2 rx ry q=>ho pins s2 σ H2 x y v u Q I2 rx ry q) hm
def tTest(t:TE):TT:=fun σ H Q=>t σ H fun x H'=>∃k,x=.bl k/\Q k H'
theorem pt_cmpR{op:CmpOp}{r:R2}(ho:OpR X (compareOp op) r)(ha:PE X a ta)(hb:PE X b tb)(hm:behindInMarks op b=false):PT X (.Compare a [op] [b] pos) (tTest (tOp r ta tb)):=by
 intro pins s σ H Q I h
 refine wpAny_isTrue_Compare1 (thn (ha pins s σ H _ I h) fun v s1 ⟨x,H1,I1,r1,q1⟩=>thn (hb pins s1 σ H1 _ I1 q1) fun u s2 ⟨y,H2,I2,r2,q2⟩ =>
  thn (ho pins s2 σ H2 x y v u _ I2 r1 r2 q2) fun c s3 ⟨z,H3,I3,r3,k,e,q3⟩=>?_) hm
 subst e
 cases r3
 exact wpAny_truthy_bool ⟨H3,I3,q3⟩
def tChain(r r':R2)(ta tb tc:TE):TE:=fun σ H Q=>ta σ H fun x H1=>tb σ H1 fun y H2=>r x y H2 fun z H3=>∃k,z=.bl k ∧
 (if k=true then tc σ H3 fun w' H4=>r' y w' H4 Q else Q (.bl false) H3)
theorem pe_chain{op op':CmpOp}{r r':R2}(ho:OpR X (compareOp op) r)(ho':OpR X (compareOp op') r')(ha:PE X a ta)(hb:PE X b tb)(hc:PE X c tc)
  (hm:lastMarks [op,op'] [b,c]=false:=by with_unfolding_all rfl):PE X (.Compare a [op,op'] [b,c] pos) (tChain r r' ta tb tc):=by
 intro pins s σ H Q I h
 refine Compare_chain (thn (ha pins s σ H _ I h) fun v s1 ⟨x,H1,I1,r1,q1⟩=>chain_link (thn (hb pins s1 σ H1 _ I1 q1) fun u s2 ⟨y,H2,I2,r2,q2⟩ =>
  thn (ho pins s2 σ H2 x y v u _ I2 r1 r2 q2) fun d s3 ⟨z,H3,I3,r3,k,e,q3⟩=>?_)) hm
 subst e
 cases r3
 refine wpAny_truthy_bool ?_
 cases k with
 | false=>exact ite_ff ⟨.bl false,H3,I3,rfl,q3⟩
 | true=>exact ite_tt (chain_last (thn (hc pins s3 σ H3 _ I3 q3) fun w' s4 ⟨z',H4,I4,r4,q4⟩=>ho' pins s4 σ H4 y z' u w' Q I4 r2 r4 q4))
theorem pt_chain{op op':CmpOp}{r r':R2}(ho:OpR X (compareOp op) r)(ho':OpR X (compareOp op') r')(ha:PE X a ta)(hb:PE X b tb)(hc:PE X c tc)
  (hm:lastMarks [op,op'] [b,c]=false:=by with_unfolding_all rfl):PT X (.Compare a [op,op'] [b,c] pos) (tTest (tChain r r' ta tb tc)):=by
 intro pins s σ H Q I h
 refine isTrue_chain (thn (ha pins s σ H _ I h) fun v s1 ⟨x,H1,I1,r1,q1⟩=>test_link (thn (hb pins s1 σ H1 _ I1 q1) fun u s2 ⟨y,H2,I2,r2,q2⟩ =>
  thn (ho pins s2 σ H2 x y v u _ I2 r1 r2 q2) fun d s3 ⟨z,H3,I3,r3,k,e,q3⟩=>?_)) hm
 subst e
 cases r3
 refine wpAny_truthy_bool ?_
 cases k with
 | false =>
  obtain ⟨k',e',q'⟩:=q3
  cases e'
  exact ite_ff ⟨H3,I3,q'⟩
 | true =>
  refine ite_tt (test_last (thn (hc pins s3 σ H3 _ I3 q3) fun w' s4 ⟨z',H4,I4,r4,q4⟩=>thn (ho' pins s4 σ H4 y z' u w' _ I4 r2 r4 q4) fun d' s5 ⟨z2,H5,I5,r5,k2,e2,q5⟩=>?_))
  subst e2
  cases r5
  exact wpAny_truthy_bool ⟨H5,I5,q5⟩
theorem line63:(sizeLine:Nat)<2 ^ 63:=by rw [sizeLine_eq];decide
theorem op_add_str:OpR X (binaryOp .Add) (fun x y H Q=>∃i j,x=.str i/\y=.str j/\i.length+j.length<=sizeLine/\Q (.str (i++j)) H):=by
 intro pins s σ H x y v u Q I rx ry h
 obtain ⟨i,j,rfl,rfl,hz,q⟩:=h
 obtain ⟨t,rfl⟩:=rx
 obtain ⟨t',rfl⟩:=ry
 exact add_str (fun t' tk=>⟨.str (i++j),H,I.tok _,⟨_,rfl⟩,q⟩) hz
theorem vals1{x:V}{us:List Value}(r:Vals [x] us):∃u,us=[u]/\RelV x u:=by
 cases r with
 | cons r1 r2=>cases r2;exact ⟨_,rfl,r1⟩
end
end L2
namespace L2
open PySem PySem.Spec PyProof.Rows
structure ObjM(h:Heap)(x dx C:Addr)(mA:Z6):Prop where
 obj:h.get? x=some (PySem.W.instObj C dx)
 ns:h.Ns1 dx mA
 ne:dx≠x
theorem lookIn_ns{h:Heap}{dx:Addr}{mA:Z6}(n:h.Ns1 dx mA):∃od,h.get? dx=some od/\∀name,PySem.W.lookIn name od=some (mA name):=by
 obtain ⟨o,es,ep,ho,hd,hk,_,hm⟩:=n
 refine ⟨o,ho,fun name=>?_⟩
 have e:=hm name
 unfold nsFind findBy at e
 rw [<-Array.find?_toList] at e
 unfold PySem.W.lookIn
 rw [hd]
 dsimp only
 split
 ·rename_i y q
  rw [q] at e
  exact congrArg some e
 ·rename_i q
  rw [q] at e
  have a:es.toList.any (·.refKey)=false:=by
   rw [List.any_eq_false]
   intro y hy
   obtain ⟨z,t,hkey⟩:=hk y (Array.mem_toList_iff.mp hy)
   simp [DictEntry.refKey,hkey]
  have a':¬ es.toList.any (·.refKey)=true:=by rw [a];exact Bool.false_ne_true
  rw [if_neg a']
  exact congrArg some e
theorem ObjM.look{h:Heap}{x dx C:Addr}{mA:Z6}(I:ObjM h x dx C mA):∃od,PySem.W.InstAt h x (PySem.W.instObj C dx) C (some od)/\∀name,PySem.W.lookIn name od=some (mA name) :=
 let ⟨od,ho,hl⟩:=lookIn_ns I.ns
 ⟨od,⟨I.obj,rfl,rfl,ho⟩,hl⟩
section
variable{prog:Program}{w:World}{A:Around}{E:Z5}{s:Shared}{K:PySem.W.Frag}{x dx C f:Addr}{mA:Z6}{name:Str}{v:Value}
theorem get_map{expr:Bool}{Q:Z5}(X:K.In s.heap)(I:ObjM s.heap x dx C mA)(hg:PySem.W.plainGet K C name=true)(hh:PySem.W.hasDictIn K C=true)
  (ha:PySem.W.findIn K (.ref C) name=some none) (hv:mA name=some v) (hv':PySem.W.handedIn v=true) (h:Q v { s with toks:=s.toks+1 }) :
  wpAny (model prog w) A (getAttr (.ref x) name expr) Q E s:=by
 obtain ⟨od,J,hl⟩:=I.look
 exact PySem.W.get_value X J (PySem.W.plainGet_of hg).1 (PySem.W.findObj_own hh ha rfl (by rw [hl,hv])) hv' h
theorem get_meth{pl:Sem Bool}{Q:Value×List Value->Shared->Prop}(X:K.In s.heap)(I:ObjM s.heap x dx C mA)(hg:PySem.W.plainGet K C name=true)
  (hf:PySem.W.findIn K (.ref C) name=some (some (.ref f))) (ht:PySem.W.isFn K (.ref f)=true) (hv:mA name=none) (h:Q (.ref f,[.ref x]) s) :
  wpAny (model prog w) A (getMethod (.ref x) name pl) Q E s:=by
 obtain ⟨od,J,hl⟩:=I.look
 exact PySem.W.method_fn X J (PySem.W.plainGet_of hg).1 (PySem.W.plainGet_of hg).2 hf (beq_iff_eq.mp ht) (by show (PySem.W.lookIn name od).map (·.isSome)=some false;rw [hl,hv];rfl) h
theorem set_map{ns:List Str}{Q:Unit->Shared->Prop}(X:K.In s.heap)(I:ObjM s.heap x dx C mA)
  (hs:PySem.W.findIn K (.ref C) "__setattr__" = some (some (.builtin "object.__setattr__"))) (hp:PySem.W.plainOver K C=true) (ht:PySem.W.takerIn K C name=some none) (hh:PySem.W.hasDictIn K C=true)
  (hw:PySem.Within mA ns) (hsz:ns.length<=sizeLine)
  (h:∀h',ObjM h' x dx C (fun y=>if y=name then some v else mA y)->Heap.SameBut dx s.heap h'->Q () { s with heap:=h',toks:=s.toks+2 }) :
  wpAny (model prog w) A (setAttr (.ref x) name v) Q E s:=by
 obtain ⟨od,J,hl⟩:=I.look
 refine PySem.W.set_plain X J hs (PySem.W.osa_open (s:={ s with toks:=s.toks+1 }) (r:=none) X J hp ht fun b=>?_)
 obtain ⟨cd,hc,hd'⟩:=PySem.W.any_some hh
 have hx:s.heap.get? x=some ⟨.ref C,some dx,.plain,#[]⟩:=I.obj
 refine wpAny_bind (wpAny_pure (wpAny_bind (wpAny_bind (wpAny_loadPart hx (wpAny_bind (PySem.W.Looks.here (s:={ s with toks:=s.toks+1 }) (PySem.W.looks_clsIn X hc) ?_))))))
 rw [hd']
 refine wpAny_pure (a:=some dx) (wpAny_bind (wpAny_pure (wpAny_bind ?_)))
 refine wpAny_nsSet1 (s:={ s with toks:=s.toks+1 }) I.ns fun h' hn2 hs2=>?_
 obtain ⟨oD,esD,epD,hoD,hdD,hcD⟩:=hn2.count (PySem.Within.cons name v hw)
 refine wpAny_bind (wpAny_lookBehind hoD (by rw [hdD];exact pastItsLine_dict (Nat.le_trans hcD (by rw [List.length_cons];omega))) ?_)
 exact wpAny_pure (h _ ⟨(hs2.2 _ (Ne.symm I.ne)).trans I.obj,hn2,I.ne⟩ hs2)
theorem make_map{R:Result->Shared->Prop}{vs:List Value}{kw:List (Str×Value)}(X:K.In s.heap)(hm:PySem.W.makesIn K C=true)
  (hi:PySem.W.findIn K (.ref C) "__init__" = some (some (.ref f))) (hf:PySem.W.typeIn K (.ref f)=some (.type "function"))
  (h:codeAny (model prog w) (A.under (.builtin "type.__call__" ⟨.ref C::vs,kw⟩)) (.call (.ref f) ⟨.ref (s.heap.objs.size+1)::vs,kw⟩) (PySem.W.InitBack (s.heap.objs.size+1) R)
   { s with heap:=(s.heap.push PySem.W.emptyDict).push (PySem.W.instObj C s.heap.objs.size) }) :
  codeAny (model prog w) A (.call (.ref C) ⟨vs,kw⟩) R s:=by
 obtain ⟨hh,g,d,t,os⟩:=s
 exact PySem.W.make_core (PySem.W.makes_of X hm) (PySem.W.looks_findIn X hi) (fun self=>PySem.W.bind_fn X self hf) (.inl rfl) h
end
def putF(f:Str)(v:V):List (Str×V)->List (Str×V)
 | []=>[(f,v)]
 | (g,x)::r=>if g=f then (g,v)::r else (g,x)::putF f v r
theorem lookup_putF(f g:Str)(v:V):∀fs:List (Str×V),(putF f v fs).lookup g=if g=f then some v else fs.lookup g
 | []=>by
  show List.lookup g [(f,v)]=_
  by_cases h:g=f
  ·have hb:(g == f)=true:=beq_iff_eq.mpr h
   simp only [List.lookup,hb,if_pos h]
  ·have hb:(g == f)=false:=beq_eq_false_iff_ne.mpr h
   simp only [List.lookup,hb,if_neg h]
 | (k,x)::r=>by
  have ih:=lookup_putF f g v r
  rw [show putF f v ((k,x)::r)=(if k=f then (k,v)::r else (k,x)::putF f v r) from rfl]
  by_cases hk:k=f
  ·rw [if_pos hk]
   by_cases h:g=k
   ·have hb:(g == k)=true:=beq_iff_eq.mpr h
    simp only [List.lookup,hb,if_pos (h.trans hk)]
   ·have hb:(g == k)=false:=beq_eq_false_iff_ne.mpr h
    simp only [List.lookup,hb,if_neg (fun e:g=f=>h (e.trans hk.symm))]
  ·rw [if_neg hk]
   by_cases h:g=k
   ·have hb:(g == k)=true:=beq_iff_eq.mpr h
    simp only [List.lookup,hb,if_neg (fun e:g=f=>hk (h.symm.trans e))]
   ·have hb:(g == k)=false:=beq_eq_false_iff_ne.mpr h
    simp only [List.lookup,hb]
    exact ih
theorem keys_putF(f:Str)(v:V):∀fs:List (Str×V),f∈(putF f v fs).map (·.1)/\∀g,g∈fs.map (·.1)->g∈(putF f v fs).map (·.1)
 | []=>⟨by simp [putF],fun g h=>by simp at h⟩
 | (k,x)::r=>by
  obtain ⟨i1,i2⟩:=keys_putF f v r
  rw [show putF f v ((k,x)::r)=(if k=f then (k,v)::r else (k,x)::putF f v r) from rfl]
  by_cases hk:k=f
  ·rw [if_pos hk]
   subst hk
   exact ⟨by simp,fun g h=>by simpa using h⟩
  ·rw [if_neg hk]
   refine ⟨?_,fun g h=>?_⟩
   ·rw [List.map_cons]
    exact List.mem_cons_of_mem _ i1
   ·rw [List.map_cons] at h ⊢
    rcases List.mem_cons.mp h with e | e
    ·exact List.mem_cons.mpr (.inl e)
    ·exact List.mem_cons_of_mem _ (i2 g e)
theorem length_putF(f:Str)(v:V):∀fs:List (Str×V),(putF f v fs).length<=fs.length+1
 | []=>by simp [putF]
 | (k,x)::r=>by
  have ih:=length_putF f v r
  rw [show putF f v ((k,x)::r)=(if k=f then (k,v)::r else (k,x)::putF f v r) from rfl]
  by_cases hk:k=f
  ·rw [if_pos hk,List.length_cons,List.length_cons];omega
  ·rw [if_neg hk,List.length_cons,List.length_cons];omega
theorem RelO.some_of{v:V}{o:Option Value}(r:RelO (some v) o):∃u,o=some u/\RelV v u:=by
 cases o with
 | none=>exact (show False from r).elim
 | some u=>exact ⟨u,rfl,r⟩
theorem RelO.none_of{o:Option Value}(r:RelO none o):o=none:=by
 cases o with
 | none=>rfl
 | some u=>exact (show False from r).elim
theorem handed_of{v:V}{u:Value}(r:RelV v u):PySem.W.handedIn u=true:=by
 cases v with
 | non=>cases (show u=Value.none from r);rfl
 | bl b=>cases (show u=Value.bool b from r);rfl
 | int i=>obtain ⟨t,e⟩:=(show ∃t,u=Value.int i t from r);cases e;rfl
 | str x=>obtain ⟨t,e⟩:=(show ∃t,u=Value.str x t from r);cases e;rfl
 | byt b=>obtain ⟨t,e⟩:=(show ∃t,u=Value.bytes b t from r);cases e;rfl
 | flt b=>obtain ⟨t,e⟩:=(show ∃t,u=Value.float b t from r);cases e;rfl
 | ref a=>cases (show u=Value.ref a from r);rfl
 | ty n=>cases (show u=Value.type n from r);rfl
section
variable{P:Program}{w:World}{H H':Hp}{h h':Heap}{a C dx:Addr}{fs fs':List (Str×V)}
theorem ins_get(hok:HOk P w H h)(e:H a=some (.ins C dx fs)):∃mA,ObjM h a dx C mA/\(∀f,RelO (fs.lookup f) (mA f))/\PySem.Within mA (fs.map (·.1))/\fs.length<=1000/\H dx=some (.own a):=by
 obtain ⟨d,z,ne,ob,mA,n,r,q⟩:=(show ObjOk P w H h a (.ins C dx fs) from hok a _ e)
 exact ⟨mA,⟨ob,n,ne⟩,r,q,z,d⟩
end
structure Cls(K:PySem.W.Frag)(C:Addr):Prop where
 pg:PySem.W.plainGet K C Str.empty=true
 hd:PySem.W.hasDictIn K C=true
 po:PySem.W.plainOver K C=true
 sa:PySem.W.findIn K (.ref C) "__setattr__" = some (some (.builtin "object.__setattr__"))
theorem Cls.get{K:PySem.W.Frag}{C:Addr}(c:Cls K C)(f:Str):PySem.W.plainGet K C f=true:=c.pg
def NoAttr(K:PySem.W.Frag)(C:Addr)(f:Str):Prop:=PySem.W.findIn K (.ref C) f=some none
theorem NoAttr.taker{K:PySem.W.Frag}{C:Addr}{f:Str}(n:NoAttr K C f):PySem.W.takerIn K C f=some none:=by
 unfold PySem.W.takerIn
 rw [show PySem.W.findIn K (.ref C) f=some none from n]
 rfl
structure Meth(K:PySem.W.Frag)(C:Addr)(m:Str)(f:Addr):Prop where
 at_:PySem.W.findIn K (.ref C) m=some (some (.ref f))
 fn:PySem.W.isFn K (.ref f)=true
 kp:PySem.W.keepIn K (.ref f)=true
section
variable{X:Cx}{pins:Z3}{σ:St}{H:Hp}{s:Shared}{a C dx:Addr}{fs:List (Str×V)}{f:Str}{v:V}{A:Around}{E:Z5}
theorem getattr_ok{b:Bool}{Q:Z5}(I:Inv X pins σ H s)(e:H a=some (.ins C dx fs))(c:Cls X.K C)(n:NoAttr X.K C f)(l:fs.lookup f=some v)
  (h:∀u s',Inv X pins σ H s'->RelV v u->Q u s'):wpAny (model X.prog X.w) A (getAttr (.ref a) f b) Q E s:=by
 obtain ⟨mA,O,r,_,_,_⟩:=ins_get I.hok e
 obtain ⟨u,hu,ru⟩:=RelO.some_of (v:=v) (o:=mA f) (by rw [<-l];exact r f)
 exact get_map I.kIn O (c.get f) c.hd n hu (handed_of ru) (h u _ (I.tok _) ru)
theorem getmeth_ok{m:Str}{g:Addr}{pl:Sem Bool}{Q:Value×List Value->Shared->Prop}(I:Inv X pins σ H s)(e:H a=some (.ins C dx fs))(c:Cls X.K C)(k:Meth X.K C m g)(l:fs.lookup m=none)
  (h:Q (.ref g,[.ref a]) s):wpAny (model X.prog X.w) A (getMethod (.ref a) m pl) Q E s:=by
 obtain ⟨mA,O,r,_,_,_⟩:=ins_get I.hok e
 have hn:mA m=none:=RelO.none_of (by rw [<-l];exact r m)
 exact get_meth I.kIn O (c.get m) k.at_ k.fn hn h
theorem setattr_ok{y:V}{u:Value}{Q:Unit->Shared->Prop}(I:Inv X pins σ H s)(e:H a=some (.ins C dx fs))(c:Cls X.K C)(n:NoAttr X.K C f)(hl:fs.length<1000)(ry:RelV y u)
  (h:∀s',Inv X pins σ (upd H a (.ins C dx (putF f y fs))) s'->Q () s'):wpAny (model X.prog X.w) A (setAttr (.ref a) f u) Q E s:=by
 obtain ⟨mA,O,r,wi,_,ho⟩:=ins_get I.hok e
 have hz:(fs.map (·.1)).length<=sizeLine:=by rw [List.length_map,sizeLine_eq];omega
 refine set_map I.kIn O c.sa c.po n.taker c.hd wi hz fun h' O' sb=>h _ ?_
 have hd:∃o,h'.get? dx=some o:=let ⟨o,_,_,e',_⟩:=O'.ns;⟨o,e'⟩
 refine I.write (x:=a) (e:=dx) (by rw [e];exact True.intro) (.inr ho) (fun b q hb z=>(sb.2 b hb).trans z) hd ?_
 refine ⟨by rw [upd_ne O.ne];exact ho,?_,O.ne,O'.obj,_,O'.ns,fun g=>?_,fun g hg=>?_⟩
 ·have:=length_putF f y fs;omega
 ·show RelO ((putF f y fs).lookup g) (if g=f then some u else mA g)
  rw [lookup_putF]
  by_cases q:g=f
  ·rw [if_pos q,if_pos q];exact ry
  ·rw [if_neg q,if_neg q];exact r g
 ·by_cases q:g=f
  ·rw [q];exact (keys_putF f y fs).1
  ·refine (keys_putF f y fs).2 g (wi g fun z=>hg ?_)
   show (if g=f then some u else mA g)=none
   rw [if_neg q];exact z
theorem Inv.made(I:Inv X pins σ H s):Inv X pins σ (upd (upd H s.heap.objs.size (.own (s.heap.objs.size+1))) (s.heap.objs.size+1) (.ins C s.heap.objs.size []))
  { s with heap:=(s.heap.push PySem.W.emptyDict).push (PySem.W.instObj C s.heap.objs.size) }:=by
 have e1:(s.heap.push PySem.W.emptyDict).get? s.heap.objs.size=some PySem.W.emptyDict:=Heap.get?_push_size s.heap rfl
 have e2:((s.heap.push PySem.W.emptyDict).push (PySem.W.instObj C s.heap.objs.size)).get? (s.heap.objs.size+1)=some (PySem.W.instObj C s.heap.objs.size):=by
  have:=Heap.get?_push_size (s.heap.push PySem.W.emptyDict) (o:=PySem.W.instObj C s.heap.objs.size) rfl
  rwa [Heap.size_push] at this
 have e3:(s.heap.push PySem.W.emptyDict).Ns s.heap.objs.size (fun _=>none):=⟨PySem.W.emptyDict,#[],_,e1,rfl,(fun e he=>absurd he (by simp)),fun _=>rfl⟩
 have I1:=I.laid (a:=s.heap.objs.size) (o:=.own (s.heap.objs.size+1)) (h':=s.heap.push PySem.W.emptyDict) (t':=s.toks) (fun b u q=>Heap.get?_push_of_some _ q) (Nat.le_refl _) ⟨_,e1⟩
 refine I1.laid (a:=s.heap.objs.size+1) (o:=.ins C s.heap.objs.size []) (t':=s.toks) (fun b u q=>Heap.get?_push_of_some _ q) (Nat.le_of_eq (Heap.size_push _ _)) ?_
 have ne:s.heap.objs.size≠s.heap.objs.size+1:=Nat.ne_of_lt (Nat.lt_succ_self _)
 refine ⟨by rw [upd_ne ne,upd_same],Nat.zero_le _,ne,e2,fun _=>none,(Heap.Ns1.of_empty e3).at fun o q=>Heap.get?_push_of_some _ q,fun _=>True.intro,fun y hy=>absurd rfl hy⟩
theorem attr_of{prog:Program}{w:World}{env:Env}{e:Expr}{f:Str}{pos:Pos}{s:Shared}{Q:Z5}(hb:attributeBase e f env (eval e env)=eval e env)
  (h:wpAny (model prog w) A (eval e env) (fun o s₁=>wpAny (model prog w) A (getAttr o f true) Q E s₁) E s):wpAny (model prog w) A (eval (.Attribute e f pos) env) Q E s :=
 Attribute_any_ h (by rw [arm_eval_Attribute,hb])
end
def tFld(K:PySem.W.Frag)(ta:TE)(f:Str):TE:=fun σ H Q=>ta σ H fun x H1=>∃a C dx fs v,x=.ref a/\H1 a=some (.ins C dx fs)/\Cls K C/\NoAttr K C f/\fs.lookup f=some v/\Q v H1
def sFld(K:PySem.W.Frag)(ta tv:TE)(f:Str):TS:=fun D σ H=>tv σ H fun y H1=>ta σ H1 fun x H2=>∃a C dx fs,x=.ref a/\H2 a=some (.ins C dx fs)/\Cls K C/\NoAttr K C f/\fs.length<1000 ∧
 D.nx σ (upd H2 a (.ins C dx (putF f y fs)))
def InOp(X:Cx)(op:Operator)(rd:V->V->Hp->VK->Prop):Prop :=
 ∀(pins:Z3) (s:Shared) (σ:St) (H:Hp) (x y:V) (u v:Value) (Q:VK),Inv X pins σ H s->RelV x u->RelV y v->rd x y H Q->wpAny (model X.prog X.w) X.A (inplaceOp op u v) (EP X pins σ Q) X.xe s
section
variable{X:Cx}{o e value:Expr}{f:Str}{pos pos' tpos:Pos}{ta tv:TE}
theorem pe_fld(he:PE X e ta)(hb:attributeBase e f X.env (eval e X.env)=eval e X.env):PE X (.Attribute e f pos) (tFld X.K ta f):=by
 intro pins s σ H Q I h
 refine attr_of hb (thn (he pins s σ H _ I h) fun u s1 ⟨x,H1,I1,rx,a,C,dx,fs,v,ex,ea,c,n,l,q⟩=>?_)
 subst ex
 obtain rfl:u=Value.ref a:=rx
 exact getattr_ok I1 ea c n l fun u' s2 I2 ru=>⟨v,H1,I2,ru,q⟩
theorem ps_fld(ha:PE X o ta)(hv:PE X value tv)(hs:swapsWith value (some (.Attribute o f pos')) pos.line X.env=pure false):PS X (.Assign [.Attribute o f pos'] value pos) (sFld X.K ta tv f):=by
 intro pins s σ H D I h
 refine plainObj_wpAny_Assign_Attribute (thn (hv pins s σ H _ I h) fun u s1 ⟨y,H1,I1,ry,q⟩=>thn (ha pins s1 σ H1 _ I1 q) fun ov s2 ⟨x,H2,I2,rx,a,C,dx,fs,ex,ea,c,n,l,q2⟩=>?_) hs
 subst ex
 obtain rfl:ov=Value.ref a:=rx
 exact setattr_ok I2 ea c n l ry fun s3 I3=>⟨σ,_,I3,q2⟩
def rAdd:V->V->Hp->VK->Prop:=fun x y H Q=>∃i j,x=.int i/\y=.int j/\Q (.int (i+j)) H
def rSub:V->V->Hp->VK->Prop:=fun x y H Q=>∃i j,x=.int i/\y=.int j/\Q (.int (i-j)) H
theorem in_add:InOp X .Add rAdd:=by
 rintro pins s σ H x y u v Q I rx ry ⟨i,j,rfl,rfl,q⟩
 obtain ⟨t,rfl⟩:=(show ∃t,u=Value.int i t from rx)
 obtain ⟨t',rfl⟩:=(show ∃t',v=Value.int j t' from ry)
 exact PyProof.Rows.iadd_int ⟨.int (i+j),H,I.tok _,⟨_,rfl⟩,q⟩
theorem in_sub:InOp X .Sub rSub:=by
 rintro pins s σ H x y u v Q I rx ry ⟨i,j,rfl,rfl,q⟩
 obtain ⟨t,rfl⟩:=(show ∃t,u=Value.int i t from rx)
 obtain ⟨t',rfl⟩:=(show ∃t',v=Value.int j t' from ry)
 exact PyProof.Rows.isub_int ⟨.int (i-j),H,I.tok _,⟨_,rfl⟩,q⟩
end
section
variable{X:Cx}{pins:Z3}{σ:St}{H:Hp}{s:Shared}{A:Around}{E:Z5}{Q:Z5}{c:Value}{b:Bool}
inductive TyOf(K:PySem.W.Frag)(H:Hp):V->Value->Prop where
 | non:TyOf K H .non (.type "NoneType")
 | bl (x:Bool):TyOf K H (.bl x) (.type "bool")
 | int (i:Int):TyOf K H (.int i) (.type "int")
 | str (x:Str):TyOf K H (.str x) (.type "str")
 | flt (x:UInt64):TyOf K H (.flt x) (.type "float")
 | lst {a:Addr} {xs:List V} (e:H a=some (.lst xs)):TyOf K H (.ref a) (.type "list")
 | frz {a:Addr} {o:Obj} {xs:List V} (e:H a=some (.frz o (.lst xs))):TyOf K H (.ref a) (.type "list")
 | tup {a:Addr} {xs:List V} (e:H a=some (.tup xs)):TyOf K H (.ref a) (.type "tuple")
 | dK {a:Addr} {kvs:List (Key×V)} (e:H a=some (.dK kvs)):TyOf K H (.ref a) (.type "dict")
 | dT {a:Addr} {kvs:List (List Key×V)} (e:H a=some (.dT kvs)):TyOf K H (.ref a) (.type "dict")
 | ins {a C dx:Addr} {fs:List (Str×V)} (e:H a=some (.ins C dx fs)) (cl:Cls K C) (ha:PySem.W.findIn K (.ref C) "__class__" = some (some (.builtin "object.__class__")))
   (hn:PySem.W.specialIn K (.builtin "object.__class__") "__get__" = some (some (.builtin "getset_descriptor.__get__"))) (htk:PySem.W.takesIn K (.builtin "object.__class__")=some true)
   (hm:PySem.W.mroIn K C (.type "object")=some true):TyOf K H (.ref a) (.ref C)
theorem isinst_ok{x:V}{u t:Value}(I:Inv X pins σ H s)(rx:RelV x u)(ty:TyOf X.K H x t)(e:PySem.W.kitOne X.K t c=some b)(h:∀tk,Q (.bool b) { s with toks:=tk }) :
  wpAny (model X.prog X.w) A (call (.builtin "isinstance") [u,c]) Q E s:=by
 cases ty with
 | non=>cases (show u=Value.none from rx);exact PySem.W.kia_one PySem.W.kitx_none I.kIn True.intro e (fun z=>nomatch z) h
 | bl y=>cases (show u=Value.bool y from rx);exact PySem.W.kia_one PySem.W.kitx_bool I.kIn True.intro e (fun z=>nomatch z) h
 | int i=>obtain ⟨t,q⟩:=(show ∃t,u=Value.int i t from rx);cases q;exact PySem.W.kia_one PySem.W.kitx_int I.kIn True.intro e (fun z=>nomatch z) h
 | str y=>obtain ⟨t,q⟩:=(show ∃t,u=Value.str y t from rx);cases q;exact PySem.W.kia_one PySem.W.kitx_str I.kIn True.intro e (fun z=>nomatch z) h
 | flt y=>obtain ⟨t,q⟩:=(show ∃t,u=Value.float y t from rx);cases q;exact PySem.W.kia_one PySem.W.kitx_float I.kIn True.intro e (fun z=>nomatch z) h
 | @lst a xs ea =>
  cases (show u=Value.ref a from rx)
  obtain ⟨_,_,n,_,h1⟩:=(show ObjOk X.prog X.w H s.heap a (.lst xs) from I.hok a _ ea)
  exact PySem.W.kia_one PySem.W.kitx_list I.kIn ⟨_,h1,rfl⟩ e (fun z=>nomatch z) h
 | @frz a ob xs ea =>
  cases (show u=Value.ref a from rx)
  obtain ⟨_,_,_,n,_,h1⟩:=(show ObjOk X.prog X.w H s.heap a (.frz ob (.lst xs)) from I.hok a _ ea)
  exact PySem.W.kia_one PySem.W.kitx_list I.kIn ⟨_,h1,rfl⟩ e (fun z=>nomatch z) h
 | @tup a xs ea =>
  cases (show u=Value.ref a from rx)
  obtain ⟨_,_,_,p⟩:=(show ObjOk X.prog X.w H s.heap a (.tup xs) from I.hok a _ ea)
  obtain ⟨o,h1,h2,_⟩:=p
  exact PySem.W.kia_one PySem.W.kitx_tuple I.kIn ⟨o,h1,h2⟩ e (fun z=>nomatch z) h
 | @dK a kvs ea =>
  cases (show u=Value.ref a from rx)
  obtain ⟨_,_,vs,_,p⟩:=(show ObjOk X.prog X.w H s.heap a (.dK kvs) from I.hok a _ ea)
  obtain ⟨o,es,ep,h1,h2,_⟩:=p
  exact PySem.W.kia_one PySem.W.kitx_dict I.kIn ⟨o,h1,h2.1⟩ e (fun z=>nomatch z) h
 | @dT a kvs ea =>
  cases (show u=Value.ref a from rx)
  obtain ⟨_,_,xs,_,o,es,ep,h1,h2,_⟩:=(show ObjOk X.prog X.w H s.heap a (.dT kvs) from I.hok a _ ea)
  exact PySem.W.kia_one PySem.W.kitx_dict I.kIn ⟨o,h1,h2.1⟩ e (fun z=>nomatch z) h
 | @ins a C dx fs ea cl ha hn htk hm =>
  cases (show u=Value.ref a from rx)
  obtain ⟨mA,O,_⟩:=ins_get I.hok ea
  obtain ⟨od,J,_⟩:=O.look
  exact PySem.W.kia_one (PySem.W.kitx_own (cl.get _) cl.hd ha hn htk hm) I.kIn J e (fun z=>nomatch z) h
end
end L2
namespace L2
open PySem PySem.Spec PyProof.Rows
structure Room(k:Nat)(A:Around):Prop where
 hd:A.handled=none
 dp:A.depth+3*k+5<recursionLimit
 un:A.units+16*k+200<cLine
theorem Room.mono{j k:Nat}{A:Around}(r:Room k A)(h:j<=k):Room j A:=⟨r.hd,by have:=r.dp;omega,by have:=r.un;omega⟩
theorem Room.deeper{k:Nat}{A:Around}(r:Room (k+1) A)(env:Env):Room k (A.deeper env) :=
 ⟨r.hd,by have:=r.dp;show A.depth+1+3*k+5<_;omega,by have:=r.un;show A.units+3+16*k+200<_;omega⟩
theorem make_depth{A:Around}{C:Addr}{us:List Value}{kw:List (Str×Value)}:(A.under (.builtin "type.__call__" ⟨.ref C::us,kw⟩)).depth=A.depth+1:=by
 first | rfl | simp [Around.under,Code.weight,Code.isCreation,Code.isGuard,Code.isCaller,Code.frames,Code.isFrame,guardIds]
theorem make_units{A:Around}{C:Addr}{us:List Value}{kw:List (Str×Value)}:(A.under (.builtin "type.__call__" ⟨.ref C::us,kw⟩)).units=A.units+1:=by
 first | rfl | simp [Around.under,Code.cUnits,Code.frames,Code.isFrame]
theorem Room.make{k:Nat}{A:Around}(r:Room (k+1) A)(C:Addr)(us:List Value)(kw:List (Str×Value)):Room k (A.under (.builtin "type.__call__" ⟨.ref C::us,kw⟩)) :=
 ⟨r.hd,by have:=r.dp;rw [make_depth];omega,by have:=r.un;rw [make_units];omega⟩
theorem Room.depth{k:Nat}{A:Around}(r:Room k A):A.depth<recursionLimit:=by have:=r.dp;omega
theorem Room.units{k:Nat}{A:Around}(r:Room k A):A.units+64<cLine:=by have:=r.un;omega
def tNil:TA:=fun _ H Q=>Q [] H
def tCons(ta:TE)(tr:TA):TA:=fun σ H Q=>ta σ H fun x H1=>tr σ H1 fun xs H2=>Q (x::xs) H2
section
variable{X:Cx}{e:Expr}{es:List Expr}{te:TE}{t:TA}{pos:Pos}
theorem pa_nil:PA X [] tNil:=fun _ _ _ _ H Q I h=>Calls.spliced_nil ⟨[],H,I,.nil,h⟩
theorem pa_cons(ha:PE X e te)(hr:PA X es t)(hs:starEach (e::es) X.env=(false,eval e X.env)::starEach es X.env:=by rfl):PA X (e::es) (tCons te t):=by
 intro pos pins s σ H Q I h
 rw [hs]
 show wpAny _ _ (spliced ((false,eval e X.env)::backTo pos (starEach es X.env))) _ _ s
 refine Calls.spliced_cons (thn (ha pins s σ H _ I h) fun u s1 ⟨x,H1,I1,r1,q1⟩=>?_)
 exact thn (hr pos pins s1 σ H1 _ I1 q1) fun us s2 ⟨xs,H2,I2,r2,q2⟩=>⟨x::xs,H2,I2,.cons r1 r2,q2⟩
def tTup(t:TA):TE:=fun σ H Q=>t σ H fun xs H1=>xs.length<=sizeLine/\∀p,H1 p=none->Q (.ref p) (upd H1 p (.tup xs))
def tLst(t:TA):TE:=fun σ H Q=>t σ H fun xs H1=>xs.length<=sizeLine/\∀p,H1 p=none->Q (.ref p) (upd H1 p (.lst xs))
theorem pe_tup{x1}(h:PA X es t):PE X (.Tuple es x1 pos) (tTup t):=by
 intro pins s σ H Q I hq
 refine wpAny_Tuple_spliced (thn (h pos pins s σ H _ I hq) fun us s1 ⟨xs,H1,I1,r,z,q⟩=>⟨by rw [<-r.length];exact z,?_⟩)
 have hf:H1 s1.heap.objs.size=none:=I1.hok.fresh (Nat.le_refl _)
 refine ⟨.ref s1.heap.objs.size,upd H1 s1.heap.objs.size (.tup xs),I1.laid (t':=s1.toks) (fun b u e=>Heap.get?_push_of_some _ e) (Nat.le_refl _) ?_,rfl,q _ hf⟩
 exact ⟨z,us,r,⟨_,Heap.get?_push_size _ rfl,rfl,_,rfl⟩⟩
theorem pe_lst(h:PA X es t):PE X (.List es pos) (tLst t):=by
 intro pins s σ H Q I hq
 refine wpAny_List_spliced (thn (h pos pins s σ H _ I hq) fun us s1 ⟨xs,H1,I1,r,z,q⟩=>⟨by rw [<-r.length];exact z,?_⟩)
 have hf:H1 s1.heap.objs.size=none:=I1.hok.fresh (Nat.le_refl _)
 refine ⟨.ref s1.heap.objs.size,upd H1 s1.heap.objs.size (.lst xs),I1.laid (t':=s1.toks) (fun b u e=>Heap.get?_push_of_some _ e) (Nat.le_refl _) ?_,rfl,q _ hf⟩
 exact ⟨z,us,0,r,Heap.get?_push_size _ rfl⟩
end
abbrev Sp:=List V->Hp->VK->XK->Prop
abbrev CXT:=List Env->Hp->Shared->XK->Value->Shared->Prop
structure Env0(P:Program)(w:World)(K:PySem.W.Frag)(mg:Z6)(base:Heap)(A:Around)(outer:List Env)(s:Shared)(H:Hp):Prop where
 frames:A.frames=some outer
 mod:Mod K mg base
 bs:∀b o,base.get? b=some o->s.heap.get? b=some o/\H b=none
 bsz:base.objs.size<=s.heap.objs.size
 funs:s.heap.FunFrames base outer
 frf:∀b∈frs outer,H b=none
 hok:HOk P w H s.heap
 bare:AllBare s.gens
def CE(outer:List Env)(P:Program)(w:World)(H:Hp)(s:Shared)(Q:VK)(u:Value)(s':Shared):Prop :=
 ∃v H',s'.os=s.os/\AllBare s'.gens/\Un (frs outer) [] H H' s.heap s'.heap/\HOk P w H' s'.heap/\RelV v u/\Q v H'
def CR(CX:CXT)(outer:List Env)(P:Program)(w:World)(H:Hp)(s:Shared)(Q:VK)(E:XK)(r:Result)(s':Shared):Prop :=
 match r with
 | .ok (.ret u)=>CE outer P w H s Q u s'
 | .ok _=>False
 | .error e=>CX outer H s E e s'
structure FnOk(P:Program)(w:World)(K:PySem.W.Frag)(mg:Z6)(base:Heap)(CX:CXT)(k:Nat)(f:Addr)(fd:FuncData)(ps:List Str)(sp:Sp):Prop where
 len:∀vs H Q E,sp vs H Q E->vs.length=ps.length
 run:∀(A:Around) (outer:List Env) (s:Shared) (H:Hp) (args:Args) (us:List Value) (vs:List V) (Q:VK) (E:XK),Room k A->Env0 P w K mg base A outer s H->BindsTo s fd args (ps.zip us)->Vals vs us->sp vs H Q E →
  codeAny (model P w) A (.call (.ref f) args) (CR CX outer P w H s Q E) s
theorem FnOk.mono{P:Program}{w:World}{K:PySem.W.Frag}{mg:Z6}{base:Heap}{CX:CXT}{j k:Nat}{f:Addr}{fd:FuncData}{ps:List Str}{sp:Sp}(F:FnOk P w K mg base CX j f fd ps sp)(h:j<=k) :
  FnOk P w K mg base CX k f fd ps sp:=⟨F.len,fun A outer s H args us vs Q E hr=>F.run A outer s H args us vs Q E (hr.mono h)⟩
theorem FnOk.imp{P:Program}{w:World}{K:PySem.W.Frag}{mg:Z6}{base:Heap}{CX:CXT}{k:Nat}{f:Addr}{fd:FuncData}{ps:List Str}{sp sp':Sp}(F:FnOk P w K mg base CX k f fd ps sp)
  (h:∀vs H Q E,sp' vs H Q E->sp vs H Q E):FnOk P w K mg base CX k f fd ps sp' :=
 ⟨fun vs H Q E q=>F.len vs H Q E (h _ _ _ _ q),fun A outer s H args us vs Q E hr he hb hv hs=>F.run A outer s H args us vs Q E hr he hb hv (h _ _ _ _ hs)⟩
theorem Env0.make{P:Program}{w:World}{K:PySem.W.Frag}{mg:Z6}{base:Heap}{A:Around}{outer:List Env}{s:Shared}{H:Hp}(e:Env0 P w K mg base A outer s H)(C:Addr)(us:List Value)(kw:List (Str×Value)) :
  Env0 P w K mg base (A.under (.builtin "type.__call__" ⟨.ref C::us,kw⟩)) outer s H:=⟨by first | exact e.frames | (simpa [Around.under,Code.envs,Code.isFrame,pushEnvs] using e.frames),e.mod,e.bs,e.bsz,e.funs,e.frf,e.hok,e.bare⟩
section
variable{X:Cx}{pins:Z3}{σ:St}{H:Hp}{s s':Shared}
theorem Inv.env0(I:Inv X pins σ H s):Env0 X.prog X.w X.K X.mg X.base X.A X.stack s H :=
 ⟨I.ok.frames,I.ok.mod,I.bs,Nat.le_trans I.ok.bsz I.sz,I.stack,I.stkFree,I.hok,I.bare⟩
theorem Inv.after{Q:VK}{u:Value}(I:Inv X pins σ H s)(h:CE X.stack X.prog X.w H s Q u s'):EP X pins σ Q u s':=by
 obtain ⟨v,H',os,bare,un,hok,r,q⟩:=h
 obtain ⟨hh,g,d,t,os'⟩:=s'
 obtain rfl:os'=s.os:=os
 exact ⟨v,H',I.call (h':=hh) (g':=g) (d':=d) (t':=t) (ch:=[]) un hok bare (fun b z=>absurd z (by simp)),r,q⟩
end
def Binds(K:PySem.W.Frag)(fd:FuncData)(ps:List Str)(ds:List Value):Prop :=
 ∀(s:Shared) (us:List Value),K.In s.heap->(us++ds).length=ps.length->BindsTo s fd ⟨us,[]⟩ (ps.zip (us++ds))
theorem Binds.all{K:PySem.W.Frag}{fd:FuncData}{ps:List Str}(h:∀us:List Value,us.length=ps.length->bindArgs fd ⟨us,[]⟩=pure (ps.zip us)):Binds K fd ps []:=fun s us _ hl=>by
 rw [List.append_nil] at hl ⊢
 exact .of_eq (h us hl)
def Passes(CX:CXT)(X:Cx)(E:XK):Prop:=∀(pins:Z3) (σ:St) (H:Hp) (s:Shared) (e:Value) (s':Shared),Inv X pins σ H s->CX X.stack H s E e s'->X.xe e s'
section
variable{X:Cx}{CX:CXT}{k:Nat}{f C:Addr}{fd:FuncData}{ps:List Str}{sp:Sp}{dvs:List V}{ds:List Value}{E:XK}{x m:Str}{p pos apos:Pos}{e o:Expr}{es:List Expr}{ta:TE}{t:TA}
structure Mk(K:PySem.W.Frag)(C f:Addr):Prop where
 makes:PySem.W.makesIn K C=true
 init:PySem.W.findIn K (.ref C) "__init__" = some (some (.ref f))
 fn:PySem.W.isFn K (.ref f)=true
 kp:PySem.W.keepIn K (.ref C)=true
end
section
variable{X:Cx}{CX:CXT}{k:Nat}{f C:Addr}{fd:FuncData}{ps ks:List Str}{sp:Sp}{E:XK}{x m:Str}{p pos apos kpos:Pos}{e o:Expr}{es:List Expr}{kws:List Keyword}{te ta:TE}{t tk:TA}{nm:Option Str}
variable{g:List Value->List Value->List Value}{gV:List V->List V->List V}
end
structure FnScope(N P:List Str)(sc:Scope):Prop where
 kind:sc.kind=.function
 co:sc.isCoroutine=false
 gen:sc.isGenerator=false
 nd:N.Nodup
 pre:N.take P.length=P
 par:∀x∈P,sc.names.lookup x=some .local\/sc.names.lookup x=some .cell
 nofree:∀y∈sc.names,y.2≠.free
theorem bindL_out{kindOf:Str->Option NameKind}{x:Str}:∀{binds:List (Str×Value)} {m:Z6},(∀v,(x,v) ∉ binds)->bindL kindOf binds m x=m x
 | [],_,_=>rfl
 | (n,v)::r,m,h=>by
  unfold bindL
  rw [bindL_out fun w hw=>h w (List.mem_cons_of_mem _ hw)]
  split
  ·have:x≠n:=by rintro rfl;exact h v List.mem_cons_self
   simp [this]
  ·rfl
theorem bindC_out{kindOf:Str->Option NameKind}{x:Str}:∀{binds:List (Str×Value)} {m:Z6},(∀v,(x,v) ∉ binds)->bindC kindOf binds m x=m x
 | [],_,_=>rfl
 | (n,v)::r,m,h=>by
  unfold bindC
  rw [bindC_out fun w hw=>h w (List.mem_cons_of_mem _ hw)]
  split
  ·rfl
  ·have:x≠n:=by rintro rfl;exact h v List.mem_cons_self
   simp [this]
theorem bindL_get{kindOf:Str->Option NameKind}{x:Str}{v:Value}:∀{P:List Str} {vs:List Value} {i:Nat} {m:Z6},P.Nodup->P[i]?=some x->vs[i]?=some v->kindOf x=some .local →
  bindL kindOf (P.zip vs) m x=some v
 | [],_,_,_,_,h,_,_=>by simp at h
 | _::_,[],_,_,_,_,h,_=>by simp at h
 | p::P,w::vs,0,m,nd,h1,h2,hk=>by
  simp at h1 h2;subst h1;subst h2
  show bindL kindOf ((p,w)::P.zip vs) m p=_
  unfold bindL
  rw [bindL_out fun v hv=>(List.nodup_cons.mp nd).1 (List.of_mem_zip hv).1,if_pos hk]
  simp
 | p::P,w::vs,i+1,m,nd,h1,h2,hk=>by
  show bindL kindOf ((p,w)::P.zip vs) m x=_
  unfold bindL
  exact bindL_get (i:=i) (List.nodup_cons.mp nd).2 (by simpa using h1) (by simpa using h2) hk
theorem bindC_get{kindOf:Str->Option NameKind}{x:Str}{v:Value}:∀{P:List Str} {vs:List Value} {i:Nat} {m:Z6},P.Nodup->P[i]?=some x->vs[i]?=some v->kindOf x≠some .local →
  bindC kindOf (P.zip vs) m x=some v
 | [],_,_,_,_,h,_,_=>by simp at h
 | _::_,[],_,_,_,_,h,_=>by simp at h
 | p::P,w::vs,0,m,nd,h1,h2,hk=>by
  simp at h1 h2;subst h1;subst h2
  show bindC kindOf ((p,w)::P.zip vs) m p=_
  unfold bindC
  rw [bindC_out fun v hv=>(List.nodup_cons.mp nd).1 (List.of_mem_zip hv).1,if_neg hk]
  simp
 | p::P,w::vs,i+1,m,nd,h1,h2,hk=>by
  show bindC kindOf ((p,w)::P.zip vs) m x=_
  unfold bindC
  exact bindC_get (i:=i) (List.nodup_cons.mp nd).2 (by simpa using h1) (by simpa using h2) hk
def start(N:List Str)(vs:List V):St:=vs.map some++List.replicate (N.length-vs.length) none
def cxOf(CX:CXT)(P:Program)(w:World)(K:PySem.W.Frag)(mg:Z6)(base:Heap)(N:List Str)(qual:Str)(scope:Scope)(f:Addr)(cd:Value)(A:Around)(outer:List Env)(s:Shared)(H:Hp)(E:XK):Cx where
 prog:=P
 w:=w
 K:=K
 mg:=mg
 base:=base
 A:=A.deeper (envOfC qual scope s.heap.objs.size f cd)
 N:=N
 s₀:=s
 H₀:=H
 env:=envOfC qual scope s.heap.objs.size f cd
 outer:=outer
 stack:=envOfC qual scope s.heap.objs.size f cd::outer
 ex:=[]
 calm:=true
 fn:=fun _=>true
 pn:=[]
 xe:=fun e s'=>wpAny (model P w) (A.deeper (envOfC qual scope s.heap.objs.size f cd)) (leaving (envOfC qual scope s.heap.objs.size f cd) e) (fun _ s''=>CX outer H s E e s'') (fun e' s''=>CX outer H s E e' s'') s'
theorem cell_has{sc:Scope}{n:Nat}{x:Str}(h:sc.names.lookup x=some .cell):∃c,(cellsFrom n sc.names []).lookup x=some c:=by
 have q:=PySem.W.cellsFrom_some sc.names n [] (.inl h)
 exact Option.isSome_iff_exists.mp q
theorem inv_start{CX:CXT}{P:Program}{w:World}{K:PySem.W.Frag}{mg:Z6}{base:Heap}{N ps:List Str}{qual:Str}{scope:Scope}{f:Addr}{cd:Value}{A:Around}{outer:List Env}{s s1:Shared}{H:Hp}{E:XK}{us:List Value}{vs:List V}
  (S:FnScope N ps scope) (hd:A.handled=none) (e0:Env0 P w K mg base A outer s H) (hl:vs.length=ps.length) (r:Vals vs us)
  (x:InCallC s s.heap.objs.size (bindL (envOfC qual scope s.heap.objs.size f cd).kindOf (ps.zip us) fun _=>none) (cellsFrom (s.heap.objs.size+1) scope.names []) (bindC (envOfC qual scope s.heap.objs.size f cd).kindOf (ps.zip us) fun _=>none) s1) :
  Inv (cxOf CX P w K mg base N qual scope f cd A outer s H E) [] (start N vs) H s1:=by
 have hpl:ps.length<=N.length:=by have:=congrArg List.length S.pre;rw [List.length_take] at this;omega
 obtain ⟨h1,tk,rfl,hk⟩:=x.done
 have noA:∀b:Addr,b ∉ (cxOf CX P w K mg base N qual scope f cd A outer s H E).ex:=fun b z=>absurd (show b∈([]:List Addr) from z) (by simp)
 refine ⟨⟨e0.mod,S.kind,rfl,rfl,Nat.le_refl _,fun y z c h1 h2=>?_,fun y hy=>?_,fun y c _ h=>?_,fun _=>hd,Around.frames_deeper e0.frames,.inr ⟨rfl,rfl⟩,fun b z=>absurd z (noA b),e0.bs,e0.bsz,fun b _ _=>noA b,fun b z=>absurd z (noA b),e0.funs,e0.frf⟩,
  rfl,e0.bare,Un.kept hk,⟨_,x.toInCall.ns,fun i y v h1 h2 h3=>?_⟩,fun y c h=>⟨_,x.cell y c h⟩,e0.hok.fresh (Nat.le_refl _),fun y c h=>?_,fun p hp=>absurd (show p∈([]:Z3) from hp) (by simp),e0.hok.kept hk,?_⟩
 ·exact name_of_addr x.apart (PySem.mem_of_lookup h1) (PySem.mem_of_lookup h2)
 ·have hy:scope.names.lookup y=some .cell\/scope.names.lookup y=some .free:=hy
  rcases hy with hy | hy
  ·exact cell_has hy
  ·exact absurd rfl (S.nofree _ (PySem.mem_of_lookup hy))
 ·exact Nat.le_of_lt (x.above y c (PySem.mem_of_lookup h))
 ·have hi:i<vs.length:=by
   unfold start at h2
   by_cases hi:i<vs.length
   ·exact hi
   ·rw [List.getElem?_append_right (by simpa using hi)] at h2
    rw [List.getElem?_replicate] at h2
    split at h2<;>cases h2
  have ha:vs[i]?=some v:=by
   unfold start at h2
   rw [List.getElem?_append_left (by simpa using hi),List.getElem?_map] at h2
   cases e:vs[i]? with
   | none=>rw [e] at h2;cases h2
   | some a=>rw [e] at h2;cases h2;rfl
  obtain ⟨u,hu,rv⟩:=r.get ha
  have hp:ps[i]?=some y:=by
   rw [<-S.pre,List.getElem?_take_of_lt (by omega)];exact h1
  have ndP:ps.Nodup:=by rw [<-S.pre];exact S.nd.sublist (List.take_sublist _ _)
  refine ⟨u,rv,?_⟩
  rcases S.par y (List.mem_of_getElem? hp) with k | k
  ·exact .inl ⟨k,bindL_get ndP hp hu k⟩
  ·obtain ⟨c,e⟩:=cell_has (n:=s.heap.objs.size+1) k
   refine .inr ⟨.inl k,c,e,?_⟩
   have q:=x.cell y c e
   rw [bindC_get ndP hp hu (by show scope.names.lookup y≠_;rw [k];decide)] at q
   exact q
 ·exact e0.hok.fresh (Nat.le_of_lt (x.above y c (PySem.mem_of_lookup h)))
 ·unfold start
  show _=N.length
  rw [List.length_append,List.length_map,List.length_replicate]
  omega
theorem fn_of{CX:CXT}{P:Program}{w:World}{K:PySem.W.Frag}{mg:Z6}{base:Heap}{k:Nat}{f:Addr}{name qual:Str}{params:Arguments}{body:List Stmt}{scope:Scope}{dV kV doc pm cdv ct oc:Value}{an od:Option Addr}
  {osl:Array (Option Value)} {N ps:List Str} {sp:Sp} (lk:K.lookup f=some ⟨oc,od,.func (PySem.W.fnOf name qual params body scope dV kV doc pm an cdv ct),osl⟩) (hcd:PySem.W.codeIn K cdv qual=true) (S:FnScope N ps scope)
  (len:∀vs H Q E,sp vs H Q E->vs.length=ps.length)
  (hbody:∀(A:Around) (outer:List Env) (s:Shared) (H:Hp) (vs:List V) (Q:VK) (E:XK),Room k (A.deeper (envOfC qual scope s.heap.objs.size f cdv))->sp vs H Q E →
   ∃t,PSs (cxOf CX P w K mg base N qual scope f cdv A outer s H E) body t/\t { nx:=fun _ H'=>Q .non H',rt:=Q } (start N vs) H) :
  FnOk P w K mg base CX (k+1) f (PySem.W.fnOf name qual params body scope dV kV doc pm an cdv ct) ps sp:=by
 refine ⟨len,fun A outer s H args us vs Q E hr e0 hb r hsp=>?_⟩
 have hl:=len _ _ _ _ hsp
 have KX:K.In s.heap:=e0.mod.kin.keeps fun b o e=>(e0.bs b o e).1
 have lim:s.heap.NoLimit:=e0.mod.nolimit.keeps fun b o e=>(e0.bs b o e).1
 have hkind:∀y∈ps.zip us,scope.names.lookup y.1=some .local\/(scope.names.lookup y.1=some .cell/\((cellsFrom (s.heap.objs.size+1) scope.names []).lookup y.1).isSome=true):=fun ⟨n,v⟩ hy=>by
  rcases S.par n (List.of_mem_zip hy).1 with q | q
  ·exact .inl q
  ·exact .inr ⟨q,PySem.W.cellsFrom_some _ _ _ (.inl q)⟩
 refine codeAny_call_function hr.depth (KX _ _ lk) rfl S.co S.gen rfl (PySem.W.codeRec_of KX hcd) (hb _ _ _ _ ?_)
 refine wpAny_newFunctionEnv_cells S.kind hkind fun env he s1 x=>?_
 subst he
 refine ⟨lim.keeps x.toInCall.keep,codeAny_func ?_⟩
 obtain ⟨t,ht,hq⟩:=hbody A outer s H vs Q E (hr.deeper _) hsp
 have I:Inv (cxOf CX P w K mg base N qual scope f cdv A outer s H E) [] (start N vs) H s1:=inv_start S hr.hd e0 hl r x
 refine wpAny_mono (ht [] s1 (start N vs) H _ I hq) (fun fl s' hs=>?_) fun e s' hs=>hs
 have fin:∀{σ':St} {H':Hp} {v:V} {u:Value},Inv (cxOf CX P w K mg base N qual scope f cdv A outer s H E) [] σ' H' s'->RelV v u->Q v H'->CE outer P w H s Q u s' :=
  fun {σ' H' v u} J rv q=>⟨v,H',J.os,J.bare,J.base,J.hok,rv,q⟩
 cases fl with
 | ret u =>
  obtain ⟨v,σ',H',J,rv,q⟩:=hs
  exact fin J rv q
 | next =>
  obtain ⟨σ',H',J,q⟩:=hs
  exact fin (v:=V.non) (u:=Value.none) J rfl q
 | brk =>
  obtain ⟨_,_,_,q⟩:=hs
  exact False.elim q
 | cont =>
  obtain ⟨_,_,_,q⟩:=hs
  exact False.elim q
end L2
namespace L2
open PySem PySem.Spec PyProof.Rows
section
variable{X:Cx}{x:Str}{p pos:Pos}{e:Expr}{es:List Expr}{t:TA}{id T:String}{r:List V->Hp->VK->Prop}
def tCB(r:List V->Hp->VK->Prop)(t:TA):TE:=fun σ H Q=>t σ H fun vs H1=>r vs H1 Q
theorem pe_callB(hc:CallR X (.builtin id) r)(hg:Gl X x)(hm:X.mg x=none)(hv:bootBuiltins x=some (.builtin id))(ha:PA X (e::es) t)(hn:x ≠ "__name__":=by decide)(hdb:(x == ("__debug__":Str))=false:=by decide)
  (he:starEach (e::es) X.env=(false,eval e X.env)::starEach es X.env:=by rfl) (hpl:(backTo pos (starEach es X.env)).any (·.1)=false:=by rfl):PE X (.Call (.Name x p) (e::es) [] pos) (tCB r t):=by
 intro pins s σ H Q I h
 refine wpAny_Call_Name_kw (ld_blt I hg hm hv ?_ hn hdb)
 exact PyProof.Rows.callWith_builtin1 (thn (ha pos pins s σ H _ I h) fun us s1 ⟨vs,H1,I1,r1,q1⟩=>hc pins s1 σ H1 vs us Q I1 r1 q1) he hpl
theorem pe_callTy(hc:CallR X (.type T) r)(hg:Gl X x)(hm:X.mg x=none)(hv:bootBuiltins x=some (.type T))(ha:PA X (e::es) t)(hn:x ≠ "__name__":=by decide)(hdb:(x == ("__debug__":Str))=false:=by decide)
  (he:starEach (e::es) X.env=(false,eval e X.env)::starEach es X.env:=by rfl) (hpl:(backTo pos (starEach es X.env)).any (·.1)=false:=by rfl):PE X (.Call (.Name x p) (e::es) [] pos) (tCB r t):=by
 intro pins s σ H Q I h
 refine wpAny_Call_Name_kw (ld_blt I hg hm hv ?_ hn hdb)
 exact PyProof.Rows.callWith_type1 (thn (ha pos pins s σ H _ I h) fun us s1 ⟨vs,H1,I1,r1,q1⟩=>hc pins s1 σ H1 vs us Q I1 r1 q1) he hpl
end
end L2
namespace HT
open PySem PyProof.Rows
section
open PySem.SeqAt
open PySem.AutoSeq1 (wpAny_loadPart')
open PySem.MeetsSeq PySem.MeetsSeq2 PySem.MeetsSeq3
end
section
variable{prog:Program}{w:World}{A:Around}{E:Z5}{s:Shared}
theorem cat_tup{t b:Addr}{vs ws:List Value}{Q:Z5}(ht:IsTup s.heap t vs.toArray)(hb:IsTup s.heap b ws.toArray)(hv:vs≠[])
  (h1:ws=[]->Q (.ref t) s) (h2:ws≠[]->Q (.ref s.heap.objs.size) { s with heap:=s.heap.push { cls:=.type "tuple",data:=.seq (vs++ws).toArray } })
  (hsz:vs.length+ws.length<=sizeLine):wpAny (model prog w) A (binaryOp .Add (.ref t) (.ref b)) Q E s:=by
 obtain ⟨⟨cls,dd,data,sl⟩,ho,hc,n,hd⟩:=id ht
 obtain ⟨⟨cls2,dd2,data2,sl2⟩,ho2,hc2,n2,hd2⟩:=id hb
 simp only at hc hd hc2 hd2
 subst hc hd hc2 hd2
 have e:vs.toArray++ws.toArray=(vs++ws).toArray:=by simp
 by_cases hw:ws=[]
 ·exact concat_meets ⟨_,ho,rfl⟩ ⟨_,ho2,rfl⟩ noFill_tuple_add seq_tuple_add PySem.F.slot_tuple_add PySem.F.entry_tuple_add (PySem.F.args_tuple_add_2 _ _)
   (tuple_addW1 t b vs.toArray ws.toArray n n2 dd dd2 sl sl2 (by simpa using hv) (by simp [hw])) ⟨ho,ho2,h1 hw⟩
 ·refine concat_meets ⟨_,ho,rfl⟩ ⟨_,ho2,rfl⟩ noFill_tuple_add seq_tuple_add PySem.F.slot_tuple_add PySem.F.entry_tuple_add (PySem.F.args_tuple_add_2 _ _)
   (tuple_addW2 t b vs.toArray ws.toArray n n2 dd dd2 sl sl2 (by simpa using hv) (by simpa using hw) (by rw [List.size_toArray,List.size_toArray];exact hsz)) ⟨ho,ho2,?_⟩
  rw [e]
  exact h2 hw
def sIx(n d:Nat):Option Int->Nat
 | none=>d
 | some v=>if v<0 then (v+(n:Int)).toNat else min v.toNat n
theorem sIx_nat(n d k:Nat):sIx n d (some (k:Int))=min k n:=by
 show (if (k:Int)<0 then ((k:Int)+(n:Int)).toNat else min (k:Int).toNat n)=min k n
 rw [if_neg (by omega),Int.toNat_natCast]
theorem sIx_le(n d:Nat)(hd:d<=n)(o:Option Int):sIx n d o<=n:=by
 cases o with
 | none=>exact hd
 | some v =>
  show (if v<0 then (v+(n:Int)).toNat else min v.toNat n)<=n
  by_cases hv:v<0
  ·rw [if_pos hv];omega
  ·rw [if_neg hv];exact Nat.min_le_right _ _
theorem clip_eq(v:Int)(n d:Nat):(if v<0 then max (v+(n:Int)) 0 else min v (n:Int))=((sIx n d (some v):Nat):Int):=by
 show (if v<0 then max (v+(n:Int)) 0 else min v (n:Int))=(((if v<0 then (v+(n:Int)).toNat else min v.toNat n):Nat):Int)
 by_cases hv:v<0
 ·simp only [if_pos hv];omega
 ·simp only [if_neg hv];omega
theorem adjust_gen(lo hi:Option Int)(n:Nat):Builtin.Slice.sliceAdjust lo hi 1 (n:Int)=(((sIx n 0 lo:Nat):Int),((sIx n n hi:Nat):Int)):=by
 have h1:¬ ((1:Int)<0):=by omega
 unfold Builtin.Slice.sliceAdjust
 simp only [h1,if_false]
 refine Prod.ext ?_ ?_
 ·cases lo with
  | none=>rfl
  | some v=>exact clip_eq v n 0
 ·cases hi with
  | none=>rfl
  | some v=>exact clip_eq v n n
theorem places_gen(i j:Nat):Builtin.Slice.slicePlaces (i:Int) (j:Int) 1=j-i:=by
 unfold Builtin.Slice.slicePlaces
 have h1:(1:Int) > 0:=by omega
 simp only [h1,if_true,Int.ediv_one]
 split<;>omega
theorem slicePart_{v:Value}{o:Option Int}{Q:Option Int->Shared->Prop}(p:IsPart v o)(h:Q o s):wpAny (model prog w) A (Builtin.Slice.slicePartIndex v) Q E s:=by
 cases p with
 | none=>exact slicePart_none h
 | int i t=>exact slicePart_int h
theorem sliceApplied_gen{sl:Addr}{vl vu:Value}{lo hi:Option Int}{n:Nat}{Q:Int×Int×Nat->Shared->Prop}(hs:s.heap.IsSliceOf sl vl vu .none)(pl:IsPart vl lo)(pu:IsPart vu hi)
  (h:Q (((sIx n 0 lo:Nat):Int),1,sIx n n hi-sIx n 0 lo) s):wpAny (model prog w) A (Builtin.Slice.sliceApplied (.ref sl) (pure (n:Int))) Q E s:=by
 obtain ⟨os,hos,hcs,hds⟩:=id hs
 unfold Builtin.Slice.sliceApplied Builtin.Slice.sliceFields
 refine wpAny_bind (wpAny_bind (wpAny_field hos hds (x:=vl) rfl (wpAny_bind (wpAny_field hos hds (x:=vu) rfl (wpAny_bind (wpAny_field hos hds (x:=.none) rfl (wpAny_pure ?_)))))))
 refine wpAny_bind (slicePart_none ?_)
 show wpAny _ _ (if ((1:Int) == 0)=true then _ else _) _ _ s
 rw [if_neg (by decide)]
 refine wpAny_bind (slicePart_ pl (wpAny_bind (slicePart_ pu (wpAny_bind (wpAny_pure ?_)))))
 show wpAny _ _ (match Builtin.Slice.sliceAdjust lo hi 1 (n:Int) with | (lo,hi)=>pure (lo,(1:Int),Builtin.Slice.slicePlaces lo hi 1)) _ _ s
 rw [adjust_gen lo hi n]
 show wpAny _ _ (pure (((sIx n 0 lo:Nat):Int),(1:Int),Builtin.Slice.slicePlaces ((sIx n 0 lo:Nat):Int) ((sIx n n hi:Nat):Int) 1)) _ _ s
 rw [places_gen]
 exact wpAny_pure h
theorem pick_gen(xs:Array Value)(i k:Nat):((List.range k).filterMap fun (m:Nat)=>xs[((i:Int)+(m:Int)*1).toNat]?).toArray=((xs.toList.drop i).take k).toArray:=by
 have e:(fun (m:Nat)=>xs[((i:Int)+(m:Int)*1).toNat]?)=fun m=>xs[i+m]?:=by
  funext m
  have:((i:Int)+(m:Int)*1).toNat=i+m:=by omega
  rw [this]
 rw [e]
 have:=pick_run xs i k
 rw [List.filterMap_map] at this
 have e2:((fun x=>xs[x]?)∘fun x=>i+x)=fun m=>xs[i+m]?:=rfl
 rw [e2] at this
 rw [this]
theorem getItem_tuple_cut{t sl:Addr}{items:Array Value}{vl vu:Value}{lo hi:Option Int}{Q:Z5}(ht:IsTup s.heap t items)(hs:s.heap.IsSliceOf sl vl vu .none)(pl:IsPart vl lo)(pu:IsPart vu hi)
  (hw:¬ (sIx items.size 0 lo=0/\sIx items.size items.size hi=items.size))
  (h:Q (.ref s.heap.objs.size) { s with heap:=s.heap.push { cls:=.type "tuple",data:=.seq ((items.toList.drop (sIx items.size 0 lo)).take (sIx items.size items.size hi-sIx items.size 0 lo)).toArray } })
  (hsz:items.size<=sizeLine):wpAny (model prog w) A (getItem (.ref t) (.ref sl)) Q E s:=by
 have htake:sizeOk (.seq ((items.toList.drop (sIx items.size 0 lo)).take (sIx items.size items.size hi-sIx items.size 0 lo)).toArray):=by
  show ((items.toList.drop (sIx items.size 0 lo)).take (sIx items.size items.size hi-sIx items.size 0 lo)).toArray.size<=sizeLine
  rw [List.size_toArray,List.length_take,List.length_drop,Array.length_toList]
  omega
 have hj:sIx items.size items.size hi<=items.size:=sIx_le _ _ (Nat.le_refl _) hi
 obtain ⟨os,hos,hcs,hds⟩:=id hs
 have hTs:s.TypeIs (.ref sl) "slice":=⟨os,hos,hcs⟩
 unfold getItem
 try with_reducible refine wpAny_holding ?_
 first | refine wpAny_bind (wpAny_pure ?_) | skip
 refine wpAny_bind (wpAny_sequenceKey ht.typeIs (by decide) ?_)
 refine wpAny_bind (wpAny_callSpecial?_slot (name:=Str.ofString "__getitem__") ht.typeIs PyProof.Rows.slot_tuple_getitem
  (wpAny_call_entry PyProof.Rows.slot_tuple_getitem ht.typeIs entry_tuple_getitem ?_ (args_tuple_getitem _ _)))
 show wpAny _ _ (Builtin.Tuple.tupleItemsOf (.ref t) >>= _) _ _ s
 refine wpAny_bind (tupleItemsOf_ ht ?_)
 refine wpAny_bind (wpAny_typeOf hTs ?_)
 rw [if_pos (by decide)]
 refine wpAny_bind (sliceApplied_gen hs pl pu ?_)
 have hno:¬ ((((sIx items.size 0 lo:Nat):Int) == 0&&(1:Int) == 1&&(sIx items.size items.size hi-sIx items.size 0 lo) == items.size)=true):=by
  intro q
  rw [Bool.and_eq_true,Bool.and_eq_true] at q
  have q1:((sIx items.size 0 lo:Nat):Int)=0:=eq_of_beq q.1.1
  have q2:sIx items.size items.size hi-sIx items.size 0 lo=items.size:=eq_of_beq q.2
  exact hw ⟨by omega,by omega⟩
 show wpAny _ _ (if (((sIx items.size 0 lo:Nat):Int) == 0&&(1:Int) == 1&&(sIx items.size items.size hi-sIx items.size 0 lo) == items.size)=true then _ else _) _ _ s
 rw [if_neg hno,pick_gen]
 first
  | exact wpAny_bind (m:=Builtin.Tuple.tupleExact _) (wpAny_newObj_type (wpAny_pure ⟨_,rfl,wpAny_pure h⟩) htake)
  | exact wpAny_bind (m:=Builtin.Tuple.tupleExact _) (wpAny_newObj_type (wpAny_bind (wpAny_pure (wpAny_pure ⟨_,rfl,wpAny_pure h⟩))) htake)
  | exact wpAny_bind (wpAny_bind (m:=Builtin.Tuple.tupleExact _) (wpAny_newObj_type (wpAny_pure (wpAny_pure ⟨_,rfl,wpAny_pure h⟩)) htake))
  | exact wpAny_bind (wpAny_bind (m:=Builtin.Tuple.tupleExact _) (wpAny_newObj_type (wpAny_pure ⟨_,rfl,wpAny_pure h⟩) htake))
end
end HT
namespace L2
open PySem PySem.Spec PyProof.Rows
abbrev TO:=St->Hp->(Option Int->Hp->Prop)->Prop
def PO(X:Cx)(e:Option Expr)(t:TO):Prop :=
 ∀(pins:Z3) (s:Shared) (σ:St) (H:Hp) (Q:Option Int->Hp->Prop),Inv X pins σ H s->t σ H Q →
  wpAny (model X.prog X.w) X.A (evalPart e X.env) (fun u s'=>∃o H',Inv X pins σ H' s'/\IsPart u o/\Q o H') X.xe s
def tNoPart:TO:=fun _ H Q=>Q none H
def tPart(t:TE):TO:=fun σ H Q=>t σ H fun x H1=>∃i,x=.int i/\Q (some i) H1
section
variable{X:Cx}{e:Expr}{te:TE}{lo hi:Option Expr}{tl th:TO}{pos p2:Pos}
theorem po_none:PO X none tNoPart:=by
 intro pins s σ H Q I h
 rw [evalPart_none]
 exact wpAny_pure ⟨none,H,I,.none,h⟩
theorem po_some(h:PE X e te):PO X (some e) (tPart te):=by
 intro pins s σ H Q I hw
 rw [evalPart_some]
 refine thn (h pins s σ H _ I hw) fun u s1 ⟨x,H1,I1,r1,q1⟩=>?_
 obtain ⟨i,rfl,q⟩:=q1
 obtain ⟨t,rfl⟩:=r1
 exact ⟨some i,H1,I1,.int i t,q⟩
def SlR(X:Cx)(r:V->Option Int->Option Int->Hp->VK->Prop):Prop :=
 ∀(pins:Z3) (s:Shared) (σ:St) (H:Hp) (x:V) (v vl vu:Value) (lo hi:Option Int) (sl:Addr) (Q:VK),Inv X pins σ H s->RelV x v->s.heap.IsSliceOf sl vl vu .none->IsPart vl lo->IsPart vu hi->r x lo hi H Q →
  ∃T id,typeLookup (.type T) "__getitem__" = pure (some (.builtin id))/\s.TypeIs v T/\wpAny (model X.prog X.w) X.A (getItem v (.ref sl)) (EP X pins σ Q) X.xe s
def tSl(r:V->Option Int->Option Int->Hp->VK->Prop)(te:TE)(tl th:TO):TE:=fun σ H Q=>te σ H fun x H1=>tl σ H1 fun l H2=>th σ H2 fun u H3=>r x l u H3 Q
theorem pe_slice{r:V->Option Int->Option Int->Hp->VK->Prop}(hr:SlR X r)(he:PE X e te)(hl:PO X lo tl)(hu:PO X hi th):PE X (.Subscript e (.Slice lo hi none p2) pos) (tSl r te tl th):=by
 intro pins s σ H Q I h
 refine Subscript_ (thn (he pins s σ H _ I h) fun v s1 ⟨x,H1,I1,r1,q1⟩=>?_)
 refine wpAny_Slice (thn (hl pins s1 σ H1 _ I1 q1) fun vl s2 ⟨l,H2,I2,pl,q2⟩=>thn (hu pins s2 σ H2 _ I2 q2) fun vu s3 ⟨u,H3,I3,pu,q3⟩=>?_)
 rw [evalPart_none]
 refine wpAny_pure ?_
 have I4:Inv X pins σ H3 { s3 with heap:=s3.heap.push { cls:=.type "slice",data:=.fields #[vl,vu,.none] } }:=I3.kept (t':=s3.toks) fun b ob q=>Heap.get?_push_of_some _ q
 obtain ⟨T,id,hT,ht,hg⟩:=hr pins { s3 with heap:=s3.heap.push { cls:=.type "slice",data:=.fields #[vl,vu,.none] } } σ H3 x v vl vu l u s3.heap.objs.size Q I4 r1 (Heap.IsSliceOf.new ..) pl pu q3
 show wpAny (model X.prog X.w) X.A (subscriptTail e (.Slice lo hi none p2) v (.ref s3.heap.objs.size)) (EP X pins σ Q) X.xe { s3 with heap:=s3.heap.push { cls:=.type "slice",data:=.fields #[vl,vu,.none] } }
 exact tail_any (ops:=[.ref s3.heap.objs.size,v]) ht hT hg (by with_unfolding_all rfl)
def cutV(xs:List V)(lo hi:Option Int):List V:=(xs.drop (HT.sIx xs.length 0 lo)).take (HT.sIx xs.length xs.length hi-HT.sIx xs.length 0 lo)
theorem cutV_length(xs:List V)(lo hi:Option Int):(cutV xs lo hi).length<=xs.length:=by
 unfold cutV
 rw [List.length_take,List.length_drop]
 omega
def rSlT(K:PySem.W.Frag):V->Option Int->Option Int->Hp->VK->Prop:=fun x lo hi H Q=>∃a xs,x=.ref a/\SqT K H a xs ∧
 ¬ (HT.sIx xs.length 0 lo=0/\HT.sIx xs.length xs.length hi=xs.length)/\∀p,H p=none->Q (.ref p) (upd H p (.tup (cutV xs lo hi)))
theorem sl_tup:SlR X (rSlT X.K):=by
 intro pins s σ H x v vl vu lo hi sl Q I rx hs pl pu h
 obtain ⟨a,xs,rfl,hx,hw,q⟩:=h
 cases rx
 obtain ⟨its,r,ht,hz⟩:=I.tuple hx
 have hlen:its.toArray.size=xs.length:=by rw [List.size_toArray];exact r.length.symm
 refine ⟨"tuple",_,PyProof.Rows.slot_tuple_getitem.lookup,ht.typeIs,?_⟩
 refine HT.getItem_tuple_cut ht hs pl pu (by rw [hlen];exact hw) ?_ (by rw [hlen];exact hz)
 rw [hlen]
 refine ⟨.ref s.heap.objs.size,_,I.laid (t':=s.toks) (o:=.tup (cutV xs lo hi)) (fun b ob q=>Heap.get?_push_of_some _ q) (Nat.le_refl _) ?_,rfl,q _ (I.hok.fresh (Nat.le_refl _))⟩
 exact ⟨Nat.le_trans (cutV_length xs lo hi) hz,_,(r.drop (HT.sIx xs.length 0 lo)).take (HT.sIx xs.length xs.length hi-HT.sIx xs.length 0 lo),IsTup.new _ _⟩
def rCatT(K:PySem.W.Frag):R2:=fun x y H Q=>∃a b xs ys,x=.ref a/\y=.ref b/\SqT K H a xs/\SqT K H b ys/\xs≠[]/\xs.length+ys.length<=sizeLine ∧
 (ys=[]->Q (.ref a) H)/\(ys≠[]->∀p,H p=none->Q (.ref p) (upd H p (.tup (xs++ys))))
theorem Vals.nil_iff{xs:List V}{us:List Value}(r:Vals xs us):us=[]↔xs=[]:=by
 cases r with
 | nil=>simp
 | cons _ _=>simp
theorem op_catT:OpR X (binaryOp .Add) (rCatT X.K):=by
 intro pins s σ H x y v u Q I rx ry h
 obtain ⟨a,b,xs,ys,rfl,rfl,ha,hb,hx,hz,q1,q2⟩:=h
 cases rx
 cases ry
 obtain ⟨its,r1,p1,_⟩:=I.tuple ha
 obtain ⟨its2,r2,p2,_⟩:=I.tuple hb
 refine HT.cat_tup p1 p2 (fun z=>hx (r1.nil_iff.mp z)) (fun z=>⟨.ref a,H,I,rfl,q1 (r2.nil_iff.mp z)⟩) (fun z=>?_) (by rw [<-r1.length,<-r2.length];exact hz)
 refine ⟨.ref s.heap.objs.size,_,I.laid (t':=s.toks) (o:=.tup (xs++ys)) (fun b ob q=>Heap.get?_push_of_some _ q) (Nat.le_refl _) ?_,rfl,q2 (fun w=>z (r2.nil_iff.mpr w)) _ (I.hok.fresh (Nat.le_refl _))⟩
 exact ⟨by rw [List.length_append];exact hz,_,r1.append r2,IsTup.new _ _⟩
end
end L2
namespace L2
open PySem PySem.Spec PyProof.Rows
def ixN(n:Nat)(i:Int):Option Nat:=if 0<=i then (if i<n then some i.toNat else none) else if -(n:Int)<=i then some (i+n).toNat else none
def atI{α:Type}(xs:List α)(i:Int):Option α:=(ixN xs.length i).bind fun j=>xs[j]?
theorem ixN_seq{n:Nat}{i:Int}{j:Nat}(h:ixN n i=some j):seqIndex? i n=some j/\j<n/\-(n:Int)<=i/\i<n:=by
 unfold ixN at h
 by_cases h0:0<=i
 ·rw [if_pos h0] at h
  by_cases h1:i<n
  ·rw [if_pos h1] at h
   have e:i.toNat=j:=Option.some.inj h
   exact ⟨by rw [seqIndex_of h0 h1,e],by omega,by omega,h1⟩
  ·rw [if_neg h1] at h;cases h
 ·rw [if_neg h0] at h
  by_cases h1:-(n:Int)<=i
  ·rw [if_pos h1] at h
   have e:(i+n).toNat=j:=Option.some.inj h
   exact ⟨by rw [seqIndex_neg (by omega) h1,e],by omega,h1,by omega⟩
  ·rw [if_neg h1] at h;cases h
theorem atI_get{α:Type}{xs:List α}{i:Int}{v:α}(h:atI xs i=some v):∃j,seqIndex? i xs.length=some j/\xs[j]?=some v/\j<xs.length/\-(xs.length:Int)<=i/\i<xs.length:=by
 unfold atI at h
 cases e:ixN xs.length i with
 | none=>rw [e] at h;cases h
 | some j =>
  rw [e] at h
  obtain ⟨h1,h2,h3,h4⟩:=ixN_seq e
  exact ⟨j,h1,h,h2,h3,h4⟩
def PlainIx(b:Expr):Prop:=∀o i,subscripted b false o i=operate [o,i] (getItem o i)
def IxR(X:Cx)(r:R2):Prop :=
 ∀(value slice:Expr) (pins:Z3) (s:Shared) (σ:St) (H:Hp) (x y:V) (v u:Value) (Q:VK),Inv X pins σ H s->RelV x v->RelV y u->r x y H Q →
  subscripted slice false v u=operate [v,u] (getItem v u)->wpAny (model X.prog X.w) X.A (subscriptTail value slice v u) (EP X pins σ Q) X.xe s
def MtR(X:Cx)(id:String)(r:V->List V->Hp->VK->Prop):Prop :=
 ∀(pins:Z3) (s:Shared) (σ:St) (H:Hp) (x:V) (xs:List V) (v:Value) (us:List Value) (Q:VK),Inv X pins σ H s->RelV x v->Vals xs us->r x xs H Q →
  wpAny (model X.prog X.w) X.A (call (.builtin id) (v::us)) (EP X pins σ Q) X.xe s
section
variable{X:Cx}{a b:Expr}{ta tb:TE}{pos:Pos}
theorem pe_ix{r:R2}(hr:IxR X r)(ha:PE X a ta)(hb:PE X b tb)(hs:PlainIx b):PE X (.Subscript a b pos) (tOp r ta tb):=by
 intro pins s σ H Q I h
 exact Subscript_ (binT ha hb I h fun v u s2 x y H2 I2 rx ry q=>hr a b pins s2 σ H2 x y v u Q I2 rx ry q (hs _ _))
def rIxL(K:PySem.W.Frag):R2:=fun x y H Q=>∃p xs i v,x=.ref p/\y=.int i/\SqL K H p xs/\atI xs i=some v/\Q v H
def rIxT(K:PySem.W.Frag):R2:=fun x y H Q=>∃p xs i v,x=.ref p/\y=.int i/\SqT K H p xs/\atI xs i=some v/\Q v H
theorem ix_list:IxR X (rIxL X.K):=by
 intro value slice pins s σ H x y v u Q I rx ry h hs
 obtain ⟨p,xs,i,z,rfl,rfl,hq,he,q⟩:=h
 cases rx
 obtain ⟨t,rfl⟩:=ry
 obtain ⟨its,r,pl,hz⟩:=I.list hq
 obtain ⟨j,h1,h2,h3,h4,h5⟩:=atI_get he
 obtain ⟨w,ew,rw'⟩:=r.get h2
 have hl:=r.length
 have hn:=line63
 have fin:EP X pins σ Q w s:=⟨z,H,I,rw',q⟩
 by_cases h0:0<=i
 ·have hj:i.toNat=j:=by
   rw [seqIndex_of h0 h5] at h1
   exact Option.some.inj h1
  exact item_listR pl.isList h0 (by omega) (by rw [hj];simpa using ew) fin hs
 ·have hj:(i+(its.toArray.size:Int)).toNat=j:=by
   rw [seqIndex_neg (by omega) h4] at h1
   rw [List.size_toArray,<-hl]
   exact Option.some.inj h1
  exact subscriptTail_builtinR (x:=w) pl.isList.typeIs slot_list_getitem.lookup
   (wpAny_getItem_list_neg (Q:=fun r s'=>r=w/\EP X pins σ Q r s') pl.isList (by omega) (by rw [List.size_toArray]<;>omega) (by omega) (by rw [hj];simpa using ew) ⟨rfl,fin⟩) hs
theorem ix_tup:IxR X (rIxT X.K):=by
 intro value slice pins s σ H x y v u Q I rx ry h hs
 obtain ⟨p,xs,i,z,rfl,rfl,hq,he,q⟩:=h
 cases rx
 obtain ⟨t,rfl⟩:=ry
 obtain ⟨its,r,pl,hz⟩:=I.tuple hq
 obtain ⟨j,h1,h2,h3,h4,h5⟩:=atI_get he
 obtain ⟨w,ew,rw'⟩:=r.get h2
 have hl:=r.length
 have hn:=line63
 have fin:EP X pins σ Q w s:=⟨z,H,I,rw',q⟩
 exact subscriptTail_builtinR (x:=w) pl.typeIs slot_tuple_getitem.lookup
  (getItem_tuple (j:=j) (Q:=fun r s'=>r=w/\EP X pins σ Q r s') pl (by omega) (by omega) (by rw [List.size_toArray,<-hl];exact h1) (by simpa using ew) ⟨rfl,fin⟩) hs
theorem slice_bounds(lo hi:Option Int)(n:Nat):(sliceBounds lo hi none n).1=((HT.sIx n 0 lo:Nat):Int)/\(sliceBounds lo hi none n).2.1=((HT.sIx n n hi:Nat):Int)/\(sliceBounds lo hi none n).2.2=1:=by
 refine ⟨?_,?_,rfl⟩
 ·cases lo with
  | none=>simp [sliceBounds,HT.sIx]
  | some i =>
   simp only [sliceBounds,HT.sIx,Option.getD_none,show (1:Int) > 0 by decide,if_true]
   by_cases h:i<0
   ·simp only [h,if_true]<;>omega
   ·simp only [h,if_false]<;>omega
 ·cases hi with
  | none=>simp [sliceBounds,HT.sIx]
  | some i =>
   simp only [sliceBounds,HT.sIx,Option.getD_none,show (1:Int) > 0 by decide,if_true]
   by_cases h:i<0
   ·simp only [h,if_true]<;>omega
   ·simp only [h,if_false]<;>omega
theorem slicePick_cut(its:List Value)(lo hi:Option Int):slicePick its.toArray lo hi none=((its.drop (HT.sIx its.length 0 lo)).take (HT.sIx its.length its.length hi-HT.sIx its.length 0 lo)).toArray:=by
 obtain ⟨h1,h2,h3⟩:=slice_bounds lo hi its.toArray.size
 unfold slicePick
 rw [h1,h2,h3]
 simp only [sliceRange_one,pick_run,List.size_toArray]<;>rfl
def rSlL(K:PySem.W.Frag):V->Option Int->Option Int->Hp->VK->Prop:=fun x lo hi H Q=>∃a xs,x=.ref a/\SqL K H a xs/\∀p,H p=none->Q (.ref p) (upd H p (.lst (cutV xs lo hi)))
theorem sl_list:SlR X (rSlL X.K):=by
 intro pins s σ H x v vl vu lo hi sl Q I rx hs pl pu h
 obtain ⟨a,xs,rfl,hx,q⟩:=h
 cases rx
 obtain ⟨its,r,ht,hz⟩:=I.list hx
 have hlen:=r.length
 refine ⟨"list",_,slot_list_getitem.lookup,ht.isList.typeIs,?_⟩
 refine wpAny_getItem_list_slice ht.isList hs pl pu .none (by simp) ?_ (by rw [List.size_toArray]<;>omega)
 rw [slicePick_cut,<-hlen]
 refine ⟨.ref s.heap.objs.size,_,I.laid (t':=s.toks) (o:=.lst (cutV xs lo hi)) (fun b ob q=>Heap.get?_push_of_some _ q) (Nat.le_refl _) ?_,rfl,q _ (I.hok.fresh (Nat.le_refl _))⟩
 exact ⟨Nat.le_trans (cutV_length xs lo hi) hz,_,0,(r.drop (HT.sIx xs.length 0 lo)).take (HT.sIx xs.length xs.length hi-HT.sIx xs.length 0 lo),Heap.get?_push_size _ rfl⟩
theorem call_len_seq:CallR X (.builtin "len") (fun xs H Q=>∃p ys,xs=[.ref p]/\(SqL X.K H p ys\/SqT X.K H p ys)/\Q (.int ys.length) H):=by
 intro pins s σ H xs us Q I r h
 obtain ⟨p,ys,rfl,hq,q⟩:=h
 obtain ⟨u,rfl,rx⟩:=vals1 r
 cases rx
 have hn:=line63
 rcases hq with hq | hq
 ·obtain ⟨its,r',pl,hz⟩:=I.list hq
  have hlen:=r'.length
  exact Calls.call_len_list pl.isList (by simp only [List.size_toArray]<;>omega) ⟨.int ys.length,H,I.tok _,⟨s.toks+1,by rw [List.size_toArray,hlen]⟩,q⟩
 ·obtain ⟨its,r',pl,hz⟩:=I.tuple hq
  have hlen:=r'.length
  exact len_tuple pl (by simp only [List.size_toArray]<;>omega) ⟨.int ys.length,H,I.tok _,⟨s.toks+1,by rw [List.size_toArray,hlen]⟩,q⟩
theorem call_len_str:CallR X (.builtin "len") (fun xs H Q=>∃z,xs=[.str z]/\z.length<=sizeLine/\Q (.int z.length) H):=by
 intro pins s σ H xs us Q I r h
 obtain ⟨z,rfl,hz,q⟩:=h
 obtain ⟨u,rfl,t,rfl⟩:=vals1 r
 have hn:=line63
 exact len_str (by omega) ⟨.int z.length,H,I.tok _,⟨_,rfl⟩,q⟩
theorem call_list_of:CallR X (.type "list") (fun xs H Q=>∃p ys,xs=[.ref p]/\(SqL X.K H p ys\/SqT X.K H p ys)/\∀l,H l=none->Q (.ref l) (upd H l (.lst ys))):=by
 intro pins s σ H xs us Q I r h
 obtain ⟨p,ys,rfl,hq,q⟩:=h
 obtain ⟨u,rfl,rx⟩:=vals1 r
 cases rx
 have fin:∀(its:List Value),Vals ys its->ys.length<=sizeLine->∀(h':Heap) (c':Nat),(∀b o',s.heap.get? b=some o'->h'.get? b=some o') →
   h'.get? s.heap.objs.size=some { cls:=.type "list",dict:=none,data:=.seq its.toArray c',slots:=#[] }->EP X pins σ Q (.ref s.heap.objs.size) { s with heap:=h' }:=fun its r' hz h' c' kp e =>
  ⟨.ref s.heap.objs.size,_,I.laid (t':=s.toks) kp (Nat.le_refl _) (show ObjOk X.prog X.w _ h' _ (.lst ys) from ⟨hz,its,c',r',e⟩),rfl,q _ (I.hok.fresh (Nat.le_refl _))⟩
 rcases hq with hq | hq
 ·obtain ⟨its,r',pl,hz⟩:=I.list hq
  have hlen:=r'.length
  obtain ⟨o,ho,hc,n,hd⟩:=pl.isList
  exact call_list_seq p (.inl rfl) ho hc hd (fun h' c' kp e=>fin its r' hz h' c' kp e) (by simp only [List.size_toArray]<;>omega)
 ·obtain ⟨its,r',pl,hz⟩:=I.tuple hq
  have hlen:=r'.length
  obtain ⟨o,ho,hc,n,hd⟩:=pl
  exact call_list_seq p (.inr rfl) ho hc hd (fun h' c' kp e=>fin its r' hz h' c' kp e) (by simp only [List.size_toArray]<;>omega)
theorem call_tuple_of:CallR X (.type "tuple") (fun xs H Q=>∃p ys,xs=[.ref p]/\((SqL X.K H p ys/\∀l,H l=none->Q (.ref l) (upd H l (.tup ys)))\/(SqT X.K H p ys/\Q (.ref p) H))):=by
 intro pins s σ H xs us Q I r h
 obtain ⟨p,ys,rfl,h⟩:=h
 obtain ⟨u,rfl,rx⟩:=vals1 r
 cases rx
 rcases h with ⟨hq,q⟩ | ⟨hq,q⟩
 ·obtain ⟨its,r',pl,hz⟩:=I.list hq
  have hlen:=r'.length
  refine call_tuple_list pl.isList (fun h' kp=>?_) (by simp only [List.size_toArray]<;>omega)
  have I1:Inv X pins σ H { s with heap:=h' }:=I.kept (t':=s.toks) kp
  have I2:Inv X pins σ (upd H h'.objs.size (.tup ys)) { s with heap:=h'.push { cls:=.type "tuple",data:=.seq its.toArray } } :=
   I1.laid (t':=s.toks) (fun b o e=>Heap.get?_push_of_some _ e) (Nat.le_refl _) (show ObjOk X.prog X.w _ _ _ (.tup ys) from ⟨hz,its,r',IsTup.new _ _⟩)
  exact ⟨.ref h'.objs.size,_,I2,rfl,q _ (I1.hok.fresh (Nat.le_refl _))⟩
 ·obtain ⟨its,r',pl,hz⟩:=I.tuple hq
  exact call_tuple_same pl ⟨.ref p,H,I,rfl,q⟩
def tyV(K:PySem.W.Frag)(T:String)(x:V)(H:Hp):Prop:=match x with
 | .str _=>T = "str"
 | .int _=>T = "int"
 | .ref p=>(T = "list" /\ ∃xs,SqL K H p xs)\/(T = "tuple" /\ ∃o,K.lookup p=some o/\o.cls=.type "tuple" /\ o.dict=none) ∨
   (T = "dict" /\ ((∃kvs,H p=some (.dK kvs))\/∃kvs,H p=some (.dT kvs)))\/(T = "set" /\ ∃S n,H p=some (.set S n))
 | _=>False
theorem tyV_is{pins:Z3}{σ:St}{H:Hp}{s:Shared}{T:String}{x:V}{v:Value}(I:Inv X pins σ H s)(r:RelV x v)(ty:tyV X.K T x H) :
  s.TypeIs v T/\∀a,v=.ref a->∃ob,s.heap.get? a=some ob/\ob.dict=none:=by
 cases x with
 | str z =>
  obtain ⟨t,rfl⟩:=r
  cases (show T = "str" from ty)
  exact ⟨typeIs_str s z t,fun _ e=>nomatch e⟩
 | int i =>
  obtain ⟨t,rfl⟩:=r
  cases (show T = "int" from ty)
  exact ⟨typeIs_int s i t,fun _ e=>nomatch e⟩
 | ref p =>
  cases r
  rcases ty with ⟨rfl,xs,hq⟩ | ⟨rfl,o,hk,hc,hd⟩ | ⟨rfl,hk⟩ | ⟨rfl,S,n,hk⟩
  ·obtain ⟨its,_,pl,_⟩:=I.list hq
   refine ⟨pl.isList.typeIs,fun a e=>?_⟩
   cases e
   obtain ⟨o,n,e,c,hd,_⟩:=pl
   exact ⟨o,e,hd⟩
  ·refine ⟨⟨o,I.kIn p o hk,hc⟩,fun a e=>?_⟩
   cases e
   exact ⟨o,I.kIn _ o hk,hd⟩
  ·have z:∃o,s.heap.get? p=some o/\o.ExactDict:=by
    rcases hk with ⟨kvs,hk⟩ | ⟨kvs,hk⟩
    ·obtain ⟨_,_,_,_,o,_,_,e,ex,_⟩:=I.hok p _ hk
     exact ⟨o,e,ex⟩
    ·obtain ⟨_,_,_,_,o,_,_,e,ex,_⟩:=I.hok p _ hk
     exact ⟨o,e,ex⟩
   obtain ⟨o,e,ex⟩:=z
   refine ⟨⟨o,e,ex.1⟩,fun a e2=>?_⟩
   cases e2
   exact ⟨o,e,ex.2.1⟩
  ·obtain ⟨o,_,_,_,e,ex,_⟩:=I.hok p _ hk
   refine ⟨⟨o,e,ex.1⟩,fun a e2=>?_⟩
   cases e2
   exact ⟨o,e,ex.2.1⟩
 | _=>exact False.elim ty
def tBM(K:PySem.W.Frag)(T:String)(r:V->List V->Hp->VK->Prop)(to:TE)(t:TA):TE:=fun σ H Q=>to σ H fun x H1=>tyV K T x H1/\t σ H1 fun xs H2=>r x xs H2 Q
variable{o e:Expr}{es:List Expr}{to:TE}{t:TA}{name:Str}{apos cpos:Pos}{T id:String}{r:V->List V->Hp->VK->Prop}
theorem pe_bm(pa:PlainAttrs T)(slot:Slot T name id)(hty:typeOf (.builtin id)=pure (.type "method_descriptor"))(hm:MtR X id r)(ho:PE X o to)(ha:PA X (e::es) t)
  (hbase:attributeBase o name X.env (eval o X.env)=eval o X.env:=by rfl)
  (hfew:((backTo cpos (starEach (e::es) X.env)).all (fun x=>!x.1)&&(backToKw cpos (keywordEach [] X.env)).all (fun x=>x.1.isSome)
   && decide ((e::es).length+([]:List Keyword).length+(if ([]:List Keyword).isEmpty then 0 else 1)<30))=true:=by rfl)
  (hline:(apos.endLine == cpos.line)=true:=by rfl) (hs:starEach (e::es) X.env=(false,eval e X.env)::starEach es X.env:=by rfl) (hplain:(backTo cpos (starEach es X.env)).any (·.1)=false:=by rfl) :
  PE X (.Call (.Attribute o name apos) (e::es) [] cpos) (tBM X.K T r to t):=by
 intro pins s σ H Q I h
 refine wpAny_Call_method_late hbase hfew hline rfl (thn (ho pins s σ H _ I h) fun v s1 ⟨x,H1,I1,r1,ty,q1⟩=>?_)
 obtain ⟨h1,h2⟩:=tyV_is I1 r1 ty
 refine ⟨T,id,pa,slot,hty,h1,h2,?_⟩
 have hA:=ha cpos pins s1 σ H1 _ I1 q1
 rw [hs] at hA ⊢
 refine Calls.callWith_builtin (by show (false||(backTo cpos (starEach es X.env)).any (·.1))=false;rw [hplain]<;>rfl) (Calls.evalArgs_plain ?_)
 exact thn hA fun us s2 ⟨vs,H2,I2,r2,q2⟩=>hm pins s2 σ H2 x vs v us Q I2 r1 r2 q2
end
end L2
namespace L2
open PySem PySem.Spec PyProof.Rows
def MtM(X:Cx)(id:String)(r:V->List V->Hp->VK->Prop):Prop :=
 ∀(pins:Z3) (s:Shared) (σ:St) (H:Hp) (x:V) (xs:List V) (v:Value) (us:List Value) (Q:VK),Inv X pins σ H s->RelV x v->Vals xs us->r x xs H Q →
  wpAny (model X.prog X.w) X.A (call (.builtin id) (v::us)) (EP X pins σ Q) X.xe s
theorem Vals.one:∀{x:V} {us:List Value},Vals [x] us->∃u,us=[u]/\RelV x u
 | _,_,.cons r .nil=>⟨_,rfl,r⟩
theorem Vals.rep{xs:List V}{us:List Value}(h:Vals xs us):∀k:Nat,Vals (List.replicate k xs).flatten (List.replicate k us).flatten
 | 0=>.nil
 | k+1=>by
  rw [List.replicate_succ,List.replicate_succ,List.flatten_cons,List.flatten_cons]
  exact Vals.append h (Vals.rep h k)
theorem foldl_rep(its:List Value):∀(k:Nat) (acc:List Value),
  List.foldl (fun x1 x2=>x1++x2) acc.toArray (List.replicate k its.toArray)=(acc++(List.replicate k its).flatten).toArray
 | 0,acc=>by simp
 | k+1,acc=>by
  have e:acc.toArray++its.toArray=(acc++its).toArray:=by simp
  have e2:(acc++its)++(List.replicate k its).flatten=acc++(List.replicate (k+1) its).flatten:=by
   rw [List.replicate_succ,List.flatten_cons,List.append_assoc]
  rw [<-e2,<-foldl_rep its k (acc++its),<-e,List.replicate_succ,List.foldl_cons]
section
variable{X:Cx}{pins:Z3}{σ:St}{H:Hp}{s:Shared}{l b:Addr}{xs ys zs:List V}
theorem Inv.lset{its its':List Value}{n:Nat}{f:Array Value->Array Value}{t':Nat}(I:Inv X pins σ H s)(hH:H l=some (.lst xs))
  (e:s.heap.get? l=some { cls:=.type "list",data:=.seq its.toArray n }) (hf:f its.toArray=its'.toArray) (hv:Vals ys its') (hz:ys.length<=sizeLine) :
  Inv X pins σ (upd H l (.lst ys)) { s with heap:=s.heap.update l (Obj.mapSeq f),toks:=t' }:=by
 have q:=PySem.IsL.update e f
 rw [hf] at q
 refine I.write (x:=l) (e:=l) (by rw [hH];exact trivial) (.inl rfl) (fun b' u hb hu=>(Heap.get?_update_other s.heap (Obj.mapSeq f) (Ne.symm hb)).trans hu) ⟨_,q⟩ ?_
 exact ⟨hz,its',_,hv,q⟩
theorem Inv.lnew{its:List Value}{t':Nat}(I:Inv X pins σ H s)(hv:Vals ys its)(hz:ys.length<=sizeLine) :
  Inv X pins σ (upd H s.heap.objs.size (.lst ys)) { s with heap:=s.heap.push { cls:=.type "list",data:=.seq its.toArray },toks:=t' } :=
 I.laid (fun _ _ q=>Heap.get?_push_of_some _ q) (Nat.le_refl _) ⟨hz,its,0,hv,Heap.get?_push_size _ rfl⟩
theorem Inv.fresh(I:Inv X pins σ H s):H s.heap.objs.size=none:=I.hok.fresh (Nat.le_refl _)
theorem Inv.lstM(I:Inv X pins σ H s)(hH:H l=some (.lst xs)):xs.length<=sizeLine/\∃(its:List Value) (n:Nat),Vals xs its/\xs.length=its.length/\s.heap.get? l=some { cls:=.type "list",data:=.seq its.toArray n }:=by
 obtain ⟨z,its,n,r,e⟩:=I.hok l _ hH
 exact ⟨z,its,n,r,r.length,e⟩
theorem notLongL{n:Nat}(h:n<=sizeLine):Builtin.List.listTooLong n=false:=by
 unfold Builtin.List.listTooLong
 exact decide_eq_false (by omega)
end
section
variable{X:Cx}
def rAppend:V->List V->Hp->VK->Prop:=fun x vs H Q=>∃l xs y,x=.ref l/\vs=[y]/\H l=some (.lst xs)/\xs.length<sizeLine/\Q .non (upd H l (.lst (xs++[y])))
theorem mt_append:MtM X "list.append" rAppend:=by
 intro pins s σ H x vs v us Q I rx rv h
 obtain ⟨l,xs,y,rfl,rfl,hH,hz,q⟩:=h
 cases rx
 obtain ⟨u,rfl,ru⟩:=rv.one
 obtain ⟨z,its,n,r,hl,e⟩:=I.lstM hH
 refine call_meets F.slot_list_append ⟨_,e,rfl⟩ F.entry_list_append (F.args_list_append_2 _ _) (PySem.list_append l its.toArray n u (by rw [List.size_toArray];omega)) ⟨e,?_⟩
 refine ⟨.non,_,I.lset (its':=its++[u]) hH e (by simp) (r.append (.cons ru .nil)) ?_,rfl,q⟩
 rw [List.length_append,List.length_singleton]
 omega
def rCat:R2:=fun x y H Q=>∃l b xs zs,x=.ref l/\y=.ref b/\H l=some (.lst xs)/\H b=some (.lst zs)/\xs.length+zs.length<=sizeLine/\∀p,H p=none->Q (.ref p) (upd H p (.lst (xs++zs)))
theorem op_cat:OpR X (binaryOp .Add) rCat:=by
 intro pins s σ H x y v u Q I rx ry h
 obtain ⟨l,b,xs,zs,rfl,rfl,hH,hB,hz,q⟩:=h
 cases rx
 cases ry
 obtain ⟨z,its,n,r,hl,e⟩:=I.lstM hH
 obtain ⟨z2,its2,n2,r2,hl2,e2⟩:=I.lstM hB
 refine PySem.P.add_list e e2 ?_ (by rw [List.size_toArray,List.size_toArray];omega)
 have ea:its.toArray++its2.toArray=(its++its2).toArray:=by simp
 rw [ea]
 exact ⟨.ref _,_,I.lnew (t':=s.toks) (r.append r2) (by rw [List.length_append];omega),rfl,q _ I.fresh⟩
def rRep:R2:=fun x y H Q=>∃l k xs,x=.ref l/\y=.int k/\H l=some (.lst xs)/\-(2 ^ 63)<=k/\k<2 ^ 63/\xs.length*k.toNat<=sizeLine ∧
 ∀p,H p=none->Q (.ref p) (upd H p (.lst (List.replicate k.toNat xs).flatten))
theorem len_rep{α:Type}(xs:List α)(k:Nat):(List.replicate k xs).flatten.length=k*xs.length:=by
 induction k with
 | zero=>simp
 | succ k ih=>rw [List.replicate_succ,List.flatten_cons,List.length_append,ih,Nat.succ_mul,Nat.add_comm]
theorem op_rep:OpR X (binaryOp .Mult) rRep:=by
 intro pins s σ H x y v u Q I rx ry h
 obtain ⟨l,k,xs,rfl,rfl,hH,h1,h2,hz,q⟩:=h
 cases rx
 obtain ⟨t,rfl⟩:=ry
 obtain ⟨z,its,n,r,hl,e⟩:=I.lstM hH
 have hlen:its.toArray.size*k.toNat<=sizeLine:=by rw [List.size_toArray,<-hl];exact hz
 have hcap:¬ its.toArray.size*k.toNat > (2 ^ 63-1) / 8:=by
  have:(sizeLine:Nat)<=(2 ^ 63-1) / 8:=by decide
  omega
 have hfit:¬ (!Builtin.List.listFitsIndex k)=true:=by
  rw [fitsIndex_both h1 h2]
  exact Bool.false_ne_true
 have hlong:¬ Builtin.List.listTooLong (its.toArray.size*k.toNat)=true:=by
  rw [notLongL hlen]
  exact Bool.false_ne_true
 have hnew:List.foldl (fun x1 x2=>x1++x2) #[] (List.replicate (if its.toArray.isEmpty=true then 0 else k.toNat) its.toArray)=(List.replicate k.toNat its).flatten.toArray:=by
  have f0:∀m:Nat,List.foldl (fun x1 x2=>x1++x2) #[] (List.replicate m its.toArray)=(List.replicate m its).flatten.toArray:=fun m=>by
   have:=foldl_rep its m []
   rw [List.nil_append] at this
   exact this
  rw [f0]
  cases its with
  | nil=>simp
  | cons a r'=>rw [if_neg (by simp)]
 refine wpAny_binaryOp_repeat_ref (T:="list") (U:="int") (by decide) ⟨_,e,rfl⟩ (fun s'=>typeIs_int s' k t) noFill_list_mul F.fills_int_mul F.slot_int_rmul repeat_list F.slot_int_index.lookup
  (call_meets F.slot_int_rmul (typeIs_int s k t) F.entry_int_rmul (F.args_int_rmul_2 _ _) (int___rmul___int_list k t l its.toArray n)
   ⟨e,rfl,⟨_,e,rfl⟩,call_meets F.slot_list_mul ⟨_,e,rfl⟩ F.entry_list_mul (F.args_list_mul_2 _ _) (AutoListH.list___mul___list_int_3 l its.toArray n k t hfit hcap hlong) ⟨e,?_⟩⟩)
 rw [hnew]
 exact ⟨.ref _,_,I.lnew (t':=s.toks) (r.rep k.toNat) (by rw [len_rep,Nat.mul_comm];exact hz),rfl,q _ I.fresh⟩
end
section
variable{prog:Program}{w:World}{A:Around}{E:Z5}{s:Shared}
end
section
variable{X:Cx}
end
end L2
namespace Att
open PySem PySem.W PySem.Calls PyProof.Rows
theorem ints_of_wellAll{P:Params}{h:Heap}:∀(ns:List Int) (vs:List Value),WellAll P h vs (ns.map WData.int)->IntsAre vs ns:=by
 intro ns
 induction ns with
 | nil =>
  intro vs w
  rw [List.map_nil] at w
  cases w
  exact .nil
 | cons n ns ih =>
  intro vs w
  rw [List.map_cons] at w
  cases w with
  | cons a b =>
   cases a
   exact .cons _ _ (ih _ b)
theorem script_of{l:OpenLaw}{n:Nat}(hn:l.most=some n){P:Params}{h:Heap}{args:List WData}{vals:List Value}
  (hpre:l.row.toRowW.claim.pre args=true) (hwl:WellAll P h vals args) :
  ∃a vs ns,vals=[Value.ref a]/\args=[WData.list (ns.map WData.int)]/\h.get? a=some { cls:=.type "list",data:=.seq vs.toArray }/\IntsAre vs ns/\ns.length<=n:=by
 have hsh:WShape.hasAll [] args [.list .int]=true:=(pre_splitW hpre).1
 have hc:l.pre.holds [] { args:=args }=true:=(pre_splitW hpre).2
 obtain ⟨d,r,rfl,h1,h2⟩:=hasAllW_cons hsh
 obtain rfl:=hasAllW_nil h2
 obtain ⟨xs,rfl,h3⟩:=hasW_list h1
 obtain ⟨ns,rfl⟩:=items_int h3
 have hlen:ns.length<=n:=by
  unfold OpenLaw.pre at hc
  have h4:(WTm.not (.lt (.lit (.int (n:Int))) (.len (.arg 0)))).holds [] { args:=[.list (ns.map .int)] }=true:=by
   have h4:=(holds_andW hc).1
   rw [hn] at h4
   exact h4
  have h5:=condW_of h4 (w_not (w_lt w_lit (w_len_list (w_arg rfl))))
  rw [List.length_map] at h5
  refine Nat.le_of_not_lt fun q=>?_
  have q':(n:Int)<((ns.length:Nat):Int):=by omega
  first
   | (rw [decide_eq_true q'] at h5;exact absurd h5 (by decide))
   | (simp at h5;omega)
 cases hwl with
 | cons w1 w2 =>
  cases w2
  cases w1 with
  | list ho hall=>exact ⟨_,_,ns,rfl,rfl,ho,ints_of_wellAll ns _ hall,hlen⟩
theorem post_true(l:OpenLaw)(args:List WData):l.row.toRowW.claim.post args (.bool true) args=true :=
 postW_of (r:=l.row.toRowW) (X:=(true == true))
  (show WShape.has [] (.bool true) .bool=true by first | rfl | decide | simp [WShape.has,WShape.arms,WShape.armsAll])
  (show (WTm.eq .res (.lit (.bool true))).value [] { args:=args,res:=some (.bool true),after:=args }=some (.bool (true == true)) from w_eq_bool (w_res rfl) w_lit) rfl
theorem attach_call{l:OpenLaw}{n:Nat}{q:Program}{loose:List Str}{XP:(Str->Option Value)->Heap->Prop}{YP:World->Heap->Prop}{d:DefRec}
  (hn:l.most=some n) (hdf:d.params.defaults=[])
  (call:∀(w:World) (s₀ s₁:Shared) (mg mb:Z6) (fa:Addr) (o:Obj) (pm cd doc:Value) (a:Addr) (vs:List Value) (ns:List Int),
   Ground q loose [] XP w s₀ mg mb s₁.heap->YP w s₁.heap →
   s₁.heap.get? fa=some o->o.data=.func (docDef d.name d.params d.body d.scope pm cd doc)->s₁.heap.CodeRec cd d.name->mg d.name=some (.ref fa) →
   s₁.heap.get? a=some { cls:=.type "list",data:=.seq vs.toArray }->IntsAre vs ns->ns.length<=n->s₁.gens=#[] →
   codeAny (model l.prog w) callerA (.call (.ref fa) ⟨[.ref a],[]⟩) (fun r s'=>r=.ok (.ret (.bool true))/\OldK s₁.heap s'.heap/\s'.os=s₁.os/\AllBare s'.gens) s₁) :
  WalkO q loose XP YP l.row.toRowW d [] (fun f vs=>PySem.call f vs):=by
 intro w s₀ s₁ mg mb G Y fa o pm cd doc dV kV ho hd hcd hD hmg hg args vals as hpre hlay hrd hwl hlo
 obtain rfl:dV=.none:=Dflts.none hD hdf
 obtain rfl:kV=.none:=Dflts.noKw hD
 obtain ⟨a,vs,ns,rfl,rfl,hobj,hints,hlen⟩:=script_of hn hpre hwl
 refine enter_call (codeAny_mono (call w s₀ s₁ mg mb fa o pm cd doc a vs ns G Y ho (fd_plain hd) hcd hmg hobj hints hlen hg) fun r s' hq=>?_)
 obtain ⟨rfl,h2,h3,h4⟩:=hq
 exact ⟨.inl ⟨.bool true,.bool true,[],rfl,fun _=>rfl,.bool true,post_true l _,fun _=>⟨List.Pairwise.nil,fun _ hm=>(nomatch hm)⟩⟩,h2,h3,h4⟩
section
variable{prog:Program}{w:World}{A:Around}{E:Z5}{s:Shared}{K:Frag}
end
end Att
namespace L2
open PySem PySem.Spec PyProof.Rows
theorem vals_ints:∀{vs:List Value} {ns:List Int},IntsAre vs ns->Vals (ns.map V.int) vs
 | _,_,.nil=>.nil
 | _,_,.cons n t h=>.cons ⟨t,rfl⟩ (vals_ints h)
def Only(H:Hp):Prop:=∀b,H b=none\/∃o xs,H b=some (.frz o (.lst xs))
theorem law_call{P:Program}{w:World}{K:PySem.W.Frag}{mg mb:Z6}{CX:CXT}{k:Nat}{fa a:Addr}{fd:FuncData}{x:Str}{sp:Sp}{s₁:Shared}{vs:List Value}{ns:List Int}
  (KX:K.In s₁.heap) (hns:s₁.heap.Ns mainGlobals mg) (hb:s₁.heap.Ns builtinsNs mb) (hbb:∀x:Str,x ≠ "__name__" -> mb x=bootBuiltins x) (hlim:s₁.heap.NoLimit) (hg:s₁.gens=#[])
  (ha:s₁.heap.get? a=some { cls:=.type "list",data:=.seq vs.toArray }) (hi:IntsAre vs ns) (hl:ns.length<=sizeLine) (hr:Room k callerA)
  (F:∀base:Heap,K.In base->base.Ns mainGlobals mg->FnOk P w K mg base CX k fa fd [x] sp) (hbind:∀(s:Shared) (u:Value),BindsTo s fd ⟨[u],[]⟩ [(x,u)])
  (hsp:∀H:Hp,Only H->SqL K H a (ns.map V.int)->sp [.ref a] H (fun v _=>v=.bl true) fun _ _ _=>False)
  (hCX:∀H e s',CX [] H s₁ (fun _ _ _=>False) e s'->False) :
  codeAny (model P w) callerA (.call (.ref fa) ⟨[.ref a],[]⟩) (fun r s'=>r=.ok (.ret (.bool true))/\OldK s₁.heap s'.heap/\s'.os=s₁.os/\AllBare s'.gens) s₁:=by
 have rv:=vals_ints hi
 have lenV:=hi.length
 have core:∀H:Hp,Only H->SqL K H a (ns.map V.int)->HOk P w H s₁.heap->(∀b,H b≠none->b=a)->(H a≠none->K.lookup a=none) →
   codeAny (model P w) callerA (.call (.ref fa) ⟨[.ref a],[]⟩) (fun r s'=>r=.ok (.ret (.bool true))/\OldK s₁.heap s'.heap/\s'.os=s₁.os/\AllBare s'.gens) s₁:=by
  intro H hO hS hok hA hK
  have base_of:∀{b:Addr} {o:Obj},s₁.heap.get? b=some o->H b=none->(hidT s₁.heap H).get? b=some o:=fun e n=>hidT_get e n
  have noA:∀{b:Addr} {o:Obj} {es:Array DictEntry} {ep:Nat},s₁.heap.get? b=some o->o.data=.dict es ep->H b=none:=fun {b o es ep} e d=>by
   cases q:H b with
   | none=>rfl
   | some u =>
    have e':b=a:=hA b (by rw [q];simp)
    subst e'
    rw [ha] at e;cases e
    have d':Data.seq vs.toArray _=Data.dict es ep:=d
    cases d'
  have nsK:∀{b:Addr} {m:Z6},s₁.heap.Ns b m->(hidT s₁.heap H).Ns b m:=fun {b m} ⟨o,es,ep,e,d,r⟩=>⟨o,es,ep,base_of e (noA e d),d,r⟩
  have hKb:K.In (hidT s₁.heap H):=fun b o e=>base_of (KX b o e) (by
   cases q:H b with
   | none=>rfl
   | some u =>
    have e':b=a:=hA b (by rw [q];simp)
    subst e'
    rw [hK (by rw [q];simp)] at e;cases e)
  have hM:Mod K mg (hidT s₁.heap H):=⟨hKb,nsK hns,⟨mb,nsK hb,hbb⟩,let ⟨mc,h1,h2⟩:=hlim;⟨mc,nsK h1,h2⟩⟩
  have e0:Env0 P w K mg (hidT s₁.heap H) callerA [] s₁ H:=⟨rfl,hM,fun b o e=>of_hidT e,Nat.le_of_eq (hidT_size _ _),trivial,fun b hb=>absurd (show b∈([]:List Addr) from hb) (by simp),hok,.of_eq hg⟩
  refine codeAny_mono ((F _ hKb (nsK hns)).run callerA [] s₁ H ⟨[.ref a],[]⟩ [.ref a] [.ref a] _ _ hr e0 (hbind s₁ (.ref a)) (.cons rfl .nil) (hsp H hO hS)) fun r s' h=>?_
  cases r with
  | error e=>exact (hCX H e s' h).elim
  | ok fl =>
   cases fl with
   | next=>exact False.elim h
   | brk=>exact False.elim h
   | cont=>exact False.elim h
   | ret u =>
    obtain ⟨v,H',os,bare,un,hok',r',q⟩:=h
    have q':v=.bl true:=q
    subst q'
    obtain rfl:u=Value.bool true:=r'
    refine ⟨rfl,OldK.of_keep fun b o e=>?_,os,bare⟩
    cases q:H b with
    | none=>exact un.keep b o e q (by intro z;exact absurd (show b∈([]:List Addr) from z) (by simp)) (by simp)
    | some u =>
     rcases hO b with z | ⟨ob,xs,z⟩
     ·rw [q] at z;cases z
     ·have z2:=un.frzs b ob _ z
      obtain ⟨e1,_⟩:=hok b _ z
      obtain ⟨e2,_⟩:=hok' b _ z2
      rw [e] at e1;cases e1
      exact e2
 cases hk:K.lookup a with
 | some o =>
  have e:=KX a o hk
  rw [ha] at e
  cases e
  refine core (fun _=>none) (fun _=>.inl rfl) (.inr ⟨_,vs.toArray,_,hk,rfl,rfl,rfl,by rw [List.size_toArray,lenV];exact hl,by simpa using rv⟩) (fun b u z=>by have z':(none:Option HO)=some u:=z;cases z') (fun b z=>absurd rfl z) fun z=>absurd rfl z
 | none =>
  refine core (fun b=>if b=a then some (.frz { cls:=.type "list",data:=.seq vs.toArray } (.lst (ns.map V.int))) else none) (fun b=>?_) (.inl (.inr ⟨{ cls:=.type "list",data:=.seq vs.toArray },if_pos rfl⟩)) (fun b u z=>?_) (fun b z=>?_) fun _=>hk
  ·by_cases hb:b=a
   ·exact .inr ⟨_,_,if_pos hb⟩
   ·exact .inl (if_neg hb)
  ·by_cases hb:b=a
   ·have z':=(if_pos hb).symm.trans z
    cases z'
    subst hb
    exact ⟨ha,by rw [List.length_map];exact hl,vs,_,rv,ha⟩
   ·have z':=(if_neg hb).symm.trans z
    cases z'
  ·by_cases hb:b=a
   ·exact hb
   ·exact absurd (if_neg hb) z
end L2
namespace L2
open PySem PySem.Spec PyProof.Rows
theorem walk_of{l:PySem.W.OpenLaw}{n k:Nat}{q:Program}{loose:List Str}{XP:(Str->Option Value)->Heap->Prop}{YP:World->Heap->Prop}{d:DefRec}{K:Params->PySem.W.Frag}{CX:World->CXT}{sp:World->Sp}{x:Str}
  (hn:l.most=some n) (hn2:n<=sizeLine) (hdf:d.params.defaults=[]) (hr:Room k callerA)
  (hY:∀(w:World) (h:Heap),YP w h->(K w.params).In h)
  (F:∀(w:World) (mg:Z6) (fa:Addr) (h:Heap),(K w.params).In h->h.Ns mainGlobals mg->mg d.name=some (.ref fa) →
   ∃fd:FuncData,(∀(s:Shared) (u:Value),BindsTo s fd ⟨[u],[]⟩ [(x,u)]) ∧
    ∀base:Heap,(K w.params).In base->base.Ns mainGlobals mg->FnOk l.prog w (K w.params) mg base (CX w) k fa fd [x] (sp w))
  (hsp:∀(w:World) (H:Hp) (a:Addr) (ns:List Int),ns.length<=n->Only H->SqL (K w.params) H a (ns.map V.int)->sp w [.ref a] H (fun v _=>v=.bl true) fun _ _ _=>False)
  (hCX:∀(w:World) (H:Hp) (s:Shared) (e:Value) (s':Shared),CX w [] H s (fun _ _ _=>False) e s'->False) :
  PySem.W.WalkO q loose XP YP l.row.toRowW d [] (fun f vs=>PySem.call f vs):=by
 refine Att.attach_call hn hdf fun w s₀ s₁ mg mb fa o pm cd doc a vs ns G Y ho hd hcd hmg hobj hints hlen hg=>?_
 have KX:=hY w _ Y
 obtain ⟨fd,hb,hF⟩:=F w mg fa _ KX G.T.g hmg
 exact law_call KX G.T.g G.T.b G.T.builtins G.T.nolimit hg hobj hints (Nat.le_trans hlen hn2) hr hF hb (fun H hO hS=>hsp w H a ns hlen hO hS) fun H e s'=>hCX w H s₁ e s'
end L2
namespace L2
open PySem PySem.Spec PyProof.Rows
def defArgs(s:Stmt):Arguments:=match s with
 | .FunctionDef _ a _ _ _ _ _ _ _ _=>a
 | _=>{ posonlyargs:=[],args:=[],vararg:=none,kwonlyargs:=[],kw_defaults:=[],kwarg:=none,defaults:=[] }
def defBody(s:Stmt):List Stmt:=match s with
 | .FunctionDef _ _ b _ _ _ _ _ _ _=>b
 | _=>[]
def defScope(s:Stmt):Scope:=match s with
 | .FunctionDef _ _ _ _ _ _ sc _ _ _=>sc
 | _=>{ kind:=.function,names:=[],isGenerator:=false,isCoroutine:=false }
structure Fun(K:PySem.W.Frag)(x qual:Str)(st:Stmt)(f:Addr)(fd:FuncData):Prop where
 ex:∃(oc:Value) (od:Option Addr) (kV doc pm:Value) (an:Option Addr) (cdv ct:Value) (osl:Array (Option Value)),
  fd=PySem.W.fnOf x qual (defArgs st) (defBody st) (defScope st) .none kV doc pm an cdv ct/\K.lookup f=some ⟨oc,od,.func fd,osl⟩/\PySem.W.codeIn K cdv qual=true
 kp:PySem.W.keepIn K (.ref f)=true
section
variable{P:Program}{w:World}{K:PySem.W.Frag}{mg:Z6}{base:Heap}
theorem Fun.binds{x qual:Str}{st:Stmt}{f:Addr}{fd:FuncData}{ps:List Str}(F:Fun K x qual st f fd)
  (h:∀(kV doc pm:Value) (an:Option Addr) (cdv ct:Value) (us:List Value),us.length=ps.length->bindArgs (PySem.W.fnOf x qual (defArgs st) (defBody st) (defScope st) .none kV doc pm an cdv ct) ⟨us,[]⟩=pure (ps.zip us)):Binds K fd ps []:=by
 obtain ⟨oc,od,kV,doc,pm,an,cdv,ct,osl,rfl,lk,hcd⟩:=F.ex
 exact .all (h kV doc pm an cdv ct)
theorem fun_mk{x qual:Str}{st:Stmt}{f:Addr}{oc:Value}{od an:Option Addr}{osl:Array (Option Value)}{kV doc pm cdv ct:Value}(l:K.lookup f=some ⟨oc,od,.func (PySem.W.fnOf x qual (defArgs st) (defBody st) (defScope st) .none kV doc pm an cdv ct),osl⟩)
  (c:PySem.W.codeIn K cdv qual=true) (k:PySem.W.keepIn K (.ref f)=true):Fun K x qual st f (PySem.W.fnOf x qual (defArgs st) (defBody st) (defScope st) .none kV doc pm an cdv ct):=⟨⟨oc,od,kV,doc,pm,an,cdv,ct,osl,rfl,l,c⟩,k⟩
end
section
variable{X:Cx}
end
theorem iteF{A B:Prop}(h:B):if false=true then A else B:=by
 rw [if_neg Bool.false_ne_true]
 exact h
theorem iteT{A B:Prop}(h:A):if true=true then A else B:=by
 rw [if_pos rfl]
 exact h
end L2
namespace L2
open PySem PySem.Spec PyProof.Rows
theorem closure_ok{scope:Scope}{env:Env}(h:∀y∈scope.names,y.2=.free->∃c,env.cells.lookup y.1=some c) :
  ∃cl,closureFor scope env=pure cl/\(∀y c,cl.lookup y=some c->env.cells.lookup y=some c)/\∀y,(y,NameKind.free)∈scope.names->∃c,cl.lookup y=some c:=by
 unfold closureFor
 have key:∀(l:List (Str×NameKind)) (cs:List (Str×Addr)),(∀y∈l,y.2=.free->∃c,env.cells.lookup y.1=some c)->(∀y c,cs.lookup y=some c->env.cells.lookup y=some c) →
   ∃cl,(forIn l cs fun (x:Str×NameKind) (r:List (Str×Addr))=>(if (x.2 == NameKind.free)=true then (do let c ← cellOf env x.1;pure (ForInStep.yield ((x.1,c)::r))) else pure (ForInStep.yield r):Sem (ForInStep (List (Str×Addr)))))=pure cl ∧
    (∀y c,cl.lookup y=some c->env.cells.lookup y=some c)/\(∀y,(y,NameKind.free)∈l->∃c,cl.lookup y=some c)/\(∀y c,cs.lookup y=some c->∃c',cl.lookup y=some c'):=by
  intro l
  induction l with
  | nil=>intro cs _ hc;exact ⟨cs,rfl,hc,fun y hy=>by simp at hy,fun y c e=>⟨c,e⟩⟩
  | cons p l ih =>
   intro cs hl hc
   obtain ⟨n,k⟩:=p
   by_cases hk:(k == NameKind.free)=true
   ·have ek:k=.free:=eq_of_beq hk
    obtain ⟨c,ec⟩:=hl (n,k) List.mem_cons_self ek
    obtain ⟨cl,e1,e2,e3,e4⟩:=ih ((n,c)::cs) (fun y hy=>hl y (List.mem_cons_of_mem _ hy)) (fun y c' e=>by
     rw [List.lookup_cons] at e
     cases hq:y == n with
     | true=>rw [hq] at e;cases e;rw [eq_of_beq hq];exact ec
     | false=>rw [hq] at e;exact hc y c' e)
    refine ⟨cl,?_,e2,fun y hy=>?_,fun y c' e=>?_⟩
    ·rw [List.forIn_cons]
     show ((if (k == NameKind.free)=true then _ else _) >>= _)=_
     rw [if_pos hk]
     have ecell:cellOf env n=pure c:=by unfold cellOf;rw [ec]
     show (cellOf env n >>= _) >>= _=_
     rw [ecell]
     simpa using e1
    ·rcases List.mem_cons.mp hy with z | hy
     ·cases z
      exact e4 n c (by rw [List.lookup_cons];simp)
     ·exact e3 y hy
    ·cases hq:y == n with
     | true=>exact e4 y c (by rw [List.lookup_cons,hq])
     | false=>exact e4 y c' (by rw [List.lookup_cons,hq];exact e)
   ·obtain ⟨cl,e1,e2,e3,e4⟩:=ih cs (fun y hy=>hl y (List.mem_cons_of_mem _ hy)) hc
    refine ⟨cl,?_,e2,fun y hy=>?_,e4⟩
    ·rw [List.forIn_cons]
     show ((if (k == NameKind.free)=true then _ else _) >>= _)=_
     rw [if_neg hk]
     simpa using e1
    ·rcases List.mem_cons.mp hy with z | hy
     ·cases z;exact absurd rfl hk
     ·exact e3 y hy
 obtain ⟨cl,e1,e2,e3,_⟩:=key scope.names [] h (fun y c e=>by simp at e)
 refine ⟨cl,?_,e2,e3⟩
 show ((forIn scope.names [] _:Sem (List (Str×Addr))) >>= _)=_
 have e1':=congrArg (fun m=>m >>= (pure:List (Str×Addr)->Sem (List (Str×Addr)))) e1
 simpa using e1
def PIf(X:Cx)(ifs:List Expr)(t:TT):Prop :=
 ∀(pins:Z3) (s:Shared) (σ:St) (H:Hp) (Q:Bool->Hp->Prop),Inv X pins σ H s->t σ H Q →
  wpAny (model X.prog X.w) X.A (forIn ifs true fun c r=>if r=true then do let ok ← isTrue c X.env (eval c X.env);pure (ForInStep.yield ok) else pure (ForInStep.yield r)) (TP X pins σ Q) X.xe s
def tYes:TT:=fun _ H Q=>Q true H
theorem pif_nil{X:Cx}:PIf X [] tYes:=fun _ _ _ H _ I h=>wpAny_tests_nil ⟨H,I,h⟩
theorem pif_one{X:Cx}{c:Expr}{t:TT}(h:PT X c t):PIf X [c] t:=fun pins s σ H Q I hw=>wpAny_tests_one (h pins s σ H Q I hw)
theorem relabel_mem{scope:Scope}{env:Env}(hc:∀y∈scope.names,y.2≠.cell){y:Str}(h:(relabel scope env).names.lookup y=some .cell\/(relabel scope env).names.lookup y=some .free):(y,NameKind.free)∈scope.names:=by
 have go:∀k,(relabel scope env).names.lookup y=some k->(k=.cell\/k=.free)->(y,NameKind.free)∈scope.names:=fun k e hk=>by
  have hm:=PySem.mem_of_lookup e
  obtain ⟨⟨n,k0⟩,hp,e2⟩:=List.mem_map.mp hm
  by_cases hq:(k0 == .free&&env.scope.kind == .function&&env.kindOf n == some .cell)=true
  ·have e3:(n,NameKind.cell)=(y,k):=by rw [<-e2];show _=if _ then _ else _;rw [if_pos hq]
   cases e3
   have:k0=.free:=by simp only [Bool.and_eq_true] at hq;exact eq_of_beq hq.1.1
   subst this;exact hp
  ·have e3:(n,k0)=(y,k):=by rw [<-e2];show _=if _ then _ else _;rw [if_neg hq]
   cases e3
   rcases hk with rfl | rfl
   ·exact absurd rfl (hc _ hp)
   ·exact hp
 rcases h with h | h
 ·exact go _ h (.inl rfl)
 ·exact go _ h (.inr rfl)
theorem relabel_kind{scope:Scope}{env:Env}:∀{names:List (Str×NameKind)} {y:Str},(y,NameKind.free)∈names->(∀z∈names,z.1=y->z.2=.free) →
  (names.map fun (n,k)=>if (k == NameKind.free&&env.scope.kind == .function&&env.kindOf n == some .cell) then (n,NameKind.cell) else (n,k)).lookup y=some .cell ∨
  (names.map fun (n,k)=>if (k == NameKind.free&&env.scope.kind == .function&&env.kindOf n == some .cell) then (n,NameKind.cell) else (n,k)).lookup y=some .free
 | [],_,h,_=>by simp at h
 | (n,k)::r,y,h,u=>by
  rw [List.map_cons]
  show List.lookup y ((if (k == NameKind.free&&env.scope.kind == .function&&env.kindOf n == some .cell)=true then (n,NameKind.cell) else (n,k))::_)=_\/List.lookup y ((if (k == NameKind.free&&env.scope.kind == .function&&env.kindOf n == some .cell)=true then (n,NameKind.cell) else (n,k))::_)=_
  cases hq:y == n with
  | true =>
   have e:n=y:=(eq_of_beq hq).symm
   have ek:k=.free:=u (n,k) List.mem_cons_self e
   by_cases hc:(k == NameKind.free&&env.scope.kind == .function&&env.kindOf n == some .cell)=true
   ·rw [if_pos hc];left;simp [List.lookup_cons,hq]
   ·rw [if_neg hc];right;simp [List.lookup_cons,hq,ek]
  | false =>
   have hy:(y,NameKind.free)∈r:=by
    rcases List.mem_cons.mp h with z | z
    ·cases z;simp at hq
    ·exact z
   have ih:=relabel_kind (scope:=scope) (env:=env) hy fun z hz=>u z (List.mem_cons_of_mem _ hz)
   by_cases hc:(k == NameKind.free&&env.scope.kind == .function&&env.kindOf n == some .cell)=true
   ·rw [if_pos hc];simpa [List.lookup_cons,hq] using ih
   ·rw [if_neg hc];simpa [List.lookup_cons,hq] using ih
theorem Inv.track{X:Cx}{pins:Z3}{σ:St}{H:Hp}{s:Shared}{D:Addr}{o:HO}(I:Inv X pins σ H s)(hn:H D=none)(h1:X.s₀.heap.objs.size<=D)(h2:D≠X.env.locals)(h3:∀x c,X.env.cells.lookup x=some c->c≠D)(h4:∀p∈X.pn++pins,p.1≠D)
  (new:ObjOk X.prog X.w (upd H D o) s.heap D o):Inv X pins σ (upd H D o) s:=by
 have nD:∀b u,H b=some u->b≠D:=fun b u e=>ne_of_none e hn
 obtain ⟨h',g',d',t',o'⟩:=s
 refine I.step (h':=h') (g':=g') (d':=d') (t':=t') (ch:=[D]) (fun b hb=>?_) (fun b o _ _ _ e _=>e) (fun b o _ _ _ e _=>⟨o.slots,e⟩) (fun b o hc e n=>?_) (fun b o _ e=>⟨o,e⟩) (fun b xs e=>?_) (fun b o u e=>?_) (fun b ps e=>?_) (fun m hm=>hm) (fun b u e=>?_) I.bare
 ·have e:b=D:=by simpa using hb
  subst e
  exact ⟨.inr h1,h2,h3,h4⟩
 ·rw [upd_ne (fun z=>hc (by simp [z]))];exact n
 ·rw [upd_ne (nD _ _ e)];exact e
 ·rw [upd_ne (nD _ _ e)];exact e
 ·exact ⟨#[],by rw [upd_ne (nD _ _ e),e];simp⟩
 ·by_cases hb:b=D
  ·subst hb;rw [upd_same] at e;cases e;exact new
  ·rw [upd_ne hb] at e
   exact (I.hok b u e).stay (fun _ _ _ q=>q) (fun c q=>by rw [upd_ne (nD _ _ q)];exact q) fun c xs q=>by rw [upd_ne (nD _ _ q)];exact q
section
variable{X:Cx}{elt iter:Expr}{x:Str}{px pos:Pos}{ifs:List Expr}{scope:Scope}{caps:List (Str×Nat)}{wi:TI}{tt:TT}{te:TE}
abbrev lob(its:List Value)(k:Nat):Obj:={ cls:=.type "list",data:=.seq its.toArray k }
theorem Un.but{fs ex:List Addr}{H H1:Hp}{h h1 h2:Heap}{C:Addr}(u:Un fs ex H H1 h h1)(hC:h.objs.size<=C)(sb:Heap.SameBut C h1 h2):Un fs ex H H1 h h2 where
 keep:=fun b o e n hb hx=>(sb.2 b (Nat.ne_of_lt (Nat.lt_of_lt_of_le (Heap.lt_size e) hC))).trans (u.keep b o e n hb hx)
 slot:=fun b o e n hb hx=>by
  obtain ⟨sl,q⟩:=u.slot b o e n hb hx
  exact ⟨sl,(sb.2 b (Nat.ne_of_lt (Nat.lt_of_lt_of_le (Heap.lt_size e) hC))).trans q⟩
 free:=u.free
 there:=fun b o e hx=>by
  obtain ⟨o',q⟩:=u.there b o e hx
  exact ⟨o',(sb.2 b (Nat.ne_of_lt (Nat.lt_of_lt_of_le (Heap.lt_size e) hC))).trans q⟩
 tups:=u.tups
 frzs:=u.frzs
 tbls:=u.tbls
theorem HOk.but{P:Program}{w:World}{H:Hp}{h h':Heap}{C:Addr}(k:HOk P w H h)(hn:H C=none)(sb:Heap.SameBut C h h'):HOk P w H h':=fun a o e =>
 (k a o e).stay (fun b u hb q=>(sb.2 b (by
  rcases hb with z | z
  ·rw [z];exact ne_of_none e hn
  ·exact ne_of_none z hn)).trans q) (fun _ q=>q) fun _ _ q=>q
end
end L2
namespace L2
open PySem PySem.Spec PyProof.Rows
section
variable{X:Cx}{elt iter:Expr}{x:Str}{px pos:Pos}{ifs:List Expr}{scope:Scope}{caps:List (Str×Nat)}{wi:TI}{tt:TT}{te:TE}
end
end L2
namespace L2
open PySem PySem.Spec PyProof.Rows
section
variable{prog:Program}{w:World}{A:Around}{R:Result->Shared->Prop}{s:Shared}
theorem loop_gen{elt target iter:Expr}{ifs:List Expr}{scope:Scope}{pos:Pos}{it acc:Value}{env:Env}(I:Nat->Shared->Prop)
  (turn:∀n s,I n s->wpAny (model prog w) A (pyNext it) (fun r s₁=>match r with
   | none=>R (.ok .next) s₁
   | some v=>wpAny (model prog w) A (letOwnedTupleGo target it v) (fun _ s₀=>wpAny (model prog w) A (assign target env v) (fun _ s₂ =>
     wpAny (model prog w) A (forIn ifs true fun c r=>if r=true then do let ok ← isTrue c env (eval c env);pure (ForInStep.yield ok) else pure (ForInStep.yield r)) (fun ok s₃ =>
      if ok=true then wpAny (model prog w) A (eval elt env) (fun x s₄ =>
       wpAny (model prog w) A (call (.builtin "list.append") [acc,x]) (fun _ s₅=>∃m,m<n/\I m s₅) (notedBy (model prog w) A env fun e s'=>R (.error e) s') s₄) (notedBy (model prog w) A env fun e s'=>R (.error e) s') s₃
      else ∃m,m<n/\I m s₃) (notedBy (model prog w) A env fun e s'=>R (.error e) s') s₂) (notedBy (model prog w) A env fun e s'=>R (.error e) s') s₀) (notedBy (model prog w) A env fun e s'=>R (.error e) s') s₁) (notedBy (model prog w) A env fun e s'=>R (.error e) s') s)
  (n:Nat) (h:I n s):codeAny (model prog w) A (.compLoop (.ListComp elt [⟨target,iter,ifs,0⟩] scope pos) 0 it acc env) R s:=by
 refine codeAny_loop rfl I (fun n s hI=>?_) n h
 show wpAny _ A ((compTurn (.ListComp elt [⟨target,iter,ifs,0⟩] scope pos) 0 it acc env).onRaise (fun x=>do noteFrame x env;theTreesLotGoes x)) _ _ s
 refine wpAny_noted ?_
 rw [compTurn_list]
 refine wpAny_bind (wpAny_standAt (wpAny_bind (wpAny_mono (turn n s hI) (fun r s₁ h₁=>?_) fun _ _ h'=>h')))
 cases r with
 | none=>exact wpAny_pure h₁
 | some v =>
  refine wpAny_bind (wpAny_mono h₁ (fun _ s₀ h₀=>?_) fun _ _ h'=>h')
  refine wpAny_bind (wpAny_mono h₀ (fun _ s₂ h₂=>wpAny_bind (wpAny_mono h₂ (fun ok s₃ h₃=>?_) fun _ _ h'=>h')) fun _ _ h'=>h')
  cases ok with
  | false=>exact wpAny_pure ⟨rfl,h₃⟩
  | true =>
   exact wpAny_bind (wpAny_bind (wpAny_mono h₃ (fun x s₄ h₄=>wpAny_bind (wpAny_mono h₄ (fun _ s₅ h₅=>wpAny_pure (wpAny_pure ⟨rfl,h₅⟩)) fun _ _ h'=>h')) fun _ _ h'=>h'))
end
structure CompScopeG(sc scope:Scope)(N:List Str)(xs:List Str)(caps:List (Str×Nat)):Prop where
 cell:∀y∈scope.names,y.2≠.cell
 kind:scope.kind=.function
 names:∀y∈scope.names,y.2=.local->scope.names.lookup y.1=some .local
 free:∀y∈scope.names,y.2=.free->sc.names.lookup y.1=some .cell\/sc.names.lookup y.1=some .free
 cap:∀p∈caps,N[p.2]?=some p.1/\(p.1,NameKind.free)∈scope.names/\sc.names.lookup p.1≠some .local
 uniq:∀p∈caps,∀z∈scope.names,z.1=p.1->z.2=.free
def compCxG(X:Cx)(xs:List Str)(caps:List (Str×Nat))(scope:Scope)(cl:List (Str×Addr))(C:Addr)(s:Shared)(H:Hp)(ex:List Addr):Cx :=
 { X with N:=xs++caps.map (·.1),s₀:=s,H₀:=H,env:=compEnvC scope cl C X.env,outer:=X.stack,ex:=ex,fn:=fun _=>false,pn:=[],xe:=fun _ _=>False }
abbrev capσ(σ:St)(n:Nat)(caps:List (Str×Nat)):St:=List.replicate n none++caps.map fun p=>(σ[p.2]?).join
def tCompG(wi:TI)(g:TG)(tt:TT)(te:TE)(n:Nat)(caps:List (Str×Nat)):TE:=fun σ H Q=>wi σ H fun J H1=>∃W:Nat->Nat->List V->St->Hp->Prop,(∃m,W 0 m [] (capσ σ n caps) H1)/\∀i m ys σ' H,W i m ys σ' H →
 ys.length<=sizeLine/\((J.stop i H/\∀p,H p=none->Q (.ref p) (upd H p (.lst ys))) ∨
 (J.go i H/\∀x H',J.yld i H x H'->g x σ' H' fun σ2 H2=>tt σ2 H2 fun ok H3=>if ok=true then te σ2 H3 fun y H4=>∃m',m'<m/\W (i+1) m' (ys++[y]) σ2 H4 else ∃m',m'<m/\W (i+1) m' ys σ2 H3))
section
variable{X:Cx}{elt iter tg:Expr}{xs:List Str}{pos:Pos}{ifs:List Expr}{scope:Scope}{caps:List (Str×Nat)}{wi:TI}{g:TG}{tt:TT}{te:TE}
theorem comp_invG{pins:Z3}{σ:St}{H:Hp}{s s':Shared}{cl:List (Str×Addr)}{C:Addr}{fp:List Addr}(S:CompScopeG X.env.scope scope X.N xs caps)(hu:∀p∈caps,∀z∈scope.names,z.1=p.1->z.2=.free)
  (I:Inv X pins σ H s) (hcl:∀y c,cl.lookup y=some c->X.env.cells.lookup y=some c) (hhas:∀y,(y,NameKind.free)∈scope.names->∃c,cl.lookup y=some c)
  (hf:∀b∈fp,FpOk X pins H b) (hlt:∀b∈fp,b<s.heap.objs.size) (hC:s.heap.objs.size<=C) (ho:s'.os=s.os) (hg:s'.gens=s.gens) (hk:∀b o,s.heap.get? b=some o->s'.heap.get? b=some o) (hn:s'.heap.Ns C (fun _=>none)) :
  Inv (compCxG X xs caps scope cl C s H fp) [] (capσ σ xs.length caps) H s':=by
 have cellK:∀y c,cl.lookup y=some c->∃v,s'.heap.IsCell c v:=fun y c e=>by
  obtain ⟨v,o,q,d⟩:=I.cell y c (hcl y c e)
  exact ⟨v,o,hk _ _ q,d⟩
 refine ⟨⟨I.ok.mod,S.kind,I.ok.glob,I.ok.blt,hC,fun y z c h1 h2=>I.ok.inj y z c (hcl y c h1) (hcl z c h2),fun y hy=>hhas y (relabel_mem S.cell hy),fun y c z _=>absurd z Bool.false_ne_true,I.ok.hd,I.ok.frames,.inl rfl,fun b hb=>⟨Nat.ne_of_lt (Nat.lt_of_lt_of_le (hlt b hb) hC),fun y c e=>(hf b hb).2.2.2.2.1 y c (hcl y c e)⟩,
  I.bs,Nat.le_trans I.ok.bsz I.sz,fun b o e hb=>?_,fun b hb hm=>?_,I.stack,I.stkFree⟩,ho,by rw [hg];exact I.bare,Un.kept hk,⟨_,hn,fun i y v h1 h2 h3=>?_⟩,fun y c e=>cellK y c e,I.hok.fresh hC,fun y c e=>I.freeC y c (hcl y c e),fun p hp=>absurd (show p∈([]:Z3) from hp) (by simp),I.hok.kept hk,?_⟩
 ·rcases (hf b hb).2.2.2.1 with z | z
  ·exact I.ok.noex b o e z
  ·exact absurd (Nat.lt_of_lt_of_le (Heap.lt_size e) (Nat.le_trans I.ok.bsz z)) (Nat.lt_irrefl _)
 ·rcases List.mem_cons.mp (I.stkSub b hm) with z | z
  ·exact (hf b hb).2.1 z
  ·exact (hf b hb).2.2.1 z
 ·have hi:¬ i<xs.length:=fun hi=>by
   have h2':(capσ σ xs.length caps)[i]?=some (some v):=h2
   rw [List.getElem?_append_left (by rw [List.length_replicate];exact hi),List.getElem?_replicate] at h2'
   split at h2'<;>cases h2'
  ·have h1':(caps.map (·.1))[i-xs.length]?=some y:=by
    have h1':(xs++caps.map (·.1))[i]?=some y:=h1
    rw [List.getElem?_append_right (by omega)] at h1'
    exact h1'
   rw [List.getElem?_map] at h1'
   have h2':(caps.map fun p=>(σ[p.2]?).join)[i-xs.length]?=some (some v):=by
    have h2':(capσ σ xs.length caps)[i]?=some (some v):=h2
    rw [List.getElem?_append_right (by rw [List.length_replicate];omega),List.length_replicate] at h2'
    exact h2'
   rw [List.getElem?_map] at h2'
   cases hp:caps[i-xs.length]? with
   | none=>rw [hp] at h1';cases h1'
   | some p =>
    rw [hp] at h1' h2'
    have ey:p.1=y:=Option.some.inj h1'
    have ev:(σ[p.2]?).join=some v:=Option.some.inj h2'
    subst ey
    have hmem:p∈caps:=List.mem_of_getElem? hp
    obtain ⟨c1,c2,c3⟩:=S.cap p hmem
    have eσ:σ[p.2]?=some (some v):=by
     cases q:σ[p.2]? with
     | none=>rw [q] at ev;cases ev
     | some w=>rw [q] at ev;have:w=some v:=ev;rw [this]
    have hfr:=S.free _ c2 rfl
    have hv:Vis X.env.scope p.1:=hfr.elim (fun z=>.inr (.inl z)) (fun z=>.inr (.inr z))
    obtain ⟨m,_,hl⟩:=I.loc
    obtain ⟨u,r,l⟩:=hl p.2 p.1 v c1 eσ hv
    refine ⟨u,r,.inr ⟨relabel_kind (scope:=scope) (env:=X.env) c2 (hu p hmem),?_⟩⟩
    obtain ⟨c,ec⟩:=hhas p.1 c2
    refine ⟨c,ec,?_⟩
    rcases l with ⟨z,_⟩ | ⟨_,c',ec',hcell⟩
    ·exact absurd z c3
    ·have:c'=c:=by rw [hcl _ _ ec] at ec';exact (Option.some.inj ec').symm
     subst this
     obtain ⟨o,q,d⟩:=hcell
     exact ⟨o,hk _ _ q,d⟩
 ·simp [compCxG,capσ]
theorem pe_compG(hc:X.calm=true)(S:CompScopeG X.env.scope scope X.N xs caps)(hi:PI X tg iter wi)(hg:∀cl C s H fp,PG (compCxG X xs caps scope cl C s H fp) tg g)
  (ht:∀cl C s H fp,PIf (compCxG X xs caps scope cl C s H fp) ifs tt) (he:∀cl C s H fp,PE (compCxG X xs caps scope cl C s H fp) elt te)
  (hs:∀v,foldedSetIterable iter X.env v=pure v:=by intro _;rfl):PE X (.ListComp elt [⟨tg,iter,ifs,0⟩] scope pos) (tCompG wi g tt te xs.length caps):=by
 intro pins s σ H Q I h
 obtain ⟨cl,hclos,hcl,hhas⟩:=closure_ok (scope:=scope) (env:=X.env) fun y hy hf=>I.ok.has y.1 (S.free y hy hf)
 rw [eval_ListComp]
 refine wpAny_comprehension_free (use:=none) rfl hs hclos S.kind S.names (thn (hi pins s σ H _ I h) fun v s1 h1=>thn h1 fun itv s2 h2=>?_)
 obtain ⟨it,fp,tn,J,H2,rfl,I2,T,st2,f2,W,⟨m0,w0⟩,turn⟩:=h2
 refine wpAny_newObj_type (wpAny_newFunctionEnv S.cell (by intro y hy;simp at hy) (fun h₁ hns₁ hsb₁=>?_) S.kind)
 dsimp only at hns₁ hsb₁ ⊢
 generalize hHp:s2.heap.push { cls:=.type "list",dict:=none,data:=.seq ([]:List Value).toArray }=Hq at hns₁ hsb₁ ⊢
 have hCe:Hq.objs.size=s2.heap.objs.size+1:=by rw [<-hHp,Heap.size_push]
 have hDC:s2.heap.objs.size≠Hq.objs.size:=by rw [hCe];exact Nat.ne_of_lt (Nat.lt_succ_self _)
 have hC:s2.heap.objs.size<=Hq.objs.size:=by rw [hCe];exact Nat.le_succ _
 have old:∀b o,s2.heap.get? b=some o->h₁.get? b=some o:=fun b o e =>
  hsb₁.extBut b o (Nat.ne_of_lt (Nat.lt_of_lt_of_le (Heap.lt_size e) hC)) (Heap.get?_push_of_some _ (hHp ▸ Heap.get?_push_of_some _ e))
 have hacc:h₁.get? s2.heap.objs.size=some (lob [] 0):=hsb₁.extBut _ _ hDC (Heap.get?_push_of_some _ (hHp ▸ Heap.get?_push_size _ rfl))
 have hlt:∀b∈fp,b<s2.heap.objs.size:=fun b hb=>by obtain ⟨o,e,_⟩:=T.obj 0 _ st2 b hb;exact Heap.lt_size e
 generalize hY:compCxG X xs caps scope cl Hq.objs.size s2 H2 fp=Y
 have PEY:PE Y elt te:=hY ▸ he cl _ s2 H2 fp
 have PIY:PIf Y ifs tt:=hY ▸ ht cl _ s2 H2 fp
 have PGY:PG Y tg g:=hY ▸ hg cl _ s2 H2 fp
 have I3:Inv Y [] (capσ σ xs.length caps) H2 { s2 with heap:=h₁,toks:=s2.toks+([]:List (Str×Value)).length }:=by
  rw [<-hY]
  exact comp_invG S S.uniq I2 hcl hhas f2 hlt hC rfl rfl old (by simpa using hns₁)
 have eYenv:Y.env=compEnvC scope cl Hq.objs.size X.env:=by rw [<-hY];rfl
 have eYloc:Y.env.locals=Hq.objs.size:=by rw [eYenv];rfl
 have eYfs:Y.fs=frs X.stack:=by rw [<-hY];rfl
 have eYprog:Y.prog=X.prog:=by rw [<-hY];rfl
 have eYw:Y.w=X.w:=by rw [<-hY];rfl
 have eYK:Y.K=X.K:=by rw [<-hY];rfl
 have eYA:Y.A=X.A:=by rw [<-hY];rfl
 have eYc:Y.calm=true:=by rw [<-hY];exact hc
 have eYex:Y.ex=fp:=by rw [<-hY];rfl
 have eYs:Y.s₀=s2:=by rw [<-hY];rfl
 have eYH:Y.H₀=H2:=by rw [<-hY];rfl
 have eYpn:Y.pn=[]:=by rw [<-hY];rfl
 have eYcell:∀y c,Y.env.cells.lookup y=some c->X.env.cells.lookup y=some c:=fun y c e=>hcl y c (by rw [eYenv] at e;exact e)
 have eYxe:∀e s',¬ Y.xe e s':=fun e s' z=>by rw [<-hY] at z;exact z
 have stkX:∀b∈frs X.stack,b<s2.heap.objs.size:=fun b hb=>by
  rcases List.mem_cons.mp (I2.stkSub b hb) with z | z
  ·rw [z];exact I2.lt
  ·refine Nat.not_le.mp fun hle=>I2.nofs hle z
 have cellX:∀y c,X.env.cells.lookup y=some c->c<s2.heap.objs.size:=fun y c e=>by obtain ⟨v,q⟩:=I2.cell y c e;exact q.lt
 have pinX:∀p∈X.pn++pins,p.1<s2.heap.objs.size:=fun p hp=>Heap.lt_size (I2.pin p hp).1
 have fpY:∀{H':Hp} {its:List Value} {k:Nat},(∀b∈fp,H' b=none)->∀b∈fp,FpOk Y [(s2.heap.objs.size,lob its k)] H' b:=fun {H' its k} hn b hb=>by
  refine ⟨hn b hb,by rw [eYloc];exact Nat.ne_of_lt (Nat.lt_of_lt_of_le (hlt b hb) hC),?_,.inl (by rw [eYex];exact hb),fun y c e=>(f2 b hb).2.2.2.2.1 y c (eYcell y c e),fun p hp=>?_⟩
  ·rw [eYfs]
   intro hm
   rcases List.mem_cons.mp (I2.stkSub b hm) with z | z
   ·exact (f2 b hb).2.1 z
   ·exact (f2 b hb).2.2.1 z
  ·rw [eYpn] at hp
   have e:p=(s2.heap.objs.size,lob its k):=by simpa using hp
   rw [e]
   exact Nat.ne_of_gt (hlt b hb)
 have pinD:∀{H':Hp} {σ':St} {s':Shared} {its:List Value} {k:Nat},Inv Y [] σ' H' s'->s'.heap.get? s2.heap.objs.size=some (lob its k)->H' s2.heap.objs.size=none->Inv Y [(s2.heap.objs.size,lob its k)] σ' H' s':=fun {H' σ' s' its k} I' e n =>
  I'.pins_of fun p hp=>by
   have ep:p=(s2.heap.objs.size,lob its k):=by simpa using hp
   subst ep
   refine ⟨e,n,by rw [eYloc];exact hDC,?_,fun v z=>?_⟩
   ·rw [eYfs];exact fun hm=>Nat.lt_irrefl _ (stkX _ hm)
   ·have z':Data.seq its.toArray k=Data.cell v:=z
    cases z'
 have loop:codeAny (model X.prog X.w) X.A (.compLoop (.ListComp elt [⟨tg,iter,ifs,0⟩] scope pos) 0 (.ref it) (.ref s2.heap.objs.size) (compEnvC scope cl Hq.objs.size X.env))
   (compPost (model X.prog X.w) X.A X.xe none (EP X pins σ Q) (.ref s2.heap.objs.size) Hq.objs.size) { s2 with heap:=h₁,toks:=s2.toks+([]:List (Str×Value)).length }:=by
  refine loop_gen (fun n s'=>∃i σx H' ys its k,Inv Y [(s2.heap.objs.size,lob its k)] σx H' s'/\tn i s'.heap/\(∀b∈fp,H' b=none)/\Vals ys its/\W i n ys σx H') ?_ m0
   ⟨0,capσ σ xs.length caps,H2,[],[],0,pinD I3 hacc (I2.hok.fresh (Nat.le_refl _)),T.keep _ _ _ st2 fun b hb o e=>old b o e,fun b hb=>(f2 b hb).1,.nil,w0⟩
  rintro n s3 ⟨i,σx,H3,ys,its,k,J3,st3,fr3,rv,w3⟩
  obtain ⟨hz,hcase⟩:=turn i n ys σx H3 w3
  rcases hcase with ⟨stop,q⟩ | ⟨go,step⟩
  ·have hd:=T.done Y eYprog eYw eYK eYc i _ s3 _ H3 (notedBy (model X.prog X.w) X.A (compEnvC scope cl Hq.objs.size X.env) fun e s'=>compPost (model X.prog X.w) X.A X.xe none (EP X pins σ Q) (.ref s2.heap.objs.size) Hq.objs.size (.error e) s') J3 (fpY fr3) st3 stop
   rw [eYA] at hd
   refine thn hd fun r s4 ⟨hr,J4⟩=>?_
   subst hr
   obtain ⟨m4,hn4,_⟩:=J4.loc
   refine ⟨m4,by rw [<-eYloc];exact hn4,fun h5 sb=>?_⟩
   have hnC:H3 Hq.objs.size=none:=by rw [<-eYloc];exact J4.free
   have hk5:HOk X.prog X.w H3 h5:=HOk.but (by rw [<-eYprog,<-eYw];exact J4.hok) hnC sb
   have u5:Un (frs X.stack) fp H2 H3 s2.heap h5:=by
    have ub:=J4.base
    rw [eYfs,eYex,eYH,eYs] at ub
    exact ub.but hC sb
   have J5:Inv X pins σ H3 { s4 with heap:=h5 }:=I2.call' (s':={ s4 with heap:=h5 }) (ch:=fp) (by have:=J4.os;rw [eYs] at this;exact this) u5 hk5 J4.bare fun b hb=>⟨(f2 b hb).2.2.2.1,(f2 b hb).2.1,(f2 b hb).2.2.2.2.1,(f2 b hb).2.2.2.2.2⟩
   have hp4:=J4.pin (s2.heap.objs.size,lob its k) (List.mem_append_right _ List.mem_cons_self)
   have hD5:h5.get? s2.heap.objs.size=some (lob its k):=(sb.2 _ hDC).trans hp4.1
   refine ⟨.ref s2.heap.objs.size,upd H3 s2.heap.objs.size (.lst ys),?_,rfl,q _ hp4.2.1⟩
   exact J5.track hp4.2.1 I2.sz (Nat.ne_of_gt I2.lt) (fun y c e=>Nat.ne_of_lt (cellX y c e)) (fun p hp=>Nat.ne_of_lt (pinX p hp)) (show ObjOk X.prog X.w _ h5 _ (.lst ys) from ⟨hz,its,k,rv,hD5⟩)
  ·have hd:=T.item Y eYprog eYw eYK eYc i _ s3 _ H3 (notedBy (model X.prog X.w) X.A (compEnvC scope cl Hq.objs.size X.env) fun e s'=>compPost (model X.prog X.w) X.A X.xe none (EP X pins σ Q) (.ref s2.heap.objs.size) Hq.objs.size (.error e) s') J3 (fpY fr3) st3 go
   rw [eYA] at hd
   refine thn hd fun r s4 ⟨u,hr,h4⟩=>?_
   subst hr
   refine thn h4 fun _ s5 ⟨v4,H4,J4,r4,y4,st5,fr4⟩=>?_
   have J4':=J4.pinned (fp:=fp) (fpY fr4) (T.obj _ _ st5)
   have ha:=PGY _ s5 σx H4 v4 u _ J4' r4 (step v4 H4 y4)
   rw [eYprog,eYw,eYA,eYenv] at ha
   refine wpAny_mono ha (fun _ s5' ⟨σ5,H5,J5',q5⟩=>?_) fun e s' z=>(eYxe _ _ z).elim
   have ht5:=PIY _ s5' σ5 H5 _ J5' q5
   rw [eYprog,eYw,eYA,eYenv] at ht5
   refine wpAny_mono ht5 (fun ok s6 ⟨H6,J6,q6⟩=>?_) fun e s' z=>(eYxe _ _ z).elim
   have back:∀{H7:Hp} {s7:Shared},Inv Y ([(s2.heap.objs.size,lob its k)]++pinsAt fp s5.heap) σ5 H7 s7->tn (i+1) s7.heap/\∀b∈fp,H7 b=none:=fun {H7 s7} J7 =>
    ⟨T.keep _ _ _ st5 fun b hb o e=>(J7.pin (b,o) (List.mem_append_right _ (List.mem_append_right _ (mem_pinsAt hb e)))).1,fun b hb=>by
     obtain ⟨o,e,d⟩:=T.obj _ _ st5 b hb
     exact (J7.pin (b,o) (List.mem_append_right _ (List.mem_append_right _ (mem_pinsAt hb e)))).2.1⟩
   cases ok with
   | false =>
    rw [if_neg Bool.false_ne_true] at q6
    rw [if_neg Bool.false_ne_true]
    obtain ⟨m',hm',w6⟩:=q6
    exact ⟨m',hm',i+1,σ5,H6,ys,its,k,J6.unpinned,(back J6).1,(back J6).2,rv,w6⟩
   | true =>
    rw [if_pos rfl] at q6
    rw [if_pos rfl]
    have he6:=PEY _ s6 _ H6 _ J6 q6
    rw [eYprog,eYw,eYA,eYenv] at he6
    refine wpAny_mono he6 (fun u7 s7 ⟨v7,H7,J7,r7,m',hm',w7⟩=>?_) fun e s' z=>(eYxe _ _ z).elim
    obtain ⟨st7,fr7⟩:=back J7
    have hp7:=(J7.unpinned).pin (s2.heap.objs.size,lob its k) (List.mem_append_right _ List.mem_cons_self)
    have hl:=rv.length
    refine append_at (hsz:=by show its.toArray.size<=sizeLine;rw [List.size_toArray];omega) hp7.1 fun h8 sb8 hD8=>?_
    have J7':Inv Y [] σ5 H7 s7:=J7.unpinned.pins_of fun p hp=>absurd hp (by simp)
    have J8:Inv Y [] σ5 H7 { s7 with heap:=h8 }:=J7'.turned (t':=s7.toks) (it:=s2.heap.objs.size) (fun b o hb e=>(sb8.2 b hb).trans e) hp7.2.1 (by rw [eYloc];exact hDC) (.inr (by rw [eYs];exact Nat.le_refl _)) (fun y c e=>Nat.ne_of_lt (cellX y c (eYcell y c e))) (fun p hp=>by rw [eYpn] at hp;simp at hp)
    have hD8':h8.get? s2.heap.objs.size=some (lob (its++[u7]) (k+1)):=by rw [hD8];simp [lob]
    exact ⟨m',hm',i+1,σ5,H7,ys++[v7],its++[u7],k+1,pinD J8 hD8' hp7.2.1,T.keep _ _ _ st7 fun b hb o e=>(sb8.2 b (Nat.ne_of_lt (hlt b hb))).trans e,fr7,rv.append (.cons r7 .nil),w7⟩
 exact codeAny_compStart_list loop (T.self X.A 0 _ _ _ (T.keep _ _ _ st2 fun b hb o e=>old b o e) loop)
theorem ps_compG{k0:Nat}{y0:Str}{py spos:Pos}(hc:X.calm=true)(S:CompScopeG X.env.scope scope X.N xs caps)(hN0:X.N.Nodup)(hi0:X.N[k0]?=some y0)(hx0:Loc X.env.scope y0)(hi:PI X tg iter wi)(hg:∀cl C s H fp,PG (compCxG X xs caps scope cl C s H fp) tg g)
  (ht:∀cl C s H fp,PIf (compCxG X xs caps scope cl C s H fp) ifs tt) (he:∀cl C s H fp,PE (compCxG X xs caps scope cl C s H fp) elt te)
  (hsw:swapsWith (.ListComp elt [⟨tg,iter,ifs,0⟩] scope pos) (some (.Name y0 py)) spos.line X.env=pure true)
  (hf0:X.fn y0=true\/X.env.scope.names.lookup y0=some .local)
  (hs:∀v,foldedSetIterable iter X.env v=pure v):PS X (.Assign [.Name y0 py] (.ListComp elt [⟨tg,iter,ifs,0⟩] scope pos) spos) (tAsg (tCompG wi g tt te xs.length caps) (gName k0)):=by
 intro pins s σ H DD I h
 obtain ⟨cl,hclos,hcl,hhas⟩:=closure_ok (scope:=scope) (env:=X.env) fun y hy hf=>I.ok.has y.1 (S.free y hy hf)
 rw [exec_Assign_Name_used _ _ _ _ hsw]
 refine wpAny_bind (wpAny_standAt (wpAny_bind ?_))
 show wpAny _ X.A (do let _ ← comprehension (.ListComp elt [⟨tg,iter,ifs,0⟩] scope pos) scope X.env _ (newList []) false (eval iter X.env) (some (assign (.Name y0 py) X.env))) _ _ s
 refine wpAny_bind (wpAny_mono (wpAny_comprehension_free (use:=some (assign (.Name y0 py) X.env)) (Q:=fun _ s'=>SP X pins DD .next s') rfl hs hclos S.kind S.names (thn (hi pins s σ H _ I h) fun v s1 h1=>thn h1 fun itv s2 h2=>?_)) (fun _ s' hq=>wpAny_pure (wpAny_pure hq)) fun _ _ e=>e)
 obtain ⟨it,fp,tn,J,H2,rfl,I2,T,st2,f2,W,⟨m0,w0⟩,turn⟩:=h2
 refine wpAny_newObj_type (wpAny_newFunctionEnv S.cell (by intro y hy;simp at hy) (fun h₁ hns₁ hsb₁=>?_) S.kind)
 dsimp only at hns₁ hsb₁ ⊢
 generalize hHp:s2.heap.push { cls:=.type "list",dict:=none,data:=.seq ([]:List Value).toArray }=Hq at hns₁ hsb₁ ⊢
 have hCe:Hq.objs.size=s2.heap.objs.size+1:=by rw [<-hHp,Heap.size_push]
 have hDC:s2.heap.objs.size≠Hq.objs.size:=by rw [hCe];exact Nat.ne_of_lt (Nat.lt_succ_self _)
 have hC:s2.heap.objs.size<=Hq.objs.size:=by rw [hCe];exact Nat.le_succ _
 have old:∀b o,s2.heap.get? b=some o->h₁.get? b=some o:=fun b o e =>
  hsb₁.extBut b o (Nat.ne_of_lt (Nat.lt_of_lt_of_le (Heap.lt_size e) hC)) (Heap.get?_push_of_some _ (hHp ▸ Heap.get?_push_of_some _ e))
 have hacc:h₁.get? s2.heap.objs.size=some (lob [] 0):=hsb₁.extBut _ _ hDC (Heap.get?_push_of_some _ (hHp ▸ Heap.get?_push_size _ rfl))
 have hlt:∀b∈fp,b<s2.heap.objs.size:=fun b hb=>by obtain ⟨o,e,_⟩:=T.obj 0 _ st2 b hb;exact Heap.lt_size e
 generalize hY:compCxG X xs caps scope cl Hq.objs.size s2 H2 fp=Y
 have PEY:PE Y elt te:=hY ▸ he cl _ s2 H2 fp
 have PIY:PIf Y ifs tt:=hY ▸ ht cl _ s2 H2 fp
 have PGY:PG Y tg g:=hY ▸ hg cl _ s2 H2 fp
 have I3:Inv Y [] (capσ σ xs.length caps) H2 { s2 with heap:=h₁,toks:=s2.toks+([]:List (Str×Value)).length }:=by
  rw [<-hY]
  exact comp_invG S S.uniq I2 hcl hhas f2 hlt hC rfl rfl old (by simpa using hns₁)
 have eYenv:Y.env=compEnvC scope cl Hq.objs.size X.env:=by rw [<-hY];rfl
 have eYloc:Y.env.locals=Hq.objs.size:=by rw [eYenv];rfl
 have eYfs:Y.fs=frs X.stack:=by rw [<-hY];rfl
 have eYprog:Y.prog=X.prog:=by rw [<-hY];rfl
 have eYw:Y.w=X.w:=by rw [<-hY];rfl
 have eYK:Y.K=X.K:=by rw [<-hY];rfl
 have eYA:Y.A=X.A:=by rw [<-hY];rfl
 have eYc:Y.calm=true:=by rw [<-hY];exact hc
 have eYex:Y.ex=fp:=by rw [<-hY];rfl
 have eYs:Y.s₀=s2:=by rw [<-hY];rfl
 have eYH:Y.H₀=H2:=by rw [<-hY];rfl
 have eYpn:Y.pn=[]:=by rw [<-hY];rfl
 have eYcell:∀y c,Y.env.cells.lookup y=some c->X.env.cells.lookup y=some c:=fun y c e=>hcl y c (by rw [eYenv] at e;exact e)
 have eYxe:∀e s',¬ Y.xe e s':=fun e s' z=>by rw [<-hY] at z;exact z
 have stkX:∀b∈frs X.stack,b<s2.heap.objs.size:=fun b hb=>by
  rcases List.mem_cons.mp (I2.stkSub b hb) with z | z
  ·rw [z];exact I2.lt
  ·refine Nat.not_le.mp fun hle=>I2.nofs hle z
 have cellX:∀y c,X.env.cells.lookup y=some c->c<s2.heap.objs.size:=fun y c e=>by obtain ⟨v,q⟩:=I2.cell y c e;exact q.lt
 have pinX:∀p∈X.pn++pins,p.1<s2.heap.objs.size:=fun p hp=>Heap.lt_size (I2.pin p hp).1
 have fpY:∀{H':Hp} {its:List Value} {k:Nat},(∀b∈fp,H' b=none)->∀b∈fp,FpOk Y [(s2.heap.objs.size,lob its k)] H' b:=fun {H' its k} hn b hb=>by
  refine ⟨hn b hb,by rw [eYloc];exact Nat.ne_of_lt (Nat.lt_of_lt_of_le (hlt b hb) hC),?_,.inl (by rw [eYex];exact hb),fun y c e=>(f2 b hb).2.2.2.2.1 y c (eYcell y c e),fun p hp=>?_⟩
  ·rw [eYfs]
   intro hm
   rcases List.mem_cons.mp (I2.stkSub b hm) with z | z
   ·exact (f2 b hb).2.1 z
   ·exact (f2 b hb).2.2.1 z
  ·rw [eYpn] at hp
   have e:p=(s2.heap.objs.size,lob its k):=by simpa using hp
   rw [e]
   exact Nat.ne_of_gt (hlt b hb)
 have pinD:∀{H':Hp} {σ':St} {s':Shared} {its:List Value} {k:Nat},Inv Y [] σ' H' s'->s'.heap.get? s2.heap.objs.size=some (lob its k)->H' s2.heap.objs.size=none->Inv Y [(s2.heap.objs.size,lob its k)] σ' H' s':=fun {H' σ' s' its k} I' e n =>
  I'.pins_of fun p hp=>by
   have ep:p=(s2.heap.objs.size,lob its k):=by simpa using hp
   subst ep
   refine ⟨e,n,by rw [eYloc];exact hDC,?_,fun v z=>?_⟩
   ·rw [eYfs];exact fun hm=>Nat.lt_irrefl _ (stkX _ hm)
   ·have z':Data.seq its.toArray k=Data.cell v:=z
    cases z'
 have loop:codeAny (model X.prog X.w) X.A (.compLoop (.ListComp elt [⟨tg,iter,ifs,0⟩] scope pos) 0 (.ref it) (.ref s2.heap.objs.size) (compEnvC scope cl Hq.objs.size X.env))
   (compPost (model X.prog X.w) X.A X.xe (some (assign (.Name y0 py) X.env)) (fun _ s'=>SP X pins DD .next s') (.ref s2.heap.objs.size) Hq.objs.size) { s2 with heap:=h₁,toks:=s2.toks+([]:List (Str×Value)).length }:=by
  refine loop_gen (fun n s'=>∃i σx H' ys its k,Inv Y [(s2.heap.objs.size,lob its k)] σx H' s'/\tn i s'.heap/\(∀b∈fp,H' b=none)/\Vals ys its/\W i n ys σx H') ?_ m0
   ⟨0,capσ σ xs.length caps,H2,[],[],0,pinD I3 hacc (I2.hok.fresh (Nat.le_refl _)),T.keep _ _ _ st2 fun b hb o e=>old b o e,fun b hb=>(f2 b hb).1,.nil,w0⟩
  rintro n s3 ⟨i,σx,H3,ys,its,k,J3,st3,fr3,rv,w3⟩
  obtain ⟨hz,hcase⟩:=turn i n ys σx H3 w3
  rcases hcase with ⟨stop,q⟩ | ⟨go,step⟩
  ·have hd:=T.done Y eYprog eYw eYK eYc i _ s3 _ H3 (notedBy (model X.prog X.w) X.A (compEnvC scope cl Hq.objs.size X.env) fun e s'=>compPost (model X.prog X.w) X.A X.xe (some (assign (.Name y0 py) X.env)) (fun _ s'=>SP X pins DD .next s') (.ref s2.heap.objs.size) Hq.objs.size (.error e) s') J3 (fpY fr3) st3 stop
   rw [eYA] at hd
   refine thn hd fun r s4 ⟨hr,J4⟩=>?_
   subst hr
   obtain ⟨m4,hn4,_⟩:=J4.loc
   show wpAny _ X.A (assign (.Name y0 py) X.env (.ref s2.heap.objs.size)) _ X.xe s4
   have hn4':s4.heap.Ns Hq.objs.size m4:=by rw [<-eYloc];exact hn4
   have hnC:H3 Hq.objs.size=none:=by rw [<-eYloc];exact J4.free
   have hk5:HOk X.prog X.w H3 s4.heap:=by rw [<-eYprog,<-eYw];exact J4.hok
   have u5:Un (frs X.stack) fp H2 H3 s2.heap s4.heap:=by
    have ub:=J4.base
    rw [eYfs,eYex,eYH,eYs] at ub
    exact ub
   have J5:Inv X pins σ H3 s4:=I2.call' (s':=s4) (ch:=fp) (by have:=J4.os;rw [eYs] at this;exact this) u5 hk5 J4.bare fun b hb=>⟨(f2 b hb).2.2.2.1,(f2 b hb).2.1,(f2 b hb).2.2.2.2.1,(f2 b hb).2.2.2.2.2⟩
   have hp4:=J4.pin (s2.heap.objs.size,lob its k) (List.mem_append_right _ List.mem_cons_self)
   have hD5:s4.heap.get? s2.heap.objs.size=some (lob its k):=hp4.1
   have J6:Inv X pins σ (upd H3 s2.heap.objs.size (.lst ys)) s4:=J5.track hp4.2.1 I2.sz (Nat.ne_of_gt I2.lt) (fun y c e=>Nat.ne_of_lt (cellX y c e)) (fun p hp=>Nat.ne_of_lt (pinX p hp)) (show ObjOk X.prog X.w _ s4.heap _ (.lst ys) from ⟨hz,its,k,rv,hD5⟩)
   have hCloc:Hq.objs.size≠X.env.locals:=Nat.ne_of_gt (Nat.lt_of_lt_of_le I2.lt hC)
   refine wpAny_assign_Name (store_ok2 (i:=k0) J6 hN0 hi0 hx0 (v:=.ref s2.heap.objs.size) rfl (fun s5 J7 ⟨a,sb,ha⟩=>?_) hf0)
   have haC:Hq.objs.size≠a:=by
    rcases ha with z | z
    ·rw [z];exact hCloc
    ·exact Nat.ne_of_gt (Nat.lt_of_lt_of_le (cellX _ _ z) hC)
   refine ⟨m4,hn4'.sameBut sb haC,fun h' sb'=>⟨_,_,J7.turned (t':=s5.toks) (it:=Hq.objs.size) (fun b o hb e=>(sb'.2 b hb).trans e) (by rw [upd_ne (Ne.symm hDC)];exact hnC) hCloc (.inr (Nat.le_trans I2.sz hC)) (fun y c e=>Nat.ne_of_lt (Nat.lt_of_lt_of_le (cellX y c e) hC)) (fun p hp=>Nat.ne_of_lt (Nat.lt_of_lt_of_le (pinX p hp) hC)),q _ hp4.2.1⟩⟩
  ·have hd:=T.item Y eYprog eYw eYK eYc i _ s3 _ H3 (notedBy (model X.prog X.w) X.A (compEnvC scope cl Hq.objs.size X.env) fun e s'=>compPost (model X.prog X.w) X.A X.xe (some (assign (.Name y0 py) X.env)) (fun _ s'=>SP X pins DD .next s') (.ref s2.heap.objs.size) Hq.objs.size (.error e) s') J3 (fpY fr3) st3 go
   rw [eYA] at hd
   refine thn hd fun r s4 ⟨u,hr,h4⟩=>?_
   subst hr
   refine thn h4 fun _ s5 ⟨v4,H4,J4,r4,y4,st5,fr4⟩=>?_
   have J4':=J4.pinned (fp:=fp) (fpY fr4) (T.obj _ _ st5)
   have ha:=PGY _ s5 σx H4 v4 u _ J4' r4 (step v4 H4 y4)
   rw [eYprog,eYw,eYA,eYenv] at ha
   refine wpAny_mono ha (fun _ s5' ⟨σ5,H5,J5',q5⟩=>?_) fun e s' z=>(eYxe _ _ z).elim
   have ht5:=PIY _ s5' σ5 H5 _ J5' q5
   rw [eYprog,eYw,eYA,eYenv] at ht5
   refine wpAny_mono ht5 (fun ok s6 ⟨H6,J6,q6⟩=>?_) fun e s' z=>(eYxe _ _ z).elim
   have back:∀{H7:Hp} {s7:Shared},Inv Y ([(s2.heap.objs.size,lob its k)]++pinsAt fp s5.heap) σ5 H7 s7->tn (i+1) s7.heap/\∀b∈fp,H7 b=none:=fun {H7 s7} J7 =>
    ⟨T.keep _ _ _ st5 fun b hb o e=>(J7.pin (b,o) (List.mem_append_right _ (List.mem_append_right _ (mem_pinsAt hb e)))).1,fun b hb=>by
     obtain ⟨o,e,d⟩:=T.obj _ _ st5 b hb
     exact (J7.pin (b,o) (List.mem_append_right _ (List.mem_append_right _ (mem_pinsAt hb e)))).2.1⟩
   cases ok with
   | false =>
    rw [if_neg Bool.false_ne_true] at q6
    rw [if_neg Bool.false_ne_true]
    obtain ⟨m',hm',w6⟩:=q6
    exact ⟨m',hm',i+1,σ5,H6,ys,its,k,J6.unpinned,(back J6).1,(back J6).2,rv,w6⟩
   | true =>
    rw [if_pos rfl] at q6
    rw [if_pos rfl]
    have he6:=PEY _ s6 _ H6 _ J6 q6
    rw [eYprog,eYw,eYA,eYenv] at he6
    refine wpAny_mono he6 (fun u7 s7 ⟨v7,H7,J7,r7,m',hm',w7⟩=>?_) fun e s' z=>(eYxe _ _ z).elim
    obtain ⟨st7,fr7⟩:=back J7
    have hp7:=(J7.unpinned).pin (s2.heap.objs.size,lob its k) (List.mem_append_right _ List.mem_cons_self)
    have hl:=rv.length
    refine append_at (hsz:=by show its.toArray.size<=sizeLine;rw [List.size_toArray];omega) hp7.1 fun h8 sb8 hD8=>?_
    have J7':Inv Y [] σ5 H7 s7:=J7.unpinned.pins_of fun p hp=>absurd hp (by simp)
    have J8:Inv Y [] σ5 H7 { s7 with heap:=h8 }:=J7'.turned (t':=s7.toks) (it:=s2.heap.objs.size) (fun b o hb e=>(sb8.2 b hb).trans e) hp7.2.1 (by rw [eYloc];exact hDC) (.inr (by rw [eYs];exact Nat.le_refl _)) (fun y c e=>Nat.ne_of_lt (cellX y c (eYcell y c e))) (fun p hp=>by rw [eYpn] at hp;simp at hp)
    have hD8':h8.get? s2.heap.objs.size=some (lob (its++[u7]) (k+1)):=by rw [hD8];simp [lob]
    exact ⟨m',hm',i+1,σ5,H7,ys++[v7],its++[u7],k+1,pinD J8 hD8' hp7.2.1,T.keep _ _ _ st7 fun b hb o e=>(sb8.2 b (Nat.ne_of_lt (hlt b hb))).trans e,fr7,rv.append (.cons r7 .nil),w7⟩
 exact codeAny_compStart_list loop (T.self X.A 0 _ _ _ (T.keep _ _ _ st2 fun b hb o e=>old b o e) loop)
end
end L2
namespace ST
open PySem PySem.SetTable
end ST
namespace ST
open PySem PySem.SetTable
end ST
namespace ST
open PySem PySem.SetTable
end ST
namespace ST
open PySem PySem.Spec PyProof.Rows
section
variable{prog:Program}{w:World}{A:Around}{E:Z5}{s:Shared}
end
end ST
namespace ST
open PySem PySem.Spec PyProof.Rows
section
variable{prog:Program}{w:World}{A:Around}{E:Z5}{s:Shared}
end
end ST
namespace ST
open PySem PySem.Spec PyProof.Rows
section
variable{prog:Program}{w:World}{A:Around}{R:Result->Shared->Prop}{s:Shared}
end
end ST
namespace PySem
section
variable{prog:Program}{w:World}{A:Around}{E:Z5}{s:Shared}
end
end PySem
namespace L2
open PySem PySem.Spec PyProof.Rows
section
variable{X:Cx}{a b c:Expr}{ta tb tc:TE}{pos:Pos}
theorem call_isinst:CallR X (.builtin "isinstance") (fun xs H Q=>∃x t c k,xs=[x,.ty c]/\TyOf X.K H x t/\PySem.W.kitOne X.K t (.type c)=some k/\Q (.bl k) H):=by
 intro pins s σ H xs us Q I r h
 obtain ⟨x,t,c,k,rfl,ty,e,q⟩:=h
 cases r with
 | cons r1 rr =>
  cases rr with
  | cons r2 r3 =>
   cases r3
   cases (show _=Value.type c from r2)
   exact isinst_ok I r1 ty e fun tk=>⟨.bl k,H,I.tok tk,rfl,q⟩
theorem range_all_get(bs:List Bool):((List.range bs.length).all fun i=>(bs[i]?).getD true)=bs.all id:=by
 rw [Bool.eq_iff_iff,List.all_eq_true,List.all_eq_true]
 constructor
 ·intro h b hb
  obtain ⟨i,hi,e⟩:=List.mem_iff_getElem.mp hb
  have:=h i (List.mem_range.mpr hi)
  rw [List.getElem?_eq_getElem hi,e] at this
  exact this
 ·intro h i hi
  have hi':=List.mem_range.mp hi
  rw [List.getElem?_eq_getElem hi']
  exact h _ (List.getElem_mem hi')
theorem call_all_bl(hc:X.calm=true):CallR X (.builtin "all") (fun xs H Q=>∃(p:Addr) (bs:List Bool),xs=[.ref p]/\SqL X.K H p (bs.map V.bl)/\Q (.bl (bs.all id)) H):=by
 intro pins s σ H xs us Q I r h
 obtain ⟨p,bs,rfl,hq,q⟩:=h
 obtain ⟨u,rfl,rx⟩:=vals1 r
 cases rx
 obtain ⟨its,rv,pl,hz⟩:=I.list hq
 have hl:=pl.isList
 have hlt:p<s.heap.objs.size:=by obtain ⟨_,e,_⟩:=hl;exact Heap.lt_size e
 have hn:its.length=bs.length:=by have:=rv.length;rw [List.length_map] at this;exact this.symm
 refine call_all_walk (wpAny_pyIter_list hl ?_)
 refine ⟨s.heap.objs.size,[s.heap.objs.size,p],[s.heap.objs.size],its.toArray.size,_,_,fun i=>(bs[i]?).getD true,rfl,Walks.list (A:=X.A.in1) (I.ok.hd hc) _ p (Nat.ne_of_lt hlt) its.toArray,⟨⟨_,Heap.get?_push_size _ rfl,rfl,rfl⟩,hl.push _⟩,fun i v s' Q' E' hP hQ=>?_,fun h' tk hk=>?_⟩
 ·have hv:its[i]?=some v:=by simpa using hP
  have hi:i<bs.length:=by rw [<-hn];exact (List.getElem?_eq_some_iff.mp hv).1
  obtain ⟨u,hu,ru⟩:=rv.get (i:=i) (x:=.bl bs[i]) (by rw [List.getElem?_map,List.getElem?_eq_getElem hi];rfl)
  rw [hv] at hu
  cases hu
  cases (show v=Value.bool bs[i] from ru)
  refine wpAny_truthy_bool ?_
  have hQ':Q' ((bs[i]?).getD true) s':=hQ
  rw [List.getElem?_eq_getElem hi] at hQ'
  exact hQ'
 ·rw [List.size_toArray,hn,range_all_get]
  refine ⟨.bl _,H,I.kept (t':=tk) fun b o e=>?_,rfl,q⟩
  exact hk b o (fun hm=>by rw [List.mem_singleton.mp hm] at e;exact Nat.lt_irrefl _ (Heap.lt_size e)) (Heap.get?_push_of_some _ e)
theorem op_isnot_bl:OpR X (compareOp .IsNot) (fun x y H Q=>∃i j,x=.bl i/\y=.bl j/\Q (.bl (!decide (i=j))) H):=by
 intro pins s σ H x y v u Q I rx ry h
 obtain ⟨i,j,rfl,rfl,q⟩:=h
 cases rx
 cases ry
 show wpAny _ _ (isSame (Value.bool i) (Value.bool j) >>= fun r=>pure (Value.bool (!r))) _ _ s
 refine wpAny_bind (wpAny_isSame_plain (by rfl) (wpAny_pure ?_))
 refine ⟨.bl (!decide (i=j)),H,I,?_,q⟩
 show _=Value.bool _
 congr 1
 cases i<;>cases j<;>rfl
theorem op_catT0:OpR X (binaryOp .Add) (fun x y H Q=>∃(a b:Addr) (ys:List V),x=.ref a/\y=.ref b/\SqT X.K H a []/\SqT X.K H b ys/\Q (.ref b) H):=by
 intro pins s σ H x y v u Q I rx ry h
 obtain ⟨a,b,ys,rfl,rfl,ha,hb,q⟩:=h
 cases rx
 cases ry
 obtain ⟨its,r1,p1,_⟩:=I.tuple ha
 obtain ⟨its2,r2,p2,_⟩:=I.tuple hb
 cases r1
 obtain ⟨⟨cls,dd,data,sl⟩,ho,hc,n,hd⟩:=id p1
 obtain ⟨⟨cls2,dd2,data2,sl2⟩,ho2,hc2,n2,hd2⟩:=id p2
 simp only at hc hd hc2 hd2
 subst hc hd hc2 hd2
 exact concat_meets ⟨_,ho,rfl⟩ ⟨_,ho2,rfl⟩ noFill_tuple_add seq_tuple_add PySem.F.slot_tuple_add PySem.F.entry_tuple_add (PySem.F.args_tuple_add_2 _ _)
  (tuple_addW0 a b ([]:List Value).toArray its2.toArray n n2 dd dd2 sl sl2 (by rfl)) ⟨ho,ho2,⟨.ref b,H,I,rfl,q⟩⟩
end
end L2
namespace PySem
open PySem.Spec PyProof.Rows
theorem noFill_tup_mul:fillsNumberSlot (.type "tuple") "mul" = pure false :=
 fillsNumberSlot_seq (id:="tuple.__mul__") (r:=some (.builtin "tuple.__rmul__")) F.slot_tuple_mul.lookup (by decide +kernel) F.slot_tuple_rmul.lookup (by decide +kernel)
theorem repeat_tup:seqRepeat? (.type "tuple")=pure (some (.builtin "tuple.__mul__")):=by
 have e1:=seqSlot_of (T:="tuple") (name:="__mul__") (id:="tuple.__mul__") F.slot_tuple_mul.lookup (by decide +kernel)
 have e2:=seqSlot_of (T:="tuple") (name:="__rmul__") (id:="tuple.__rmul__") F.slot_tuple_rmul.lookup (by decide +kernel)
 unfold seqRepeat?
 rw [e1,e2]
 rfl
theorem int_rmul_tup(a:Int)(t:Tok)(l:Addr)(o:Obj){its:Array Value}{n:Nat}(hc:o.cls=.type "tuple")(hdd:o.data=.seq its n) :
  Meets (Builtin.«int.__rmul__» ⟨[.int a t,.ref l],[]⟩) (fun _ R s=>s.heap.get? l=some o/\R (.ok (.ret Value.notImplemented)) s) :=
 .of_wp fun prog w A R s h=>by
  obtain ⟨c,d,dt,sl⟩:=o
  simp only at hc hdd
  subst hc hdd
  obtain ⟨hp,g,dr,tk,os⟩:=s
  obtain ⟨hl,h⟩:=h
  wp_walk
  exact ⟨_,rfl,h⟩
section
variable{prog:Program}{w:World}{A:Around}{E:Z5}{s:Shared}
theorem tup_mul_body{a:Addr}{o:Obj}{its:Array Value}{n:Nat}{k:Int}{t:Tok}{P:Fin->Shared->Prop}(ho:s.heap.get? a=some o)(hc:o.cls=.type "tuple")(hd:o.data=.seq its n)(hne:its.isEmpty=false)(h2:2<=k)(hz:(its.size:Int)*k<=1000000)(hk:k<=1000)
  (h:P (.done (.ret (.ref s.heap.objs.size))) { s with heap:=s.heap.push { cls:=.type "tuple",data:=.seq ((List.replicate k.toNat its).foldl (·++·) #[]) } }) (hsz:((List.replicate k.toNat its).foldl (·++·) #[]).size<=sizeLine) :
  wpAny (model prog w) A (Builtin.«tuple.__mul__» ⟨[.ref a,.int k t],[]⟩) P E s:=by
 show wpAny _ _ (asIndex (.int k t) >>= _) _ _ s
 refine wpAny_bind ?_
 unfold asIndex
 refine wpAny_bind (wpAny_pure ?_)
 dsimp only
 refine wpAny_pure ?_
 have e0:(decide (k < -(2 ^ 63))||decide (k ≥ 2 ^ 63))=false:=by
  rw [Bool.or_eq_false_iff]
  refine ⟨decide_eq_false ?_,decide_eq_false ?_⟩
  ·omega
  ·omega
 rw [e0]
 simp only [Bool.false_eq_true,if_false]
 refine wpAny_bind (wpAny_tupleItemsOf ho hd ?_)
 have e1:(its.isEmpty||k == 1)=false:=by rw [hne,Bool.false_or];simp;omega
 rw [e1]
 simp only [Bool.false_eq_true,if_false]
 have e2:(decide (k<=0)||its.isEmpty)=false:=by rw [hne,Bool.or_false];exact decide_eq_false (by omega)
 rw [e2]
 simp only [Bool.false_eq_true,if_false]
 rw [if_neg (by omega)]
 have e3:Builtin.Tuple.tupleTooMany (its.size*k)=false:=by
  unfold Builtin.Tuple.tupleTooMany
  refine decide_eq_false ?_
  have:(1000000:Int)<=(sizeLine:Int):=by decide
  omega
 rw [e3]
 simp only [Bool.false_eq_true,if_false]
 unfold Builtin.Tuple.tupleExact
 exact wpAny_bind (wpAny_newObj_type (wpAny_pure h) hsz)
theorem tup_mul_same{a:Addr}{o:Obj}{its:Array Value}{n:Nat}{t:Tok}{P:Fin->Shared->Prop}(ho:s.heap.get? a=some o)(hc:o.cls=.type "tuple")(hd:o.data=.seq its n)(h:P (.done (.ret (.ref a))) s) :
  wpAny (model prog w) A (Builtin.«tuple.__mul__» ⟨[.ref a,.int 1 t],[]⟩) P E s:=by
 show wpAny _ _ (asIndex (.int 1 t) >>= _) _ _ s
 refine wpAny_bind ?_
 unfold asIndex
 refine wpAny_bind (wpAny_pure ?_)
 dsimp only
 refine wpAny_pure ?_
 have e0:(decide ((1:Int) < -(2 ^ 63))||decide ((1:Int) ≥ 2 ^ 63))=false:=by decide
 rw [e0]
 simp only [Bool.false_eq_true,if_false]
 refine wpAny_bind (wpAny_tupleItemsOf ho hd ?_)
 have e1:(its.isEmpty||(1:Int) == 1)=true:=by simp
 rw [e1]
 simp only [if_true]
 unfold Builtin.Tuple.tupleIsExact
 refine wpAny_bind (wpAny_bind (wpAny_typeOf (T:="tuple") ⟨o,ho,hc⟩ (wpAny_pure ?_)))
 simp only [beq_self_eq_true,if_true]
 exact wpAny_bind (wpAny_rule (wpAny_pure h))
theorem mul_tup{a:Addr}{o:Obj}{its:Array Value}{n:Nat}{k:Int}{t:Tok}{Q:Z5}(ho:s.heap.get? a=some o)(hc:o.cls=.type "tuple")(hd:o.data=.seq its n)(hne:its.isEmpty=false)(h2:2<=k)(hz:(its.size:Int)*k<=1000000)(hk:k<=1000)
  (h:Q (.ref s.heap.objs.size) { s with heap:=s.heap.push { cls:=.type "tuple",data:=.seq ((List.replicate k.toNat its).foldl (·++·) #[]) } }) (hsz:((List.replicate k.toNat its).foldl (·++·) #[]).size<=sizeLine) :
  wpAny (model prog w) A (binaryOp .Mult (.ref a) (.int k t)) Q E s:=by
 have hT:s.TypeIs (.ref a) "tuple":=⟨o,ho,hc⟩
 refine wpAny_binaryOp_repeat_ref (T:="tuple") (U:="int") (by decide) hT (fun s'=>typeIs_int s' k t) noFill_tup_mul F.fills_int_mul F.slot_int_rmul repeat_tup F.slot_int_index.lookup
  (call_meets F.slot_int_rmul (typeIs_int s k t) F.entry_int_rmul (F.args_int_rmul_2 _ _) (int_rmul_tup k t a o hc hd) ⟨ho,rfl,hT,?_⟩)
 exact wpAny_call_entry F.slot_tuple_mul hT F.entry_tuple_mul (tup_mul_body ho hc hd hne h2 hz hk ⟨_,rfl,h⟩ hsz) (F.args_tuple_mul_2 _ _)
theorem mul_tup1{a:Addr}{o:Obj}{its:Array Value}{n:Nat}{t:Tok}{Q:Z5}(ho:s.heap.get? a=some o)(hc:o.cls=.type "tuple")(hd:o.data=.seq its n)(h:Q (.ref a) s):wpAny (model prog w) A (binaryOp .Mult (.ref a) (.int 1 t)) Q E s:=by
 have hT:s.TypeIs (.ref a) "tuple":=⟨o,ho,hc⟩
 refine wpAny_binaryOp_repeat_ref (T:="tuple") (U:="int") (by decide) hT (fun s'=>typeIs_int s' 1 t) noFill_tup_mul F.fills_int_mul F.slot_int_rmul repeat_tup F.slot_int_index.lookup
  (call_meets F.slot_int_rmul (typeIs_int s 1 t) F.entry_int_rmul (F.args_int_rmul_2 _ _) (int_rmul_tup 1 t a o hc hd) ⟨ho,rfl,hT,?_⟩)
 exact wpAny_call_entry F.slot_tuple_mul hT F.entry_tuple_mul (tup_mul_same ho hc hd ⟨_,rfl,h⟩) (F.args_tuple_mul_2 _ _)
end
end PySem
namespace L2
open PySem PySem.Spec PyProof.Rows
inductive D where
 | non | bl (b:Bool) | int (i:Int) | str (x:Str) | tup (l:List D) | lst (l:List D)
section
variable{X:Cx}
theorem op_repT:OpR X (binaryOp .Mult) (fun x y H Q=>∃(p:Addr) (k:Int) (xs:List V),x=.ref p/\y=.int k/\SqT X.K H p xs/\xs≠[]/\2<=k/\k<=1000/\xs.length<=1000/\∀l,H l=none->Q (.ref l) (upd H l (.tup (List.replicate k.toNat xs).flatten))):=by
 intro pins s σ H x y v u Q I rx ry h
 obtain ⟨p,k,xs,rfl,rfl,hq,hne,h2,hk,hx,q⟩:=h
 cases rx
 obtain ⟨t,rfl⟩:=ry
 obtain ⟨its,rv,⟨o,ho,hc,n,hd⟩,_⟩:=I.tuple hq
 have hl:=rv.length
 have hnew:(List.replicate k.toNat its.toArray).foldl (·++·) #[]=(List.replicate k.toNat its).flatten.toArray:=by
  have:=foldl_rep its k.toNat []
  rw [List.nil_append] at this
  exact this
 have hsz:(List.replicate k.toNat its).flatten.length<=1000000:=by
  rw [len_rep]
  exact Nat.le_trans (Nat.mul_le_mul (show k.toNat<=1000 by omega) (show its.length<=1000 by omega)) (by decide)
 have hline:(1000000:Nat)<=sizeLine:=by decide
 refine mul_tup ho hc hd ?_ h2 ?_ hk ?_ ?_
 ·have:its≠[]:=fun z=>hne (by cases xs with | nil=>rfl | cons a r=>rw [z] at hl;cases hl)
  simpa using this
 ·rw [List.size_toArray]
  have:=Int.mul_le_mul (show (its.length:Int)<=1000 by omega) hk (by omega) (by omega)
  omega
 ·rw [hnew]
  refine ⟨.ref s.heap.objs.size,_,I.laid (t':=s.toks) (o:=.tup (List.replicate k.toNat xs).flatten) (fun b ob q=>Heap.get?_push_of_some _ q) (Nat.le_refl _) ?_,rfl,q _ (I.hok.fresh (Nat.le_refl _))⟩
  refine ⟨?_,_,rv.rep k.toNat,IsTup.new _ _⟩
  rw [len_rep] at hsz ⊢
  rw [<-hl] at hsz
  omega
 ·rw [hnew,List.size_toArray];omega
end
end L2
namespace HT
open PySem PySem.Spec PyProof.Rows L2
section
variable{prog:Program}{w:World}{A:Around}{E:Z5}{s:Shared}
theorem getItem_tuple_all{t sl:Addr}{items:Array Value}{vl vu:Value}{lo hi:Option Int}{Q:Z5}(ht:IsTup s.heap t items)(hs:s.heap.IsSliceOf sl vl vu .none)(pl:IsPart vl lo)(pu:IsPart vu hi)
  (h1:sIx items.size 0 lo=0) (h2:sIx items.size items.size hi=items.size) (h:Q (.ref t) s):wpAny (model prog w) A (getItem (.ref t) (.ref sl)) Q E s:=by
 obtain ⟨os,hos,hcs,hds⟩:=id hs
 have hTs:s.TypeIs (.ref sl) "slice":=⟨os,hos,hcs⟩
 unfold getItem
 try with_reducible refine wpAny_holding ?_
 first | refine wpAny_bind (wpAny_pure ?_) | skip
 refine wpAny_bind (wpAny_sequenceKey ht.typeIs (by decide) ?_)
 refine wpAny_bind (wpAny_callSpecial?_slot (name:=Str.ofString "__getitem__") ht.typeIs PyProof.Rows.slot_tuple_getitem
  (wpAny_call_entry PyProof.Rows.slot_tuple_getitem ht.typeIs entry_tuple_getitem ?_ (args_tuple_getitem _ _)))
 show wpAny _ _ (Builtin.Tuple.tupleItemsOf (.ref t) >>= _) _ _ s
 refine wpAny_bind (tupleItemsOf_ ht ?_)
 refine wpAny_bind (wpAny_typeOf hTs ?_)
 rw [if_pos (by decide)]
 refine wpAny_bind (sliceApplied_gen hs pl pu ?_)
 rw [h1,h2]
 show wpAny _ _ (if ((((0:Nat):Int) == 0&&(1:Int) == 1&&(items.size-0) == items.size)=true) then _ else _) _ _ s
 rw [if_pos (by simp)]
 unfold Builtin.Tuple.tupleIsExact
 refine wpAny_bind (wpAny_bind (wpAny_typeOf ht.typeIs (wpAny_pure ?_)))
 simp only [beq_self_eq_true,if_true]
 refine wpAny_bind (wpAny_rule ?_)
 first
  | exact wpAny_pure ⟨_,rfl,wpAny_pure h⟩
  | exact wpAny_bind (wpAny_pure (wpAny_pure ⟨_,rfl,wpAny_pure h⟩))
end
end HT
namespace L2
open PySem PySem.Spec PyProof.Rows
theorem sl_tup_all{X:Cx}:SlR X (fun x lo hi H Q=>∃(a:Addr) (xs:List V),x=.ref a/\SqT X.K H a xs/\HT.sIx xs.length 0 lo=0/\HT.sIx xs.length xs.length hi=xs.length/\Q (.ref a) H):=by
 intro pins s σ H x v vl vu lo hi sl Q I rx hs pl pu h
 obtain ⟨a,xs,rfl,hx,h1,h2,q⟩:=h
 cases rx
 obtain ⟨its,r,ht,hz⟩:=I.tuple hx
 have hlen:its.toArray.size=xs.length:=by rw [List.size_toArray];exact r.length.symm
 refine ⟨"tuple",_,PyProof.Rows.slot_tuple_getitem.lookup,ht.typeIs,?_⟩
 exact HT.getItem_tuple_all ht hs pl pu (by rw [hlen];exact h1) (by rw [hlen];exact h2) ⟨.ref a,H,I,rfl,q⟩
end L2
namespace L2
open PySem PySem.Spec PyProof.Rows
mutual
def D.py:D->PyData
 | .non=>.none
 | .bl b=>.bool b
 | .int i=>.int i
 | .str x=>.str x
 | .tup l=>.tuple (D.pys l)
 | .lst l=>.list (D.pys l)
def D.pys:List D->List PyData
 | []=>[]
 | d::l=>d.py::D.pys l
end
mutual
def D.fit:Nat->D->Bool
 | _,.non=>true
 | _,.bl _=>false
 | _,.int _=>true
 | _,.str x=>PyData.strOk x
 | 0,.tup _=>false
 | n+1,.tup l=>D.fits n l
 | 0,.lst _=>false
 | n+1,.lst l=>D.fits n l
def D.fits:Nat->List D->Bool
 | _,[]=>true
 | n,d::l=>d.fit n&&D.fits n l
end
theorem D.fits_iff{n:Nat}:∀{l:List D},D.fits n l=true↔∀d∈l,d.fit n=true
 | []=>by simp [D.fits]
 | d::l=>by simp [D.fits,D.fits_iff (l:=l)]
mutual
theorem D.lay:∀{n:Nat} {d:D},d.fit n=true->d.py.canLay0=true/\d.py.depth<=n
 | _,.non,_=>⟨rfl,Nat.zero_le _⟩
 | _,.bl _,h=>by simp [D.fit] at h
 | _,.int _,_=>⟨rfl,Nat.zero_le _⟩
 | _,.str x,h=>⟨by simpa [D.fit,D.py,PyData.canLay0] using h,Nat.zero_le _⟩
 | 0,.tup _,h=>by simp [D.fit] at h
 | 0,.lst _,h=>by simp [D.fit] at h
 | n+1,.tup l,h=>by
  have h':D.fits n l=true:=by simpa [D.fit] using h
  obtain ⟨a,b⟩:=D.lays h'
  exact ⟨by simpa [D.py,PyData.canLay0] using a,by simp only [D.py,PyData.depth];omega⟩
 | n+1,.lst l,h=>by
  have h':D.fits n l=true:=by simpa [D.fit] using h
  obtain ⟨a,b⟩:=D.lays h'
  exact ⟨by simpa [D.py,PyData.canLay0] using a,by simp only [D.py,PyData.depth];omega⟩
theorem D.lays:∀{n:Nat} {l:List D},D.fits n l=true->PyData.canLayAll0 (D.pys l)=true/\PyData.depthAll (D.pys l)<=n
 | _,[],_=>⟨rfl,Nat.zero_le _⟩
 | n,d::l,h=>by
  simp only [D.fits,Bool.and_eq_true] at h
  obtain ⟨a,b⟩:=D.lay h.1
  obtain ⟨c,e⟩:=D.lays h.2
  exact ⟨by simp [D.pys,PyData.canLayAll0,a,c],by simp only [D.pys,PyData.depthAll];omega⟩
end
section
variable{X:Cx}
theorem read_eq{h:Heap}{v:Value}{d:PyData}{as:List Addr}(hl:d.canLay0=true)(r:Reads h v d as):SeqAt.readOf h v=d:=by
 have hx:∃d as,Reads h v d as:=⟨d,as,r⟩
 unfold SeqAt.readOf
 rw [dif_pos hx]
 obtain ⟨bs,rb⟩:=hx.choose_spec
 exact (SeqAt.Reads.unique _ _ _ _ _ hl r rb).symm
end
end L2
namespace L2
open PySem PySem.Spec PyProof.Rows
def optIs:Option Int->Value->Bool
 | none,.none=>true
 | some i,v=>Value.isInt i v
 | _,_=>false
theorem optIs_shape:∀{k:Option Int} {v:Value},optIs k v=true->(k=none/\v=.none)\/∃i t,k=some i/\v=.int i t
 | none,v,h=>by
  cases v<;>simp [optIs] at h
  exact .inl ⟨rfl,rfl⟩
 | some i,v,h=>by
  obtain ⟨t,e⟩:=Value.isInt_shape (k:=i) (v:=v) (by simpa [optIs] using h)
  exact .inr ⟨i,t,rfl,e⟩
def noneHash:Int:=reduceHash 0xFCA86420
theorem hash_none{prog:Program}{w:World}{A:Around}{E:Z5}{s:Shared}{Q:Int->Shared->Prop}(h:Q noneHash { s with toks:=s.toks+1 }):wpAny (model prog w) A (pyHash .none) Q E s :=
 PySem.W.pyHash_slot (T:="NoneType") rfl F.slot_NoneType_hash F.entry_NoneType_hash (F.args_NoneType_hash_1 _) (beq_builtin_none _) (.inl rfl) (wpAny_bind (wpAny_pure (wpAny_bind (wpAny_mkInt (wpAny_pure ⟨_,_,rfl,h⟩)))))
def optKind(prog:Program)(w:World):KeyKind prog w (Option Int) where
 is:=optIs
 hash:=fun k=>match k with | none=>noneHash | some i=>hashInt i
 inj:=fun v a b ha hb=>by
  rcases optIs_shape ha with ⟨rfl,rfl⟩ | ⟨i,t,rfl,rfl⟩<;>rcases optIs_shape hb with ⟨rfl,e⟩ | ⟨j,u,rfl,e⟩<;>cases e<;>rfl
 byValue:=fun k v h=>by
  rcases optIs_shape h with ⟨rfl,rfl⟩ | ⟨i,t,rfl,rfl⟩<;>rfl
 pyHash:=fun {A E s k v Q} h hq=>by
  rcases optIs_shape h with ⟨rfl,rfl⟩ | ⟨i,t,rfl,rfl⟩
  ·exact hash_none hq
  ·exact wpAny_pyHash_int hq
 eqBool:=fun {A E s a b u v Q} ha hb hq=>by
  rcases optIs_shape ha with ⟨rfl,rfl⟩ | ⟨i,t,rfl,rfl⟩<;>rcases optIs_shape hb with ⟨rfl,rfl⟩ | ⟨j,u,rfl,rfl⟩
  ·unfold PySem.eqBool
   refine wpAny_holding ?_
   refine wpAny_ite_split (fun _=>wpAny_bind (wpAny_rule (wpAny_pure (by simpa using hq)))) (fun z=>absurd rfl z)
  ·exact SeqAt.EqAt.none_int j u prog w E Q (by simpa using hq)
  ·exact SeqAt.EqAt.int_none i t prog w E Q (by simpa using hq)
  ·refine SeqAt.EqAt.int_int i t j u prog w E Q ?_
   have e:decide (some i=some j)=(i == j):=by
    rw [Bool.eq_iff_iff];simp
   rw [<-e];exact hq
 «strs»:=fun k x t v h=>by
  rcases optIs_shape h with ⟨_,e⟩ | ⟨i,u,_,e⟩<;>cases e
abbrev NK:=Int×List (Option Int)
def optPy:Option Int->PyData | none=>.none | some i=>.int i
def IsNest(prog:Program)(w:World)(h:Heap)(k:NK)(a:Addr):Prop:=∃o items n t b,h.get? a=some o/\o.cls=.type "tuple" /\ o.data=.seq items n/\items.toList=[.int k.1 t,.ref b]/\IsTupleKey (optKind prog w) h k.2 b
section
variable{prog:Program}{w:World}{A:Around}{E:Z5}{s:Shared}
def nestHash(prog:Program)(w:World)(k:NK):Int:=reduceHash (Builtin.Tuple.tupleHashOf [hashInt k.1,tupleKeyHash (optKind prog w) k.2])
theorem IsNest.typeIs{k:NK}{a:Addr}(x:IsNest prog w s.heap k a):s.TypeIs (.ref a) "tuple":=let ⟨o,_,_,_,_,ho,hc,_⟩:=x;⟨o,ho,hc⟩
theorem items_reads{h:Heap}:∀{l:Z4} {vs:List Value},ItemsAre (optKind prog w) l vs->ReadsAll h vs (l.map optPy) []
 | _,_,.nil=>.nil
 | _,_,.cons h1 r=>by
  rcases optIs_shape h1 with ⟨rfl,rfl⟩ | ⟨i,t,rfl,rfl⟩
  ·exact .cons (as:=[]) (bs:=[]) .none (items_reads r)
  ·exact .cons (as:=[]) (bs:=[]) (.int i t) (items_reads r)
theorem IsNest.reads{h:Heap}{k:NK}{a:Addr}(x:IsNest prog w h k a):Reads h (.ref a) (.tuple [.int k.1,.tuple (k.2.map optPy)]) []:=by
 obtain ⟨o,items,n,t,b,ho,hc,hd,hi,ob,its,m,hob,hcb,hdb,hib⟩:=x
 refine .tuple ho hc hd ?_
 rw [hi]
 exact .cons (as:=[]) (bs:=[]) (.int _ _) (.cons (as:=[]) (bs:=[]) (.tuple hob hcb hdb (items_reads hib)) .nil)
theorem optPy_inj:∀{l m:Z4},PyData.eqvAll (l.map optPy) (m.map optPy)=decide (l=m)
 | [],[]=>by simp [PyData.eqvAll]
 | [],_::_=>by simp [PyData.eqvAll]
 | _::_,[]=>by simp [PyData.eqvAll]
 | x::l,y::m=>by
  have ih:=optPy_inj (l:=l) (m:=m)
  simp only [List.map_cons,PyData.eqvAll,ih]
  cases x<;>cases y<;>simp [optPy,PyData.eqv]
  rw [Bool.eq_iff_iff];simp
theorem opts_lay:∀{l:Z4},PyData.canLayAll0 (l.map optPy)=true/\PyData.depthAll (l.map optPy)=0
 | []=>⟨rfl,rfl⟩
 | x::l=>by
  obtain ⟨a,b⟩:=opts_lay (l:=l)
  cases x<;>simp [optPy,PyData.canLayAll0,PyData.depthAll,PyData.canLay0,PyData.depth,a,b]
def nestKind(prog:Program)(w:World):HeapKind prog w NK where
 is:=IsNest prog w
 hash:=nestHash prog w
 draws:=fun k=>1+(k.2.length+1)+1
 room:=fun A=>A.units+8<cLine
 inj:=fun {h a x y} hx hy=>by
  obtain ⟨o,items,n,t,b,ho,hc,hd,hi,kx⟩:=hx
  obtain ⟨o',items',n',t',b',ho',hc',hd',hi',ky⟩:=hy
  rw [ho] at ho';cases ho'
  rw [hd] at hd';cases hd'
  rw [hi] at hi'
  simp only [List.cons.injEq,Value.int.injEq,Value.ref.injEq,and_true] at hi'
  obtain ⟨⟨e1,_⟩,e2⟩:=hi'
  subst e2
  exact Prod.ext e1 (kx.inj ky)
 keeps:=fun {h h' k a d o es ep} x ho hd hs=>by
  obtain ⟨o1,items,n,t,b,ho1,hc,hd1,hi,kx⟩:=x
  refine ⟨o1,items,n,t,b,(hs.2 a ?_).trans ho1,hc,hd1,hi,kx.keeps ho hd hs⟩
  rintro rfl
  rw [ho] at ho1;cases ho1
  rw [hd] at hd1;cases hd1
 pyHash:=fun {A E s k a Q} hu x hq=>by
  have hT:=IsNest.typeIs (prog:=prog) (w:=w) x
  obtain ⟨o,items,n,t,b,ho,hc,hd,hi,kx⟩:=x
  refine PySem.W.pyHash_slot (T:="tuple") hT F.slot_tuple_hash F.entry_tuple_hash (F.args_tuple_hash_1 _) (beq_builtin_none _) (.inr (by omega)) ?_
  show wpAny _ _ (Builtin.Tuple.tupleItemsOf (.ref a) >>= _) _ _ s
  refine wpAny_bind (wpAny_tupleItemsOf ho hd ?_)
  refine wpAny_bind ?_
  rw [<-Array.forIn_toList,hi]
  refine wpAny_forIn_list _ (fun rest (r:Array Int) s'=>(rest=[.int k.1 t,.ref b]/\r.toList=[]/\s'=s)\/(rest=[.ref b]/\r.toList=[hashInt k.1]/\s'={ s with toks:=s.toks+1 })\/(rest=[]/\r.toList=[hashInt k.1,tupleKeyHash (optKind prog w) k.2]/\s'={ s with toks:=s.toks+1+(k.2.length+1) })) _ ?_ ?_ _ _ (.inl ⟨rfl,rfl,rfl⟩)
  ·rintro x rest r s' (⟨e,hr,rfl⟩ | ⟨e,hr,rfl⟩ | ⟨e,hr,rfl⟩)
   ·injection e with e1 e2
    subst e1 e2
    refine wpAny_bind (wpAny_pyHash_int ?_)
    first
     | exact wpAny_pure (.inr (.inl ⟨rfl,by simp [hr],rfl⟩))
     | exact wpAny_bind (wpAny_pure (wpAny_pure (.inr (.inl ⟨rfl,by simp [hr],rfl⟩))))
   ·injection e with e1 e2
    subst e1 e2
    refine wpAny_bind (wpAny_pyHash_tuple (A:=A.in1) (by show A.units+1<cLine;omega) kx ?_)
    first
     | exact wpAny_pure (.inr (.inr ⟨rfl,by simp [hr],rfl⟩))
     | exact wpAny_bind (wpAny_pure (wpAny_pure (.inr (.inr ⟨rfl,by simp [hr],rfl⟩))))
   ·cases e
  ·rintro r s' (⟨e,_⟩ | ⟨e,_⟩ | ⟨_,hr,rfl⟩)
   ·cases e
   ·cases e
   ·show wpAny _ _ (retInt (Builtin.Tuple.tupleHashOf r.toList)) _ _ _
    rw [hr]
    refine wpAny_bind (wpAny_mkInt (wpAny_pure ⟨_,_,rfl,?_⟩))
    have e:s.toks+1+(k.2.length+1)+1=s.toks+(1+(k.2.length+1)+1):=by omega
    show Q _ { s with toks:=s.toks+1+(k.2.length+1)+1 }
    rw [e];exact hq
 eqBool:=fun {A E s x y a b Q} hu hx hy hq=>by
  refine SeqAt.eqAt_reads _ _ A s (.ref a) (.ref b) [] [] hx.reads hy.reads ?_ ?_ ?_ prog w E Q ?_
  ·simp [PyData.canLay0,PyData.canLayAll0,opts_lay.1]
  ·simp [PyData.canLay0,PyData.canLayAll0,opts_lay.1]
  ·have h1:(PyData.tuple [.int x.1,.tuple (x.2.map optPy)]).depth<=3:=by
    simp [PyData.depth,PyData.depthAll,opts_lay.2]
   have:min (PyData.tuple [.int x.1,.tuple (x.2.map optPy)]).depth (PyData.tuple [.int y.1,.tuple (y.2.map optPy)]).depth<=3:=Nat.le_trans (Nat.min_le_left _ _) h1
   omega
  ·have e:(PyData.tuple [.int x.1,.tuple (x.2.map optPy)]).eqv (.tuple [.int y.1,.tuple (y.2.map optPy)])=decide (x=y):=by
    simp only [PyData.eqv,PyData.eqvAll,optPy_inj]
    rw [Bool.eq_iff_iff]
    simp [Prod.ext_iff]
   rw [e];exact hq
 quiet:=fun {A E s k a Q} x hq=>by
  have hT:=IsNest.typeIs (prog:=prog) (w:=w) x
  obtain ⟨o,items,n,t,b,ho,hc,hd,hi,kx⟩:=x
  have hTb:=kx.typeIs
  obtain ⟨ob,its,m,hob,hcb,hdb,hib⟩:=kx
  have low:wpAny (model prog w) A (eqIsQuiet 7 (.ref b)) (fun r s'=>r=true/\s'=s) E s:=by
   unfold eqIsQuiet
   refine wpAny_bind (wpAny_specialOf hTb F.slot_tuple_eq.lookup ?_)
   show wpAny _ _ (isInstance (.ref b) (.type "tuple") >>= _) _ _ s;refine wpAny_bind (wpAny_isInstance hTb isSubtype_tuple_tuple ?_)
   simp only [Bool.not_true,Bool.false_eq_true,if_false]
   refine wpAny_bind (wpAny_seqItems hob hdb (wpAny_bind ?_))
   show wpAny _ _ (forIn its _ _) _ _ s;rw [<-Array.forIn_toList]
   refine wpAny_forIn_list _ (fun rest r s'=>r.1=none/\s'=s/\∀v∈rest,carriedByValue v=true) _ ?_ ?_ _ _ ⟨rfl,rfl,hib.byValue⟩
   ·rintro v rest r s' ⟨hr,rfl,hall⟩
    rw [eqIsQuiet_byValue _ (hall v List.mem_cons_self)];refine wpAny_bind (wpAny_pure ?_)
    simp only [Bool.not_true,Bool.false_eq_true,if_false]
    exact wpAny_pure ⟨rfl,rfl,fun z hz=>hall z (List.mem_cons_of_mem _ hz)⟩
   ·rintro ⟨r1,r2⟩ s' ⟨hr,rfl,_⟩
    simp only at hr
    subst hr
    exact wpAny_pure ⟨rfl,rfl⟩
  unfold eqIsQuiet
  refine wpAny_bind (wpAny_specialOf hT F.slot_tuple_eq.lookup ?_)
  show wpAny _ _ (isInstance (.ref a) (.type "tuple") >>= _) _ _ s;refine wpAny_bind (wpAny_isInstance hT isSubtype_tuple_tuple ?_)
  simp only [Bool.not_true,Bool.false_eq_true,if_false]
  refine wpAny_bind (wpAny_seqItems ho hd (wpAny_bind ?_))
  show wpAny _ _ (forIn items _ _) _ _ s;rw [<-Array.forIn_toList,hi]
  refine wpAny_forIn_list _ (fun rest r s'=>r.1=none/\s'=s/\(rest=[.int k.1 t,.ref b]\/rest=[.ref b]\/rest=[])) _ ?_ ?_ _ _ ⟨rfl,rfl,.inl rfl⟩
  ·rintro v rest r s' ⟨hr,rfl,(e | e | e)⟩
   ·injection e with e1 e2
    subst e1 e2
    rw [eqIsQuiet_byValue _ rfl];refine wpAny_bind (wpAny_pure ?_)
    simp only [Bool.not_true,Bool.false_eq_true,if_false]
    exact wpAny_pure ⟨rfl,rfl,by simp⟩
   ·injection e with e1 e2
    subst e1 e2
    refine wpAny_bind (wpAny_mono low (fun r' s'' hz=>?_) fun _ _ z=>z)
    obtain ⟨rfl,rfl⟩:=hz
    simp only [Bool.not_true,Bool.false_eq_true,if_false]
    exact wpAny_pure ⟨rfl,rfl,by simp⟩
   ·cases e
  ·rintro ⟨r1,r2⟩ s' ⟨hr,rfl,_⟩
   simp only at hr
   subst hr
   exact wpAny_pure hq
end
end L2
namespace L2
open PySem PySem.Spec PyProof.Rows
section
variable{σ:St}{H:Hp}{K:PySem.W.Frag}{te:TE}{tt:TT}{caps:List (Str×Nat)}{Q:VK}
end
end L2
namespace L2
open PySem PySem.Spec PyProof.Rows
def oV:Option Int->V | none=>.non | some i=>.int i
def DN(P:Program)(w:World)(a:Addr)(xs:List (NK×Addr×Value))(h:Heap):Prop :=
 ∃o es ep,h.get? a=some o/\o.ExactDict/\o.data=.dict es ep/\es.toList=xs.map (entryOfKey (nestKind P w))/\(xs.map (·.1)).Nodup/\(a == sysModules)=false
def KeyAt(H:Hp)(kb:Addr)(k:NK):Prop:=∃b,H kb=some (.tup [.int k.1,.ref b])/\H b=some (.tup (k.2.map oV))
def Ents(H:Hp)(xs:List (NK×Addr×Value))(m:List (NK×V)):Prop:=Paired (fun (x:NK×Addr×Value) (p:NK×V)=>x.1=p.1/\KeyAt H x.2.1 x.1/\RelV p.2 x.2.2) xs m
theorem dn_stays{P:Program}{w:World}{a:Addr}{xs:List (NK×Addr×Value)}:∀h1 h2:Heap,DN P w a xs h1->(∀o,h1.get? a=some o->h2.get? a=some o)->DN P w a xs h2:=fun h1 h2 ⟨o,es,ep,e,r⟩ k=>⟨o,es,ep,k _ e,r⟩
section
variable{X:Cx}{pins:Z3}{σ:St}{H:Hp}{s:Shared}
theorem vals_opts:∀{l:Z4} {its:List Value},Vals (l.map oV) its->ItemsAre (optKind X.prog X.w) l its
 | [],_,.nil=>.nil
 | none::l,_,.cons r t=>by
  cases r
  exact .cons rfl (vals_opts t)
 | some i::l,_,.cons r t=>by
  obtain ⟨u,rfl⟩:=r
  exact .cons (by simp [optKind,optIs,Value.isInt]) (vals_opts t)
theorem Inv.nest(I:Inv X pins σ H s){kb:Addr}{k:NK}(h:KeyAt H kb k):IsNest X.prog X.w s.heap k kb:=by
 obtain ⟨b,h1,h2⟩:=h
 obtain ⟨its,rv,⟨o,ho,hc,n,hd⟩,_⟩:=I.tuple (SqT.of (K:=X.K) h1)
 obtain ⟨its2,rv2,⟨o2,ho2,hc2,n2,hd2⟩,_⟩:=I.tuple (SqT.of (K:=X.K) h2)
 cases rv with
 | cons r1 rr =>
  cases rr with
  | cons r2 rr =>
   cases rr
   obtain ⟨t,rfl⟩:=r1
   cases r2
   exact ⟨o,_,n,t,b,ho,hc,hd,rfl,o2,_,n2,ho2,hc2,hd2,by simpa using vals_opts rv2⟩
theorem Ents.keys{xs:List (NK×Addr×Value)}{m:List (NK×V)}(I:Inv X pins σ H s):Ents H xs m->∀x∈xs,IsNest X.prog X.w s.heap x.1 x.2.1:=by
 intro h
 induction h with
 | nil=>intro x hx;simp at hx
 | cons h t ih =>
  intro x hx
  rcases List.mem_cons.mp hx with rfl | hx
  ·exact I.nest h.2.1
  ·exact ih x hx
theorem Inv.ndict(I:Inv X pins σ H s){a:Addr}{xs:List (NK×Addr×Value)}{m:List (NK×V)}(h:H a=some (.ext (DN X.prog X.w a xs)))(e:Ents H xs m):s.heap.DictOfH (nestKind X.prog X.w) a xs/\(a == sysModules)=false:=by
 obtain ⟨⟨o,es,ep,h1,h2,h3,h4,h5,h6⟩,_⟩:=I.hok a _ h
 exact ⟨⟨o,es,ep,h1,h2,h3,h4,e.keys I,h5⟩,h6⟩
theorem atKey_ents{xs:List (NK×Addr×Value)}{m:List (NK×V)}(e:Ents H xs m)(k:NK):(m.lookup k=none/\atKey xs k=none)\/∃c p,m.lookup k=some c/\atKey xs k=some p/\RelV c p.2:=by
 induction e with
 | nil=>exact .inl ⟨rfl,rfl⟩
 | @cons x p l1 l2 h t ih =>
  obtain ⟨h1,h2,h3⟩:=h
  by_cases hk:x.1=k
  ·refine .inr ⟨p.2,x.2,?_,?_,h3⟩
   ·obtain ⟨pk,pc⟩:=p
    simp only at h1
    subst h1
    rw [List.lookup_cons,hk];simp
   ·simp [atKey,hk]
  ·have hk':¬ p.1=k:=by rw [<-h1];exact hk
   have e1:List.lookup k (p::l2)=List.lookup k l2:=by
    obtain ⟨pk,pc⟩:=p
    rw [List.lookup_cons]
    have:(k == pk)=false:=by
     rw [beq_eq_false_iff_ne];exact fun z=>hk' z.symm
    rw [this]
   have e2:atKey (x::l1) k=atKey l1 k:=by simp [atKey,List.find?_cons,hk]
   rw [e1,e2];exact ih
theorem op_nin(hu:X.A.units+16<cLine):OpR X (compareOp .NotIn) (fun x y H Q=>∃kb a k xs m,x=.ref kb/\y=.ref a/\KeyAt H kb k/\H a=some (.ext (DN X.prog X.w a xs))/\Ents H xs m/\Q (.bl (m.lookup k).isNone) H):=by
 intro pins s σ H x y v u Q I rx ry h
 obtain ⟨kb,a,k,xs,m,rfl,rfl,hk,hx,he,q⟩:=h
 cases rx
 cases ry
 obtain ⟨hm,hd⟩:=I.ndict hx he
 refine wpAny_notIn_heap (knd:=nestKind X.prog X.w) (k:=k) (by show X.A.units+1+8<cLine;omega) (I.nest hk) hd hm ⟨.bl _,H,I.tok _,?_,q⟩
 rcases atKey_ents he k with ⟨e1,e2⟩ | ⟨c,p,e1,e2,_⟩<;>rw [e1,e2]<;>rfl
theorem ix_get(hu:X.A.units+16<cLine):IxR X (fun x y H Q=>∃a kb k xs m c,x=.ref a/\y=.ref kb/\KeyAt H kb k/\H a=some (.ext (DN X.prog X.w a xs))/\Ents H xs m/\m.lookup k=some c/\Q c H):=by
 intro value slice pins s σ H x y v u Q I rx ry h hs
 obtain ⟨a,kb,k,xs,m,c,rfl,rfl,hk,hx,he,hl,q⟩:=h
 cases rx
 cases ry
 obtain ⟨hm,hd⟩:=I.ndict hx he
 rcases atKey_ents he k with ⟨e1,_⟩ | ⟨c',p,e1,e2,r⟩
 ·rw [e1] at hl;cases hl
 ·rw [e1] at hl;cases hl
  exact subscriptTail_builtinR (x:=p.2) hm.typeIs slot_dict_getitem.lookup (wpAny_getItem_heap (knd:=nestKind X.prog X.w) (k:=k) (by show X.A.units+1+8<cLine;omega) (I.nest hk) hm e2 ⟨rfl,c,H,I.tok _,r,q⟩) hs
theorem set_put(hu:X.A.units+16<cLine):PSet X (fun o i v H Q=>∃a kb k xs m,o=.ref a/\i=.ref kb/\KeyAt H kb k/\H a=some (.ext (DN X.prog X.w a xs))/\Ents H xs m/\m.lookup k=none/\m.length<=1000000/\∀u,RelV v u->Q (upd H a (.ext (DN X.prog X.w a (xs++[(k,kb,u)]))))):=by
 intro pins s σ H o i v ov iv u Q I ro ri rv h
 obtain ⟨a,kb,k,xs,m,rfl,rfl,hk,hx,he,hl,hz,q⟩:=h
 cases ro
 cases ri
 obtain ⟨hm,hd⟩:=I.ndict hx he
 have hlen:xs.length=m.length:=Paired.length he
 have e2:atKey xs k=none:=by
  rcases atKey_ents he k with ⟨_,e2⟩ | ⟨c',p,e1,_,_⟩
  ·exact e2
  ·rw [e1] at hl;cases hl
 refine wpAny_setItem_heap (knd:=nestKind X.prog X.w) (k:=k) (by show X.A.units+1+8<cLine;omega) (I.nest hk) hm (fun h' hm' sb=>?_) (by rw [hlen];exact Nat.le_trans hz (by decide))
 rw [storedH_new e2] at hm'
 obtain ⟨o,es,ep,g1,g2,g3,g4,g5,g6⟩:=hm'
 have dn:DN X.prog X.w a (xs++[(k,kb,u)]) h':=⟨o,es,ep,g1,g2,g3,g4,g6,hd⟩
 refine ⟨upd H a (.ext (DN X.prog X.w a (xs++[(k,kb,u)]))),?_,q u rv⟩
 exact I.write (x:=a) (e:=a) (by rw [hx];trivial) (.inl rfl) (fun b o hb z=>(sb.2 b hb).trans z) ⟨_,g1⟩ ⟨dn,⟨_,g1⟩,dn_stays⟩
def tDNew(P:Program)(w:World):TE:=fun _ H Q=>∀p,H p=none->Q (.ref p) (upd H p (.ext (DN P w p [])))
theorem pe_dnew{pos:Pos}:PE X (.Dict [] [] pos) (tDNew X.prog X.w):=fun pins s σ H Q I h=>by
 have big:sysModules<s.heap.objs.size:=Nat.lt_trans (show sysModules<mainGlobals by decide) (I.mod.glob.keeps I.bk).lt
 have hne:(s.heap.objs.size == sysModules)=false:=beq_eq_false_iff_ne.mpr (Ne.symm (Nat.ne_of_lt big))
 have dn:DN X.prog X.w s.heap.objs.size [] (s.heap.push { cls:=.type "dict",data:=.dict #[] }):=⟨_,#[],0,Heap.get?_push_size _ rfl,⟨rfl,rfl,rfl⟩,rfl,rfl,List.nodup_nil,hne⟩
 refine wpAny_Dict_empty ⟨.ref s.heap.objs.size,upd H s.heap.objs.size (.ext (DN X.prog X.w s.heap.objs.size [])),?_,rfl,h _ (I.hok.fresh (Nat.le_refl _))⟩
 exact I.laid (a:=s.heap.objs.size) (t':=s.toks) (fun _ _ q=>Heap.get?_push_of_some _ q) (Nat.le_refl _) ⟨dn,⟨_,Heap.get?_push_size _ rfl⟩,dn_stays⟩
end
end L2
namespace S2
open PySem PySem.Spec PyProof.Rows L2
abbrev St:=L2.St
inductive D where
 | non | bl (b:Bool) | int (i:Int) | str (x:Str) | tup (l:List D) | lst (l:List D) | dic (l:List (D×D)) | ref (n:Nat) | exc (c:Str) | scr (l:List Int)
inductive Root where
 | slot (i:Nat) | fld (n:Nat) (f:Str) | obj (n:Nat) | far
 deriving DecidableEq
abbrev Ow:=Addr->Option Root
structure Cf where
 ad:Str->Addr
 K:PySem.W.Frag
 P:Program
 wo:PySem.World
instance:CoeFun Cf (fun _=>Str->Addr):=⟨Cf.ad⟩
structure Wd where
 H:Hp
 ow:Ow
 mu:List Addr
mutual
inductive Shd(cl:Cf)(w:Wd):V->D->Prop
 | non:Shd cl w .non .non
 | bl (b:Bool):Shd cl w (.bl b) (.bl b)
 | int (i:Int):Shd cl w (.int i) (.int i)
 | str (x:Str):Shd cl w (.str x) (.str x)
 | tup {a:Addr} {xs:List V} {ds:List D}:w.H a=some (.tup xs)->w.ow a=none->Shds cl w xs ds->Shd cl w (.ref a) (.tup ds)
 | lst {a:Addr} {xs:List V} {ds:List D}:w.H a=some (.lst xs)->w.ow a=none->Shds cl w xs ds->Shd cl w (.ref a) (.lst ds)
 | dicK {a:Addr} {kvs:List (Key×V)} {ds:List (D×D)}:w.H a=some (.dK kvs)->w.ow a=none->ShdK cl w kvs ds->Shd cl w (.ref a) (.dic ds)
 | ref {n:Nat} {a:Addr}:w.mu[n]?=some a->Shd cl w (.ref a) (.ref n)
 | scr {a:Addr} {o:Obj} {l:List Int}:w.H a=some (.frz o (.lst (l.map V.int)))->w.ow a=none->Shd cl w (.ref a) (.scr l)
 | scrK {a:Addr} {l:List Int}:(∀H:Hp,SqL cl.K H a (l.map V.int))->Shd cl w (.ref a) (.scr l)
 | exc {a:Addr} {c:Str} {ob:Obj}:w.H a=some (.frz ob (.own a))->w.ow a=none->ob.cls=.ref (cl c)->Shd cl w (.ref a) (.exc c)
inductive Shds(cl:Cf)(w:Wd):List V->List D->Prop
 | nil:Shds cl w [] []
 | cons {v:V} {d:D} {vs:List V} {ds:List D}:Shd cl w v d->Shds cl w vs ds->Shds cl w (v::vs) (d::ds)
inductive ShdK(cl:Cf)(w:Wd):List (Key×V)->List (D×D)->Prop
 | nil:ShdK cl w [] []
 | consI {i:Int} {v:V} {d:D} {vs:List (Key×V)} {ds:List (D×D)}:Shd cl w v d->ShdK cl w vs ds->ShdK cl w ((.inl i,v)::vs) ((.int i,d)::ds)
 | consS {x:Str} {v:V} {d:D} {vs:List (Key×V)} {ds:List (D×D)}:Shd cl w v d->ShdK cl w vs ds->ShdK cl w ((.inr x,v)::vs) ((.str x,d)::ds)
end
structure Fut(w w':Wd):Prop where
 keep:∀a o,w.H a=some o->w.ow a=none->w'.H a=some o/\w'.ow a=none
 mu:∀(n:Nat) (a:Addr),w.mu[n]?=some a->w'.mu[n]?=some a
theorem Fut.refl(w:Wd):Fut w w:=⟨fun _ _ h k=>⟨h,k⟩,fun _ _ h=>h⟩
theorem Fut.trans{w w1 w2:Wd}(a:Fut w w1)(b:Fut w1 w2):Fut w w2:=⟨fun c o h k=>b.keep c o (a.keep c o h k).1 (a.keep c o h k).2,fun n c h=>b.mu n c (a.mu n c h)⟩
mutual
theorem Shd.up{cl:Cf}{w w':Wd}(f:Fut w w'):∀{v:V} {d:D},Shd cl w v d->Shd cl w' v d
 | _,_,.non=>.non
 | _,_,.bl b=>.bl b
 | _,_,.int i=>.int i
 | _,_,.str x=>.str x
 | _,_,.tup e k r=>.tup (f.keep _ _ e k).1 (f.keep _ _ e k).2 (Shds.up f r)
 | _,_,.lst e k r=>.lst (f.keep _ _ e k).1 (f.keep _ _ e k).2 (Shds.up f r)
 | _,_,.dicK e k r=>.dicK (f.keep _ _ e k).1 (f.keep _ _ e k).2 (ShdK.up f r)
 | _,_,.ref e=>.ref (f.mu _ _ e)
 | _,_,.scr e k=>.scr (f.keep _ _ e k).1 (f.keep _ _ e k).2
 | _,_,.scrK h=>.scrK h
 | _,_,.exc e k h=>.exc (f.keep _ _ e k).1 (f.keep _ _ e k).2 h
theorem Shds.up{cl:Cf}{w w':Wd}(f:Fut w w'):∀{vs:List V} {ds:List D},Shds cl w vs ds->Shds cl w' vs ds
 | _,_,.nil=>.nil
 | _,_,.cons r t=>.cons (Shd.up f r) (Shds.up f t)
theorem ShdK.up{cl:Cf}{w w':Wd}(f:Fut w w'):∀{vs:List (Key×V)} {ds:List (D×D)},ShdK cl w vs ds->ShdK cl w' vs ds
 | _,_,.nil=>.nil
 | _,_,.consI r t=>.consI (Shd.up f r) (ShdK.up f t)
 | _,_,.consS r t=>.consS (Shd.up f r) (ShdK.up f t)
end
section
variable{cl:Cf}{w:Wd}
theorem Shds.length:∀{vs:List V} {ds:List D},Shds cl w vs ds->vs.length=ds.length
 | _,_,.nil=>rfl
 | _,_,.cons _ t=>by rw [List.length_cons,List.length_cons,Shds.length t]
theorem Shds.get:∀{vs:List V} {ds:List D},Shds cl w vs ds->∀{i:Nat} {v:V},vs[i]?=some v->∃d,ds[i]?=some d/\Shd cl w v d
 | _,_,.nil,i,v,e=>by simp at e
 | _,_,.cons r _,0,v,e=>by simp at e;subst e;exact ⟨_,rfl,r⟩
 | _,_,.cons _ t,i+1,v,e=>by
  obtain ⟨d,h1,h2⟩:=Shds.get t (i:=i) (v:=v) (by simpa using e)
  exact ⟨d,by simpa using h1,h2⟩
theorem Shds.at:∀{vs:List V} {ds:List D},Shds cl w vs ds->∀{i:Nat} {d:D},ds[i]?=some d->∃v,vs[i]?=some v/\Shd cl w v d
 | _,_,.nil,i,v,e=>by simp at e
 | _,_,.cons r _,0,v,e=>by simp at e;subst e;exact ⟨_,rfl,r⟩
 | _,_,.cons _ t,i+1,v,e=>by
  obtain ⟨d,h1,h2⟩:=Shds.at t (i:=i) (d:=v) (by simpa using e)
  exact ⟨d,by simpa using h1,h2⟩
theorem Shds.append:∀{vs ws:List V} {ds es:List D},Shds cl w vs ds->Shds cl w ws es->Shds cl w (vs++ws) (ds++es)
 | _,_,_,_,.nil,s=>s
 | _,_,_,_,.cons r t,s=>.cons r (Shds.append t s)
theorem Shds.take:∀{vs:List V} {ds:List D} (n:Nat),Shds cl w vs ds->Shds cl w (vs.take n) (ds.take n)
 | _,_,0,_=>.nil
 | _,_,_+1,.nil=>.nil
 | _,_,n+1,.cons r t=>.cons r (Shds.take n t)
theorem Shds.drop:∀{vs:List V} {ds:List D} (n:Nat),Shds cl w vs ds->Shds cl w (vs.drop n) (ds.drop n)
 | _,_,0,s=>s
 | _,_,_+1,.nil=>.nil
 | _,_,n+1,.cons _ t=>Shds.drop n t
theorem Shds.flat{vs:List V}{ds:List D}(h:Shds cl w vs ds):∀n:Nat,Shds cl w (List.replicate n vs).flatten (List.replicate n ds).flatten
 | 0=>.nil
 | n+1=>by
  rw [List.replicate_succ,List.replicate_succ,List.flatten_cons,List.flatten_cons]
  exact Shds.append h (Shds.flat h n)
end
inductive Top(cl:Cf)(w:Wd):HO->D->Prop
 | lst {xs:List V} {ds:List D}:Shds cl w xs ds->Top cl w (.lst xs) (.lst ds)
 | dicK {kvs:List (Key×V)} {ds:List (D×D)}:ShdK cl w kvs ds->Top cl w (.dK kvs) (.dic ds)
theorem Top.up{cl:Cf}{w w':Wd}(f:Fut w w'){o:HO}{d:D}:Top cl w o d->Top cl w' o d
 | .lst h=>.lst (h.up f)
 | .dicK h=>.dicK (h.up f)
def Rooted(cl:Cf)(w:Wd)(r:Root):Bool->V->D->Prop
 | false,v,d=>Shd cl w v d
 | true,v,d=>∃a o,v=.ref a/\w.ow a=some r/\w.H a=some o/\Top cl w o d
theorem Rooted.keep{cl:Cf}{w w':Wd}(f:Fut w w'){r:Root}(k:∀a o,w.H a=some o->w.ow a=some r->w'.H a=some o/\w'.ow a=some r):∀{b:Bool} {v:V} {d:D},Rooted cl w r b v d->Rooted cl w' r b v d
 | false,_,_,h=>Shd.up f h
 | true,_,_,⟨a,o,e,h1,h2,t⟩=>⟨a,o,e,(k a o h2 h1).2,(k a o h2 h1).1,t.up f⟩
def oDn:Option Int->D | none=>.non | some i=>.int i
def nkD(k:NK):D:=.tup [.int k.1,.tup (k.2.map oDn)]
inductive ShdN(cl:Cf)(w:Wd):List (NK×V)->List (D×D)->Prop
 | nil:ShdN cl w [] []
 | cons {k:NK} {v:V} {d:D} {m:List (NK×V)} {ds:List (D×D)}:Shd cl w v d->ShdN cl w m ds->ShdN cl w ((k,v)::m) ((nkD k,d)::ds)
theorem ShdN.up{cl:Cf}{w w':Wd}(f:Fut w w'):∀{m:List (NK×V)} {ds:List (D×D)},ShdN cl w m ds->ShdN cl w' m ds
 | _,_,.nil=>.nil
 | _,_,.cons r t=>.cons (r.up f) (ShdN.up f t)
def KeyS(w:Wd)(kb:Addr)(k:NK):Prop:=∃b,(w.H kb=some (.tup [.int k.1,.ref b])/\w.ow kb=none)/\w.H b=some (.tup (k.2.map oV))/\w.ow b=none
theorem KeyS.up{w w':Wd}(f:Fut w w'){kb:Addr}{k:NK}(h:KeyS w kb k):KeyS w' kb k:=by
 obtain ⟨b,h1,h2⟩:=h
 exact ⟨b,f.keep _ _ h1.1 h1.2,f.keep _ _ h2.1 h2.2⟩
theorem KeyS.at{w:Wd}{kb:Addr}{k:NK}(h:KeyS w kb k):KeyAt w.H kb k:=by
 obtain ⟨b,h1,h2⟩:=h
 exact ⟨b,h1.1,h2.1⟩
def EntS(w:Wd):List (NK×Addr×Value)->List (NK×V)->Prop:=Paired fun (x:NK×Addr×Value) (p:NK×V)=>x.1=p.1/\KeyS w x.2.1 x.1/\RelV p.2 x.2.2
theorem EntS.up{w w':Wd}(f:Fut w w'):∀{xs:List (NK×Addr×Value)} {m:List (NK×V)},EntS w xs m->EntS w' xs m
 | _,_,.nil=>.nil
 | _,_,.cons h t=>.cons ⟨h.1,h.2.1.up f,h.2.2⟩ (EntS.up f t)
theorem EntS.ents{w:Wd}:∀{xs:List (NK×Addr×Value)} {m:List (NK×V)},EntS w xs m->Ents w.H xs m
 | _,_,.nil=>.nil
 | _,_,.cons h t=>.cons ⟨h.1,h.2.1.at,h.2.2⟩ (EntS.ents t)
theorem EntS.snoc{w:Wd}{x:NK×Addr×Value}{p:NK×V}(h:x.1=p.1/\KeyS w x.2.1 x.1/\RelV p.2 x.2.2):∀{xs:List (NK×Addr×Value)} {m:List (NK×V)},EntS w xs m->EntS w (xs++[x]) (m++[p])
 | _,_,.nil=>.cons h .nil
 | _,_,.cons h' t=>.cons h' (EntS.snoc h t)
theorem ShdN.snoc{cl:Cf}{w:Wd}{k:NK}{v:V}{d:D}(h:Shd cl w v d):∀{m:List (NK×V)} {ds:List (D×D)},ShdN cl w m ds->ShdN cl w (m++[(k,v)]) (ds++[(nkD k,d)])
 | _,_,.nil=>.cons h .nil
 | _,_,.cons r t=>.cons r (ShdN.snoc h t)
def DicR(cl:Cf)(w:Wd)(r:Root)(v:V)(d:D):Prop:=∃a xs m ds,v=.ref a/\w.ow a=some r/\w.H a=some (.ext (DN cl.P cl.wo a xs))/\EntS w xs m/\ShdN cl w m ds/\d=.dic ds
def FRoot(cl:Cf)(w:Wd)(r:Root)(own:Bool)(v:V)(d:D):Prop:=(own=false/\Shd cl w v d)\/(own=true/\DicR cl w r v d)
theorem FRoot.keep{cl:Cf}{w w':Wd}(f:Fut w w'){r:Root}(k:∀a o,w.H a=some o->w.ow a=some r->w'.H a=some o/\w'.ow a=some r){b:Bool}{v:V}{d:D}(h:FRoot cl w r b v d):FRoot cl w' r b v d:=by
 rcases h with ⟨e,h⟩ | ⟨e,a,xs,m,ds,e1,e2,e3,e4,e5,e6⟩
 ·exact .inl ⟨e,h.up f⟩
 ·exact .inr ⟨e,a,xs,m,ds,e1,(k a _ e3 e2).2,(k a _ e3 e2).1,e4.up f,e5.up f,e6⟩
structure Ob where
 cls:Str
 fs:List (Str×Bool×D)
abbrev Sto:=List Ob
def Flds(cl:Cf)(w:Wd)(n:Nat):List (Str×V)->List (Str×Bool×D)->Prop:=Paired fun p q=>p.1=q.1/\FRoot cl w (.fld n q.1) q.2.1 p.2 q.2.2
def ObAt(cl:Cf)(w:Wd)(n:Nat)(a:Addr)(ob:Ob):Prop:=w.ow a=some (.obj n)/\∃dx fs,w.H a=some (.ins (cl ob.cls) dx fs)/\Flds cl w n fs ob.fs
def ofObj(n:Nat):Option Root->Prop | some (.obj m)=>m=n | some (.fld m _)=>m=n | _=>False
theorem Flds.keep{cl:Cf}{w w':Wd}(f:Fut w w'){n:Nat}(k:∀a o,w.H a=some o->ofObj n (w.ow a)->w'.H a=some o/\w'.ow a=w.ow a):∀{fs:List (Str×V)} {gs:List (Str×Bool×D)},Flds cl w n fs gs->Flds cl w' n fs gs
 | _,_,.nil=>.nil
 | _,_,.cons ⟨e,h⟩ t=>.cons ⟨e,h.keep f fun a o ha hr=>by
   have:=k a o ha (by rw [hr];rfl)
   exact ⟨this.1,this.2.trans hr⟩⟩ (Flds.keep f k t)
theorem ObAt.keep{cl:Cf}{w w':Wd}(f:Fut w w'){n:Nat}{a:Addr}{ob:Ob}(k:∀a o,w.H a=some o->ofObj n (w.ow a)->w'.H a=some o/\w'.ow a=w.ow a)(h:ObAt cl w n a ob):ObAt cl w' n a ob:=by
 obtain ⟨h1,dx,fs,h2,h3⟩:=h
 have:=k a _ h2 (by rw [h1];rfl)
 exact ⟨this.2.trans h1,dx,fs,this.1,h3.keep f k⟩
structure Base where
 Fr:Hp
 fw:Ow
structure World'(cl:Cf)(B:Base)(w:Wd)(S:Sto):Prop where
 fr:∀a o,B.Fr a=some o->w.H a=some o/\w.ow a=B.fw a
 own:∀a r,w.ow a=some r->r=.far\/B.Fr a=none
 len:w.mu.length=S.length
 obj:∀(n:Nat) (ob:Ob),S[n]?=some ob->∃a,w.mu[n]?=some a/\ObAt cl w n a ob
abbrev Env:=List (Option (Bool×D))
structure Rel(cl:Cf)(B:Base)(σ:St)(w:Wd)(ρ:Env)(S:Sto):Prop where
 wd:World' cl B w S
 len:σ.length=ρ.length
 slots:∀(i:Nat) (o:Bool) (d:D),ρ[i]?=some (some (o,d))->∃v,σ[i]?=some (some v)/\Rooted cl w (.slot i) o v d
structure Grow(w w':Wd):Prop where
 keep:∀a o,w.H a=some o->w'.H a=some o/\w'.ow a=w.ow a
 new:∀a r,w'.ow a=some r->w.H a=none->w.ow a=some r\/r=.far
 mu:w'.mu=w.mu
theorem Grow.refl(w:Wd):Grow w w:=⟨fun _ _ h=>⟨h,rfl⟩,fun _ _ h _=>.inl h,rfl⟩
theorem Grow.fut{w w':Wd}(g:Grow w w'):Fut w w':=⟨fun a o h k=>⟨(g.keep a o h).1,(g.keep a o h).2.trans k⟩,fun n a h=>by rw [g.mu];exact h⟩
theorem World'.grow{cl:Cf}{B:Base}{w w':Wd}{S:Sto}(W:World' cl B w S)(g:Grow w w'):World' cl B w' S where
 fr:=fun a o h=>by
  obtain ⟨h1,h2⟩:=W.fr a o h
  exact ⟨(g.keep a o h1).1,(g.keep a o h1).2.trans h2⟩
 own:=fun a r h=>by
  cases e:w.H a with
  | none=>exact (g.new a r h e).elim (W.own a r) .inl
  | some o=>exact W.own a r (by rw [<-(g.keep a o e).2];exact h)
 len:=by rw [g.mu];exact W.len
 obj:=fun n ob h=>by
  obtain ⟨a,e,x⟩:=W.obj n ob h
  exact ⟨a,by rw [g.mu];exact e,x.keep g.fut fun a o ha _=>g.keep a o ha⟩
theorem Rel.grow{cl:Cf}{B:Base}{σ:St}{w w':Wd}{ρ:Env}{S:Sto}(R:Rel cl B σ w ρ S)(g:Grow w w'):Rel cl B σ w' ρ S where
 wd:=R.wd.grow g
 len:=R.len
 slots:=fun i o d h=>by
  obtain ⟨v,e,x⟩:=R.slots i o d h
  exact ⟨v,e,x.keep g.fut fun a o ha hr=>⟨(g.keep a o ha).1,(g.keep a o ha).2.trans hr⟩⟩
def Wd.add(w:Wd)(p:Addr)(o:HO):Wd:=⟨upd w.H p o,fun a=>if a=p then none else w.ow a,w.mu⟩
theorem grow_add{w:Wd}{p:Addr}(h:w.H p=none)(o:HO):Grow w (w.add p o) where
 keep:=fun a u ha=>by
  have n:a≠p:=ne_of_none ha h
  refine ⟨?_,?_⟩
  ·show upd w.H p o a=_
   rw [upd_ne n];exact ha
  ·show (if a=p then none else w.ow a)=_
   rw [if_neg n]
 new:=fun a r h1 h2=>by
  have h1':(if a=p then none else w.ow a)=some r:=h1
  split at h1'
  ·cases h1'
  ·exact .inl h1'
 mu:=rfl
theorem add_ow{w:Wd}{p:Addr}{o:HO}:(w.add p o).ow p=none:=if_pos rfl
theorem add_H{w:Wd}{p:Addr}{o:HO}:(w.add p o).H p=some o:=upd_same
theorem Shd.newT{cl:Cf}{w:Wd}{p:Addr}{xs:List V}{ds:List D}(h:w.H p=none)(r:Shds cl w xs ds):Shd cl (w.add p (.tup xs)) (.ref p) (.tup ds):=.tup add_H add_ow (r.up (grow_add h _).fut)
theorem Shd.newL{cl:Cf}{w:Wd}{p:Addr}{xs:List V}{ds:List D}(h:w.H p=none)(r:Shds cl w xs ds):Shd cl (w.add p (.lst xs)) (.ref p) (.lst ds):=.lst add_H add_ow (r.up (grow_add h _).fut)
theorem Shd.newO{cl:Cf}{w:Wd}{p:Addr}{o:HO}{d:D}(h:w.H p=none)(r:Top cl w o d):Shd cl (w.add p o) (.ref p) d:=by
 have g:=(grow_add h o).fut
 cases r with
 | lst r=>exact .lst add_H add_ow (r.up g)
 | dicK r=>exact .dicK add_H add_ow (r.up g)
inductive Out(α:Type) where
 | ok (a:α) (S:Sto) | exc (c:Str) (S:Sto) | bad
abbrev Fe:=Env->Sto->Out D
inductive Fo where
 | nx (ρ:Env) (S:Sto) | rt (d:D) (S:Sto) | bk (ρ:Env) (S:Sto) | ct (ρ:Env) (S:Sto) | ex (c:Str) (ρ:Env) (S:Sto) | bad
abbrev Fs:=Env->Sto->Fo
def tE(cl:Cf)(E:St->XK)(f:Fe):TE:=fun σ H Q=>∃B w ρ S,w.H=H/\Rel cl B σ w ρ S/\match f ρ S with
 | .ok d S'=>∀v w',Rel cl B σ w' ρ S'->Fut w w'->Shd cl w' v d->Q v w'.H
 | .exc c S'=>∀w',Rel cl B σ w' ρ S'->Fut w w'->E σ (.ref (cl c)) none w'.H
 | .bad=>False
def tN(cl:Cf)(E:St->XK)(f:Fe):TE:=fun σ H Q=>∃B w ρ S,w.H=H/\Rel cl B σ w ρ S/\match f ρ S with
 | .ok d S'=>∀p o w',Rel cl B σ w' ρ S'->Fut w w'->w'.H p=none->Top cl w' o d->Q (.ref p) (upd w'.H p o)
 | .exc c S'=>∀w',Rel cl B σ w' ρ S'->Fut w w'->E σ (.ref (cl c)) none w'.H
 | .bad=>False
def Hd(cl:Cf)(σ:St)(ρ:Env)(w:Wd)(v:V)(d:D):Prop:=Shd cl w v d\/∃i:Nat,ρ[i]?=some (some (true,d))/\σ[i]?=some (some v)
def tH(cl:Cf)(E:St->XK)(f:Fe):TE:=fun σ H Q=>∃B w ρ S,w.H=H/\Rel cl B σ w ρ S/\match f ρ S with
 | .ok d S'=>∀v w',Rel cl B σ w' ρ S'->Fut w w'->Hd cl σ ρ w' v d->Q v w'.H
 | .exc c S'=>∀w',Rel cl B σ w' ρ S'->Fut w w'->E σ (.ref (cl c)) none w'.H
 | .bad=>False
inductive TopV(cl:Cf)(w:Wd):V->D->Prop
 | sh {v:V} {d:D}:Shd cl w v d->TopV cl w v d
 | ow {a:Addr} {o:HO} {d:D}:w.H a=some o->Top cl w o d->TopV cl w (.ref a) d
theorem Hd.top{cl:Cf}{B:Base}{σ:St}{ρ:Env}{w:Wd}{S:Sto}{v:V}{d:D}(h:Hd cl σ ρ w v d)(R:Rel cl B σ w ρ S):TopV cl w v d:=by
 rcases h with h | ⟨i,h1,h2⟩
 ·exact .sh h
 ·obtain ⟨v',e,a,o,rfl,_,h3,t⟩:=R.slots i true d h1
  rw [h2] at e;cases e
  exact .ow h3 t
theorem Hd.up{cl:Cf}{σ:St}{ρ:Env}{w w':Wd}{v:V}{d:D}(f:Fut w w')(h:Hd cl σ ρ w v d):Hd cl σ ρ w' v d:=by
 rcases h with h | h
 ·exact .inl (h.up f)
 ·exact .inr h
theorem PE.imp{X:Cx}{e:Expr}{t t':TE}(h:PE X e t)(i:∀σ H Q,t' σ H Q->t σ H Q):PE X e t':=fun pins s σ H Q I q=>h pins s σ H Q I (i _ _ _ q)
theorem tE_tN{cl:Cf}{E:St->XK}{f:Fe}{σ:St}{H:Hp}{Q:VK}(h:tE cl E f σ H Q):tN cl E f σ H Q:=by
 obtain ⟨B,w,ρ,S,e,R,h⟩:=h
 refine ⟨B,w,ρ,S,e,R,?_⟩
 cases hf:f ρ S with
 | ok d S' =>
  rw [hf] at h
  intro p o w' R' F' hp t
  exact h (.ref p) (w'.add p o) (R'.grow (grow_add hp o)) (F'.trans (grow_add hp o).fut) (Shd.newO hp t)
 | exc c S'=>rw [hf] at h;exact h
 | bad=>rw [hf] at h;exact h
theorem tH_tE{cl:Cf}{E:St->XK}{f:Fe}{σ:St}{H:Hp}{Q:VK}(h:tH cl E f σ H Q):tE cl E f σ H Q:=by
 obtain ⟨B,w,ρ,S,e,R,h⟩:=h
 refine ⟨B,w,ρ,S,e,R,?_⟩
 cases hf:f ρ S with
 | ok d S' =>
  rw [hf] at h
  intro v w' R' F' t
  exact h v w' R' F' (.inl t)
 | exc c S'=>rw [hf] at h;exact h
 | bad=>rw [hf] at h;exact h
end S2
namespace S2
open PySem PySem.Spec PyProof.Rows L2
def Out.bind{α β:Type}(o:Out α)(k:α->Sto->Out β):Out β:=match o with | .ok a S=>k a S | .exc c S=>.exc c S | .bad=>.bad
def Out.of{α:Type}(o:Option α)(S:Sto):Out α:=match o with | some a=>.ok a S | none=>.bad
@[simp] theorem Out.bind_ok{α β:Type}(a:α)(S:Sto)(k:α->Sto->Out β):(Out.ok a S).bind k=k a S:=rfl
@[simp] theorem Out.bind_exc{α β:Type}(c:Str)(S:Sto)(k:α->Sto->Out β):(Out.exc c S:Out α).bind k=.exc c S:=rfl
@[simp] theorem Out.bind_bad{α β:Type}(k:α->Sto->Out β):(Out.bad:Out α).bind k=.bad:=rfl
@[simp] theorem Out.of_some{α:Type}(a:α)(S:Sto):Out.of (some a) S=.ok a S:=rfl
def eVar(i:Nat):Fe:=fun ρ S=>match ρ[i]? with | some (some (false,d))=>.ok d S | _=>.bad
def eBor(i:Nat):Fe:=fun ρ S=>match ρ[i]? with | some (some (_,d))=>.ok d S | _=>.bad
def eCon(d:D):Fe:=fun _ S=>.ok d S
def eUn(g:D->Option D)(f:Fe):Fe:=fun ρ S=>(f ρ S).bind fun a S1=>Out.of (g a) S1
def eBin(g:D->D->Option D)(f h:Fe):Fe:=fun ρ S=>(f ρ S).bind fun a S1=>(h ρ S1).bind fun b S2=>Out.of (g a b) S2
def isB:D->Option Bool | .bl b=>some b | _=>none
def eIf(c f h:Fe):Fe:=fun ρ S=>(c ρ S).bind fun d S1=>match isB d with | some true=>f ρ S1 | some false=>h ρ S1 | none=>.bad
def eAnd(f h:Fe):Fe:=fun ρ S=>(f ρ S).bind fun d S1=>match isB d with | some true=>h ρ S1 | some false=>.ok (.bl false) S1 | none=>.bad
def eOr(f h:Fe):Fe:=fun ρ S=>(f ρ S).bind fun d S1=>match isB d with | some true=>.ok (.bl true) S1 | some false=>h ρ S1 | none=>.bad
def notD:D->Option D | .bl b=>some (.bl (!b)) | _=>none
def evalL:List Fe->Env->Sto->Out (List D)
 | [],_,S=>.ok [] S
 | f::fs,ρ,S=>(f ρ S).bind fun d S1=>(evalL fs ρ S1).bind fun ds S2=>.ok (d::ds) S2
def small(n:Nat):Bool:=decide (n<=100000)
def eTup(fs:List Fe):Fe:=fun ρ S=>(evalL fs ρ S).bind fun ds S1=>if small ds.length then .ok (.tup ds) S1 else .bad
def eLst(fs:List Fe):Fe:=fun ρ S=>(evalL fs ρ S).bind fun ds S1=>if small ds.length then .ok (.lst ds) S1 else .bad
def eCall(g:List D->Option D)(fs:List Fe):Fe:=fun ρ S=>(evalL fs ρ S).bind fun ds S1=>Out.of (g ds) S1
theorem small_line{n:Nat}(h:small n=true):n<=sizeLine:=Nat.le_trans (of_decide_eq_true h) (by decide)
def plainE:Expr->Bool | .Starred _ _=>false | _=>true
theorem star1{e:Expr}{es:List Expr}{env:PySem.Env}(h:plainE e=true):starEach (e::es) env=(false,eval e env)::starEach es env:=by
 cases e<;>first | rfl | cases h
theorem plain_any{pos:Pos}{env:PySem.Env}:∀{es:List Expr},es.all plainE=true->(backTo pos (starEach es env)).any (·.1)=false
 | [],_=>rfl
 | e::es,h=>by
  rw [List.all_cons,Bool.and_eq_true] at h
  rw [star1 h.1]
  show (false||(backTo pos (starEach es env)).any (·.1))=false
  rw [plain_any h.2];rfl
theorem plain_all{pos:Pos}{env:PySem.Env}:∀{es:List Expr},es.all plainE=true->(backTo pos (starEach es env)).all (fun x=>!x.1)=true
 | [],_=>rfl
 | e::es,h=>by
  rw [List.all_cons,Bool.and_eq_true] at h
  rw [star1 h.1]
  show (true&&(backTo pos (starEach es env)).all (fun x=>!x.1))=true
  rw [plain_all h.2];rfl
theorem few_ok{pos:Pos}{env:PySem.Env}{es:List Expr}(h:es.all plainE=true)(hl:es.length<30):((backTo pos (starEach es env)).all (fun x=>!x.1)&&(backToKw pos (keywordEach [] env)).all (fun x=>x.1.isSome)
   && decide (es.length+([]:List Keyword).length+(if ([]:List Keyword).isEmpty then 0 else 1)<30))=true:=by
 rw [plain_all h]
 show (true&&true&&decide (es.length+0+0<30))=true
 simpa using hl
def Hds(cl:Cf)(σ:St)(ρ:Env)(w:Wd):List V->List D->Prop:=Paired (Hd cl σ ρ w)
def TopVs(cl:Cf)(w:Wd):List V->List D->Prop:=Paired (TopV cl w)
theorem Hds.top{cl:Cf}{B:Base}{σ:St}{ρ:Env}{w:Wd}{S:Sto}(R:Rel cl B σ w ρ S):∀{vs:List V} {ds:List D},Hds cl σ ρ w vs ds->TopVs cl w vs ds
 | _,_,.nil=>.nil
 | _,_,.cons h t=>.cons (h.top R) (Hds.top R t)
def tAs(cl:Cf)(E:St->XK)(fs:List Fe):TA:=fun σ H Q=>∃B w ρ S,w.H=H/\Rel cl B σ w ρ S/\match evalL fs ρ S with
 | .ok ds S'=>∀vs w',Rel cl B σ w' ρ S'->Fut w w'->Shds cl w' vs ds->Q vs w'.H
 | .exc c S'=>∀w',Rel cl B σ w' ρ S'->Fut w w'->E σ (.ref (cl c)) none w'.H
 | .bad=>False
def tHs(cl:Cf)(E:St->XK)(fs:List Fe):TA:=fun σ H Q=>∃B w ρ S,w.H=H/\Rel cl B σ w ρ S/\match evalL fs ρ S with
 | .ok ds S'=>∀vs w',Rel cl B σ w' ρ S'->Fut w w'->Hds cl σ ρ w' vs ds->Q vs w'.H
 | .exc c S'=>∀w',Rel cl B σ w' ρ S'->Fut w w'->E σ (.ref (cl c)) none w'.H
 | .bad=>False
theorem PA.imp{X:Cx}{es:List Expr}{t t':TA}(h:PA X es t)(i:∀σ H Q,t' σ H Q->t σ H Q):PA X es t':=fun pos pins s σ H Q I q=>h pos pins s σ H Q I (i _ _ _ q)
theorem PT.imp{X:Cx}{e:Expr}{t t':TT}(h:PT X e t)(i:∀σ H Q,t' σ H Q->t σ H Q):PT X e t':=fun pins s σ H Q I q=>h pins s σ H Q I (i _ _ _ q)
section
variable{X:Cx}{cl:Cf}{E:St->XK}{a b c e:Expr}{f h g:Fe}{pos:Pos}
theorem se_var{i:Nat}{x:Str}(hN:X.N[i]?=some x)(hv:Vis X.env.scope x)(hd:(x == ("__debug__":Str))=false)(hcd:(x == ("__classdict__":Str))=false):PE X (.Name x pos) (tE cl E (eVar i)):=by
 refine PE.imp (pe_var hN hv hd hcd) ?_
 rintro σ H Q ⟨B,w,ρ,S,rfl,R,q⟩
 unfold eVar at q
 split at q
 ·rename_i o d S' hm
  split at hm
  ·rename_i d' he
   cases hm
   obtain ⟨v,e,r⟩:=R.slots i false d he
   exact ⟨v,e,q v w R (Fut.refl _) r⟩
  ·cases hm
 ·rename_i hm;split at hm<;>cases hm
 ·exact q.elim
theorem se_bor{i:Nat}{x:Str}(hN:X.N[i]?=some x)(hv:Vis X.env.scope x)(hd:(x == ("__debug__":Str))=false)(hcd:(x == ("__classdict__":Str))=false):PE X (.Name x pos) (tH cl E (eBor i)):=by
 refine PE.imp (pe_var hN hv hd hcd) ?_
 rintro σ H Q ⟨B,w,ρ,S,rfl,R,q⟩
 unfold eBor at q
 split at q
 ·rename_i o d S' hm
  split at hm
  ·rename_i b d' he
   cases hm
   obtain ⟨v,e,r⟩:=R.slots i b d he
   refine ⟨v,e,q v w R (Fut.refl _) ?_⟩
   cases b with
   | false=>exact .inl r
   | true=>exact .inr ⟨i,he,e⟩
  ·cases hm
 ·rename_i hm;split at hm<;>cases hm
 ·exact q.elim
theorem se_tC{v:V}{d:D}(h:PE X e (tC v))(hd:∀w,Shd cl w v d):PE X e (tE cl E (eCon d)):=by
 refine PE.imp h ?_
 rintro σ H Q ⟨B,w,ρ,S,rfl,R,q⟩
 exact q v w R (Fut.refl _) (hd w)
theorem se_hold(h:PE X e (tE cl E f)):PE X e (tH cl E f):=PE.imp h fun _ _ _=>tH_tE
theorem se_new(h:PE X e (tN cl E f)):PE X e (tE cl E f):=PE.imp h fun _ _ _=>tE_tN
def OpD(X:Cx)(cl:Cf)(op:Value->Value->Sem Value)(g:D->D->Option D):Prop:=OpR X op fun x y H Q=>∃w d e r,w.H=H/\TopV cl w x d/\TopV cl w y e/\g d e=some r/\∀v w',Grow w w'->Shd cl w' v r->Q v w'.H
def UnD(X:Cx)(cl:Cf)(op:Value->Sem Value)(g:D->Option D):Prop:=UnR X op fun x H Q=>∃w d r,w.H=H/\TopV cl w x d/\g d=some r/\∀v w',Grow w w'->Shd cl w' v r->Q v w'.H
def CallD(X:Cx)(cl:Cf)(fv:Value)(g:List D->Option D):Prop:=CallR X fv fun xs H Q=>∃w ds r,w.H=H/\TopVs cl w xs ds/\g ds=some r/\∀v w',Grow w w'->Shd cl w' v r->Q v w'.H
def CallN(X:Cx)(cl:Cf)(fv:Value)(g:List D->Option D):Prop:=CallR X fv fun xs H Q=>∃w ds r,w.H=H/\TopVs cl w xs ds/\g ds=some r/\∀p o w',Grow w w'->w'.H p=none->Top cl w' o r->Q (.ref p) (upd w'.H p o)
def IxD(X:Cx)(cl:Cf)(g:D->D->Option D):Prop:=IxR X fun x y H Q=>∃w d e r,w.H=H/\TopV cl w x d/\TopV cl w y e/\g d e=some r/\∀v w',Grow w w'->Shd cl w' v r->Q v w'.H
theorem two{gg:D->D->Option D}{r2:R2}(hr:∀x y H Q,(∃w d e r,w.H=H/\TopV cl w x d/\TopV cl w y e/\gg d e=some r/\∀v w',Grow w w'->Shd cl w' v r->Q v w'.H)->r2 x y H Q)(σ:St)(H:Hp)(Q:VK)(q:tE cl E (eBin gg f h) σ H Q):tOp r2 (tH cl E f) (tH cl E h) σ H Q:=by
 obtain ⟨B,w,ρ,S,rfl,R,q⟩:=q
 refine ⟨B,w,ρ,S,rfl,R,?_⟩
 unfold eBin at q
 cases hf:f ρ S with
 | bad=>rw [hf] at q;exact q
 | exc c S1=>rw [hf] at q;exact q
 | ok d S1 =>
  rw [hf] at q
  intro v w1 R1 F1 h1
  refine ⟨B,w1,ρ,S1,rfl,R1,?_⟩
  dsimp only [Out.bind] at q
  cases hh:h ρ S1 with
  | bad=>rw [hh] at q;exact q
  | exc c S2=>rw [hh] at q;exact fun w2 R2 F2=>q w2 R2 (F1.trans F2)
  | ok e S2 =>
   rw [hh] at q
   intro y w2 R2 F2 h2
   dsimp only at q
   cases hg:gg d e with
   | none=>rw [hg] at q;exact q.elim
   | some r =>
    rw [hg] at q
    exact hr _ _ _ _ ⟨w2,d,e,r,rfl,(h1.up F2).top R2,h2.top R2,hg,fun v' w' gr sh=>q v' w' (R2.grow gr) (F1.trans (F2.trans gr.fut)) sh⟩
theorem se_bin{op:Operator}{gg:D->D->Option D}(ho:OpD X cl (binaryOp op) gg)(ha:PE X a (tH cl E f))(hb:PE X b (tH cl E h)):PE X (.BinOp a op b pos) (tE cl E (eBin gg f h)) :=
 PE.imp (pe_op ho ha hb) (two fun _ _ _ _ z=>z)
theorem se_ix{gg:D->D->Option D}(ho:IxD X cl gg)(ha:PE X a (tH cl E f))(hb:PE X b (tH cl E h))(hs:PlainIx b):PE X (.Subscript a b pos) (tE cl E (eBin gg f h)) :=
 PE.imp (pe_ix ho ha hb hs) (two fun _ _ _ _ z=>z)
theorem se_cmp{op:CmpOp}{gg:D->D->Option D}(ho:OpD X cl (compareOp op) gg)(ha:PE X a (tH cl E f))(hb:PE X b (tH cl E h))(hm:behindInMarks op b=false):PE X (.Compare a [op] [b] pos) (tE cl E (eBin gg f h)) :=
 PE.imp (pe_cmpR ho ha hb hm) (two fun _ _ _ _ z=>z)
theorem se_un{op:UnaryOp}{gg:D->Option D}(ho:UnD X cl (unaryOp op) gg)(ha:PE X a (tH cl E f)):PE X (.UnaryOp op a pos) (tE cl E (eUn gg f)):=by
 refine PE.imp (pe_un ho ha) ?_
 rintro σ H Q ⟨B,w,ρ,S,rfl,R,q⟩
 refine ⟨B,w,ρ,S,rfl,R,?_⟩
 unfold eUn at q
 cases hf:f ρ S with
 | bad=>rw [hf] at q;exact q
 | exc c S1=>rw [hf] at q;exact q
 | ok d S1 =>
  rw [hf] at q
  intro v w1 R1 F1 h1
  dsimp only [Out.bind] at q
  cases hg:gg d with
  | none=>rw [hg] at q;exact q.elim
  | some r =>
   rw [hg] at q
   exact ⟨w1,d,r,rfl,h1.top R1,hg,fun v' w' gr sh=>q v' w' (R1.grow gr) (F1.trans gr.fut) sh⟩
def tTr(cl:Cf)(E:St->XK)(f:Fe):TT:=fun σ H Q=>∃B w ρ S,w.H=H/\Rel cl B σ w ρ S/\match f ρ S with
 | .ok d S'=>match isB d with
  | some b=>∀w',Rel cl B σ w' ρ S'->Fut w w'->Q b w'.H
  | none=>False
 | .exc c S'=>∀w',Rel cl B σ w' ρ S'->Fut w w'->E σ (.ref (cl c)) none w'.H
 | .bad=>False
theorem isB_some{d:D}{b:Bool}(h:isB d=some b):d=.bl b:=by
 cases d<;>simp [isB] at h
 subst h;rfl
theorem shd_bl{w:Wd}{v:V}{b:Bool}(h:Shd cl w v (.bl b)):v=.bl b:=by cases h;rfl
theorem tTr_tB{σ:St}{H:Hp}{Q:Bool->Hp->Prop}(q:tTr cl E f σ H Q):tB (tE cl E f) σ H Q:=by
 obtain ⟨B,w,ρ,S,rfl,R,q⟩:=q
 refine ⟨B,w,ρ,S,rfl,R,?_⟩
 cases hf:f ρ S with
 | bad=>rw [hf] at q;exact q
 | exc c S1=>rw [hf] at q;exact q
 | ok d S1 =>
  rw [hf] at q
  intro v w1 R1 F1 h1
  dsimp only at q
  cases hb:isB d with
  | none=>rw [hb] at q;exact q.elim
  | some b =>
   rw [hb] at q
   rw [isB_some hb] at h1
   exact ⟨b,shd_bl h1,q w1 R1 F1⟩
theorem st_val(h:PE X e (tE cl E f))(he:∀whole,isTrue e X.env whole=(do let v ← whole;standAt e.pos;holding [v] (truthy v))):PT X e (tTr cl E f) :=
 PT.imp (pt_val h he) fun _ _ _ q=>tTr_tB q
theorem tTr_tTest{gg:D->D->Option D}{r2:R2}(hr:∀x y H Q,(∃w d e r,w.H=H/\TopV cl w x d/\TopV cl w y e/\gg d e=some r/\∀v w',Grow w w'->Shd cl w' v r->Q v w'.H)->r2 x y H Q){σ:St}{H:Hp}{Q:Bool->Hp->Prop}(q:tTr cl E (eBin gg f h) σ H Q):tTest (tOp r2 (tH cl E f) (tH cl E h)) σ H Q :=
 two hr σ H _ (tTr_tB q)
theorem st_cmp{op:CmpOp}{gg:D->D->Option D}(ho:OpD X cl (compareOp op) gg)(ha:PE X a (tH cl E f))(hb:PE X b (tH cl E h))(hm:behindInMarks op b=false):PT X (.Compare a [op] [b] pos) (tTr cl E (eBin gg f h)) :=
 PT.imp (pt_cmpR ho ha hb hm) fun _ _ _ q=>tTr_tTest (fun _ _ _ _ z=>z) q
theorem PW.imp{X:Cx}{e:Expr}{t t':TT}(h:PW X e t)(i:∀σ H Q,t' σ H Q->t σ H Q):PW X e t':=fun whole pins s σ H Q I q=>h whole pins s σ H Q I (i _ _ _ q)
theorem tTr_and{σ:St}{H:Hp}{Q:Bool->Hp->Prop}(q:tTr cl E (eAnd f h) σ H Q):tAnd (tTr cl E f) (tTr cl E h) σ H Q:=by
 obtain ⟨B,w,ρ,S,rfl,R,q⟩:=q
 refine ⟨B,w,ρ,S,rfl,R,?_⟩
 unfold eAnd at q
 cases hf:f ρ S with
 | bad=>rw [hf] at q;exact q
 | exc c S1=>rw [hf] at q;exact q
 | ok d S1 =>
  rw [hf] at q
  dsimp only [Out.bind] at q ⊢
  cases hb:isB d with
  | none=>rw [hb] at q;exact q.elim
  | some b =>
   rw [hb] at q
   intro w1 R1 F1
   cases b with
   | false=>exact iteF (q w1 R1 F1)
   | true =>
    refine iteT ⟨B,w1,ρ,S1,rfl,R1,?_⟩
    dsimp only at q
    cases hh:h ρ S1 with
    | bad=>rw [hh] at q;exact q
    | exc c S2=>rw [hh] at q;exact fun w2 R2 F2=>q w2 R2 (F1.trans F2)
    | ok e S2 =>
     rw [hh] at q
     dsimp only at q ⊢
     cases hb2:isB e with
     | none=>rw [hb2] at q;exact q.elim
     | some b2=>rw [hb2] at q;exact fun w2 R2 F2=>q w2 R2 (F1.trans F2)
theorem tTr_or{σ:St}{H:Hp}{Q:Bool->Hp->Prop}(q:tTr cl E (eOr f h) σ H Q):tOr (tTr cl E f) (tTr cl E h) σ H Q:=by
 obtain ⟨B,w,ρ,S,rfl,R,q⟩:=q
 refine ⟨B,w,ρ,S,rfl,R,?_⟩
 unfold eOr at q
 cases hf:f ρ S with
 | bad=>rw [hf] at q;exact q
 | exc c S1=>rw [hf] at q;exact q
 | ok d S1 =>
  rw [hf] at q
  dsimp only [Out.bind] at q ⊢
  cases hb:isB d with
  | none=>rw [hb] at q;exact q.elim
  | some b =>
   rw [hb] at q
   intro w1 R1 F1
   cases b with
   | true=>exact iteT (q w1 R1 F1)
   | false =>
    refine iteF ⟨B,w1,ρ,S1,rfl,R1,?_⟩
    dsimp only at q
    cases hh:h ρ S1 with
    | bad=>rw [hh] at q;exact q
    | exc c S2=>rw [hh] at q;exact fun w2 R2 F2=>q w2 R2 (F1.trans F2)
    | ok e S2 =>
     rw [hh] at q
     dsimp only at q ⊢
     cases hb2:isB e with
     | none=>rw [hb2] at q;exact q.elim
     | some b2=>rw [hb2] at q;exact fun w2 R2 F2=>q w2 R2 (F1.trans F2)
theorem tTr_not{σ:St}{H:Hp}{Q:Bool->Hp->Prop}(q:tTr cl E (eUn notD f) σ H Q):tNot (tTr cl E f) σ H Q:=by
 obtain ⟨B,w,ρ,S,rfl,R,q⟩:=q
 refine ⟨B,w,ρ,S,rfl,R,?_⟩
 unfold eUn at q
 cases hf:f ρ S with
 | bad=>rw [hf] at q;exact q
 | exc c S1=>rw [hf] at q;exact q
 | ok d S1 =>
  rw [hf] at q
  dsimp only [Out.bind] at q ⊢
  cases hb:isB d with
  | none =>
   have:notD d=none:=by cases d<;>simp [isB] at hb<;>rfl
   rw [this] at q;exact q.elim
  | some b =>
   rw [isB_some hb] at q
   exact q
theorem st_not(ha:PT X a (tTr cl E f)):PT X (.UnaryOp .Not a pos) (tTr cl E (eUn notD f)):=PT.imp (pt_not ha) fun _ _ _ q=>tTr_not q
theorem sw_and{rest:List Expr}(ha:PT X a (tTr cl E f))(hb:PW X (.BoolOp .And (b::rest) pos) (tTr cl E h)):PW X (.BoolOp .And (a::b::rest) pos) (tTr cl E (eAnd f h)):=PW.imp (pw_and ha hb) fun _ _ _ q=>tTr_and q
theorem sw_or{rest:List Expr}(ha:PT X a (tTr cl E f))(hb:PW X (.BoolOp .Or (b::rest) pos) (tTr cl E h)):PW X (.BoolOp .Or (a::b::rest) pos) (tTr cl E (eOr f h)):=PW.imp (pw_or ha hb) fun _ _ _ q=>tTr_or q
theorem se_and{rest:List Expr}(ha:PE X a (tE cl E f))(hb:PE X (.BoolOp .And (b::rest) pos) (tE cl E h)):PE X (.BoolOp .And (a::b::rest) pos) (tE cl E (eAnd f h)):=by
 refine PE.imp (pe_and ha hb) ?_
 rintro σ H Q ⟨B,w,ρ,S,rfl,R,q⟩
 refine ⟨B,w,ρ,S,rfl,R,?_⟩
 unfold eAnd at q
 cases hf:f ρ S with
 | bad=>rw [hf] at q;exact q
 | exc c S1=>rw [hf] at q;exact q
 | ok d S1 =>
  rw [hf] at q
  intro v w1 R1 F1 h1
  dsimp only [Out.bind] at q
  cases hb:isB d with
  | none=>rw [hb] at q;exact q.elim
  | some b =>
   rw [hb] at q
   rw [isB_some hb] at h1
   refine ⟨b,shd_bl h1,?_⟩
   cases b with
   | false=>exact iteF (q _ w1 R1 F1 (.bl false))
   | true =>
    refine iteT ⟨B,w1,ρ,S1,rfl,R1,?_⟩
    dsimp only at q
    cases hh:h ρ S1 with
    | bad=>rw [hh] at q;exact q
    | exc c S2=>rw [hh] at q;exact fun w2 R2 F2=>q w2 R2 (F1.trans F2)
    | ok e S2=>rw [hh] at q;exact fun v w2 R2 F2=>q v w2 R2 (F1.trans F2)
theorem se_or{rest:List Expr}(ha:PE X a (tE cl E f))(hb:PE X (.BoolOp .Or (b::rest) pos) (tE cl E h)):PE X (.BoolOp .Or (a::b::rest) pos) (tE cl E (eOr f h)):=by
 refine PE.imp (pe_or ha hb) ?_
 rintro σ H Q ⟨B,w,ρ,S,rfl,R,q⟩
 refine ⟨B,w,ρ,S,rfl,R,?_⟩
 unfold eOr at q
 cases hf:f ρ S with
 | bad=>rw [hf] at q;exact q
 | exc c S1=>rw [hf] at q;exact q
 | ok d S1 =>
  rw [hf] at q
  intro v w1 R1 F1 h1
  dsimp only [Out.bind] at q
  cases hb:isB d with
  | none=>rw [hb] at q;exact q.elim
  | some b =>
   rw [hb] at q
   rw [isB_some hb] at h1
   refine ⟨b,shd_bl h1,?_⟩
   cases b with
   | true=>exact iteT (q _ w1 R1 F1 (.bl true))
   | false =>
    refine iteF ⟨B,w1,ρ,S1,rfl,R1,?_⟩
    dsimp only at q
    cases hh:h ρ S1 with
    | bad=>rw [hh] at q;exact q
    | exc c S2=>rw [hh] at q;exact fun w2 R2 F2=>q w2 R2 (F1.trans F2)
    | ok e S2=>rw [hh] at q;exact fun v w2 R2 F2=>q v w2 R2 (F1.trans F2)
theorem se_not(ha:PE X a (tE cl E f)):PE X (.UnaryOp .Not a pos) (tE cl E (eUn notD f)):=by
 refine PE.imp (pe_not ha) ?_
 rintro σ H Q ⟨B,w,ρ,S,rfl,R,q⟩
 refine ⟨B,w,ρ,S,rfl,R,?_⟩
 unfold eUn at q
 cases hf:f ρ S with
 | bad=>rw [hf] at q;exact q
 | exc c S1=>rw [hf] at q;exact q
 | ok d S1 =>
  rw [hf] at q
  intro v w1 R1 F1 h1
  dsimp only [Out.bind] at q
  cases hb:isB d with
  | none =>
   have:notD d=none:=by cases d<;>simp [isB] at hb<;>rfl
   rw [this] at q;exact q.elim
  | some b =>
   rw [isB_some hb] at q h1
   exact ⟨b,shd_bl h1,q _ w1 R1 F1 (.bl _)⟩
theorem tE_if{σ:St}{H:Hp}{Q:VK}(q:tE cl E (eIf g f h) σ H Q):tIf (tTr cl E g) (tE cl E f) (tE cl E h) σ H Q:=by
 obtain ⟨B,w,ρ,S,rfl,R,q⟩:=q
 refine ⟨B,w,ρ,S,rfl,R,?_⟩
 unfold eIf at q
 cases hg:g ρ S with
 | bad=>rw [hg] at q;exact q
 | exc c S1=>rw [hg] at q;exact q
 | ok d S1 =>
  rw [hg] at q
  dsimp only [Out.bind] at q ⊢
  cases hb:isB d with
  | none=>rw [hb] at q;exact q.elim
  | some b =>
   rw [hb] at q
   intro w1 R1 F1
   cases b with
   | true =>
    refine iteT ⟨B,w1,ρ,S1,rfl,R1,?_⟩
    dsimp only at q
    cases hh:f ρ S1 with
    | bad=>rw [hh] at q;exact q
    | exc c S2=>rw [hh] at q;exact fun w2 R2 F2=>q w2 R2 (F1.trans F2)
    | ok e S2=>rw [hh] at q;exact fun v w2 R2 F2=>q v w2 R2 (F1.trans F2)
   | false =>
    refine iteF ⟨B,w1,ρ,S1,rfl,R1,?_⟩
    dsimp only at q
    cases hh:h ρ S1 with
    | bad=>rw [hh] at q;exact q
    | exc c S2=>rw [hh] at q;exact fun w2 R2 F2=>q w2 R2 (F1.trans F2)
    | ok e S2=>rw [hh] at q;exact fun v w2 R2 F2=>q v w2 R2 (F1.trans F2)
theorem se_if(hc:PT X c (tTr cl E g))(ha:PE X a (tE cl E f))(hb:PE X b (tE cl E h)):PE X (.IfExp c a b pos) (tE cl E (eIf g f h)):=PE.imp (pe_ifExp hc ha hb) fun _ _ _ q=>tE_if q
theorem sa_nil:PA X [] (tAs cl E []):=by
 refine PA.imp pa_nil ?_
 rintro σ H Q ⟨B,w,ρ,S,rfl,R,q⟩
 exact q [] w R (Fut.refl _) .nil
theorem sa_cons{es:List Expr}{fs:List Fe}(ha:PE X e (tE cl E f))(hr:PA X es (tAs cl E fs))(hs:starEach (e::es) X.env=(false,eval e X.env)::starEach es X.env):PA X (e::es) (tAs cl E (f::fs)):=by
 refine PA.imp (pa_cons ha hr hs) ?_
 rintro σ H Q ⟨B,w,ρ,S,rfl,R,q⟩
 refine ⟨B,w,ρ,S,rfl,R,?_⟩
 unfold evalL at q
 cases hf:f ρ S with
 | bad=>rw [hf] at q;exact q
 | exc c S1=>rw [hf] at q;exact q
 | ok d S1 =>
  rw [hf] at q
  intro v w1 R1 F1 h1
  refine ⟨B,w1,ρ,S1,rfl,R1,?_⟩
  dsimp only [Out.bind] at q
  cases hh:evalL fs ρ S1 with
  | bad=>rw [hh] at q;exact q
  | exc c S2=>rw [hh] at q;exact fun w2 R2 F2=>q w2 R2 (F1.trans F2)
  | ok ds S2 =>
   rw [hh] at q
   exact fun vs w2 R2 F2 h2=>q _ w2 R2 (F1.trans F2) (.cons (h1.up F2) h2)
theorem sh_nil:PA X [] (tHs cl E []):=by
 refine PA.imp pa_nil ?_
 rintro σ H Q ⟨B,w,ρ,S,rfl,R,q⟩
 exact q [] w R (Fut.refl _) .nil
theorem sh_cons{es:List Expr}{fs:List Fe}(ha:PE X e (tH cl E f))(hr:PA X es (tHs cl E fs))(hs:starEach (e::es) X.env=(false,eval e X.env)::starEach es X.env):PA X (e::es) (tHs cl E (f::fs)):=by
 refine PA.imp (pa_cons ha hr hs) ?_
 rintro σ H Q ⟨B,w,ρ,S,rfl,R,q⟩
 refine ⟨B,w,ρ,S,rfl,R,?_⟩
 unfold evalL at q
 cases hf:f ρ S with
 | bad=>rw [hf] at q;exact q
 | exc c S1=>rw [hf] at q;exact q
 | ok d S1 =>
  rw [hf] at q
  intro v w1 R1 F1 h1
  refine ⟨B,w1,ρ,S1,rfl,R1,?_⟩
  dsimp only [Out.bind] at q
  cases hh:evalL fs ρ S1 with
  | bad=>rw [hh] at q;exact q
  | exc c S2=>rw [hh] at q;exact fun w2 R2 F2=>q w2 R2 (F1.trans F2)
  | ok ds S2 =>
   rw [hh] at q
   exact fun vs w2 R2 F2 h2=>q _ w2 R2 (F1.trans F2) (.cons (h1.up F2) h2)
theorem se_tup{es:List Expr}{fs:List Fe}{k:Nat}(h:PA X es (tAs cl E fs)):PE X (.Tuple es k pos) (tE cl E (eTup fs)):=by
 refine PE.imp (pe_tup h) ?_
 rintro σ H Q ⟨B,w,ρ,S,rfl,R,q⟩
 refine ⟨B,w,ρ,S,rfl,R,?_⟩
 unfold eTup at q
 cases hf:evalL fs ρ S with
 | bad=>rw [hf] at q;exact q
 | exc c S1=>rw [hf] at q;exact q
 | ok ds S1 =>
  rw [hf] at q
  intro vs w1 R1 F1 h1
  dsimp only [Out.bind] at q
  cases hz:small ds.length with
  | false=>rw [hz,if_neg (by decide)] at q;exact q.elim
  | true =>
   rw [hz,if_pos rfl] at q
   refine ⟨by rw [h1.length];exact small_line hz,fun p hp=>?_⟩
   exact q _ (w1.add p (.tup vs)) (R1.grow (grow_add hp _)) (F1.trans (grow_add hp _).fut) (Shd.newT hp h1)
theorem se_lst{es:List Expr}{fs:List Fe}(h:PA X es (tAs cl E fs)):PE X (.List es pos) (tN cl E (eLst fs)):=by
 refine PE.imp (pe_lst h) ?_
 rintro σ H Q ⟨B,w,ρ,S,rfl,R,q⟩
 refine ⟨B,w,ρ,S,rfl,R,?_⟩
 unfold eLst at q
 cases hf:evalL fs ρ S with
 | bad=>rw [hf] at q;exact q
 | exc c S1=>rw [hf] at q;exact q
 | ok ds S1 =>
  rw [hf] at q
  intro vs w1 R1 F1 h1
  dsimp only [Out.bind] at q
  cases hz:small ds.length with
  | false=>rw [hz,if_neg (by decide)] at q;exact q.elim
  | true =>
   rw [hz,if_pos rfl] at q
   refine ⟨by rw [h1.length];exact small_line hz,fun p hp=>?_⟩
   exact q _ (.lst vs) w1 R1 F1 hp (.lst h1)
theorem tCB_D{fs:List Fe}{gg:List D->Option D}{r:List V->Hp->VK->Prop}(hr:∀xs H Q,(∃w ds r,w.H=H/\TopVs cl w xs ds/\gg ds=some r/\∀v w',Grow w w'->Shd cl w' v r->Q v w'.H)->r xs H Q){σ:St}{H:Hp}{Q:VK}(q:tE cl E (eCall gg fs) σ H Q):tCB r (tHs cl E fs) σ H Q:=by
 obtain ⟨B,w,ρ,S,rfl,R,q⟩:=q
 refine ⟨B,w,ρ,S,rfl,R,?_⟩
 unfold eCall at q
 cases hf:evalL fs ρ S with
 | bad=>rw [hf] at q;exact q
 | exc c S1=>rw [hf] at q;exact q
 | ok ds S1 =>
  rw [hf] at q
  intro vs w1 R1 F1 h1
  dsimp only [Out.bind] at q
  cases hg:gg ds with
  | none=>rw [hg] at q;exact q.elim
  | some d =>
   rw [hg] at q
   exact hr _ _ _ ⟨w1,ds,d,rfl,h1.top R1,hg,fun v w' gr sh=>q v w' (R1.grow gr) (F1.trans gr.fut) sh⟩
theorem tCB_N{fs:List Fe}{gg:List D->Option D}{r:List V->Hp->VK->Prop}(hr:∀xs H Q,(∃w ds r,w.H=H/\TopVs cl w xs ds/\gg ds=some r/\∀p o w',Grow w w'->w'.H p=none->Top cl w' o r->Q (.ref p) (upd w'.H p o))->r xs H Q){σ:St}{H:Hp}{Q:VK}(q:tN cl E (eCall gg fs) σ H Q):tCB r (tHs cl E fs) σ H Q:=by
 obtain ⟨B,w,ρ,S,rfl,R,q⟩:=q
 refine ⟨B,w,ρ,S,rfl,R,?_⟩
 unfold eCall at q
 cases hf:evalL fs ρ S with
 | bad=>rw [hf] at q;exact q
 | exc c S1=>rw [hf] at q;exact q
 | ok ds S1 =>
  rw [hf] at q
  intro vs w1 R1 F1 h1
  dsimp only [Out.bind] at q
  cases hg:gg ds with
  | none=>rw [hg] at q;exact q.elim
  | some d =>
   rw [hg] at q
   exact hr _ _ _ ⟨w1,ds,d,rfl,h1.top R1,hg,fun p o w' gr hp t=>q p o w' (R1.grow gr) (F1.trans gr.fut) hp t⟩
end
end S2
namespace S2
open PySem PySem.Spec PyProof.Rows L2
def Root.out:Option Root->Option Root | some (.slot _)=>some .far | o=>o
theorem Root.out_none{o:Option Root}:Root.out o=none↔o=none:=by
 cases o with
 | none=>exact ⟨fun h=>h,fun h=>h⟩
 | some r=>cases r<;>simp [Root.out]
def isObjL:Option Root->Bool | some (.fld _ _)=>true | some (.obj _)=>true | _=>false
def Wd.inn(w:Wd):Wd:=⟨w.H,fun a=>Root.out (w.ow a),w.mu⟩
def Wd.base(w:Wd):Base:=⟨fun a=>if isObjL (w.ow a)=true then none else w.H a,fun a=>Root.out (w.ow a)⟩
def Wd.back(w w':Wd):Wd:=⟨w'.H,fun a=>if (w.base.Fr a).isSome=true then w.ow a else Root.out (w'.ow a),w'.mu⟩
theorem fut_inn(w:Wd):Fut w w.inn:=⟨fun a o h k=>⟨h,by show Root.out (w.ow a)=none;rw [k];rfl⟩,fun _ _ h=>h⟩
theorem base_some{w:Wd}{a:Addr}{o:HO}(h:w.H a=some o)(k:isObjL (w.ow a)=false):w.base.Fr a=some o:=by
 show (if isObjL (w.ow a)=true then none else w.H a)=_
 rw [k,if_neg (by decide)];exact h
theorem of_base{w:Wd}{a:Addr}{o:HO}(h:w.base.Fr a=some o):w.H a=some o/\isObjL (w.ow a)=false:=by
 have h':(if isObjL (w.ow a)=true then none else w.H a)=some o:=h
 split at h'
 ·cases h'
 ·rename_i z;exact ⟨h',by simpa using z⟩
section
variable{cl:Cf}{B:Base}{σ:St}{w w':Wd}{ρ:Env}{S S':Sto}
theorem World'.enter(W:World' cl B w S):World' cl w.base w.inn S where
 fr:=fun a o h=>⟨(of_base h).1,rfl⟩
 own:=fun a r h=>by
  have h':Root.out (w.ow a)=some r:=h
  cases e:w.ow a with
  | none=>rw [e] at h';cases h'
  | some q =>
   cases q with
   | slot i=>rw [e] at h';cases h';exact .inl rfl
   | far=>rw [e] at h';cases h';exact .inl rfl
   | fld n f=>exact .inr (by show (if isObjL (w.ow a)=true then none else w.H a)=none;rw [e];rfl)
   | obj n=>exact .inr (by show (if isObjL (w.ow a)=true then none else w.H a)=none;rw [e];rfl)
 len:=W.len
 obj:=fun n ob h=>by
  obtain ⟨a,e,x⟩:=W.obj n ob h
  refine ⟨a,e,x.keep (fut_inn w) fun a o ha hn=>⟨ha,?_⟩⟩
  show Root.out (w.ow a)=w.ow a
  cases e:w.ow a with
  | none=>rfl
  | some q=>cases q with
   | slot i=>rw [e] at hn;exact hn.elim
   | _=>rfl
theorem base_of(W:World' cl B w S){a:Addr}{o:HO}(h:B.Fr a=some o):w.base.Fr a=some o:=by
 refine base_some (W.fr a o h).1 ?_
 cases e:w.ow a with
 | none=>rfl
 | some q =>
  rcases W.own a q e with rfl | z
  ·rfl
  ·rw [h] at z;cases z
theorem fut_back(W':World' cl w.base w' S'):Fut w' (w.back w') where
 keep:=fun a o h k=>by
  refine ⟨h,?_⟩
  show (if (w.base.Fr a).isSome=true then w.ow a else Root.out (w'.ow a))=none
  split
  ·rename_i z
   obtain ⟨u,hu⟩:=Option.isSome_iff_exists.mp z
   have:=(W'.fr a u hu).2
   rw [k] at this
   exact Root.out_none.mp this.symm
  ·rw [k];rfl
 mu:=fun _ _ h=>h
theorem Rel.leave(R:Rel cl B σ w ρ S)(W':World' cl w.base w' S')(F:Fut w.inn w'):Rel cl B σ (w.back w') ρ S'/\Fut w (w.back w'):=by
 have fb:=fut_back W'
 have ff:Fut w (w.back w'):=(fut_inn w).trans (F.trans fb)
 have in_:∀a o,w.base.Fr a=some o->(w.back w').H a=some o/\(w.back w').ow a=w.ow a:=fun a o h=>by
  refine ⟨(W'.fr a o h).1,?_⟩
  show (if (w.base.Fr a).isSome=true then w.ow a else _)=_
  rw [h];rfl
 refine ⟨⟨⟨fun a o h=>?_,fun a r h=>?_,W'.len,fun n ob h=>?_⟩,R.len,fun i o d h=>?_⟩,ff⟩
 ·have:=in_ a o (base_of R.wd h)
  exact ⟨this.1,this.2.trans (R.wd.fr a o h).2⟩
 ·cases hb:B.Fr a with
  | none=>exact .inr rfl
  | some o =>
   have:=(in_ a o (base_of R.wd hb)).2
   rw [h] at this
   rcases R.wd.own a r this.symm with z | z
   ·exact .inl z
   ·rw [hb] at z;cases z
 ·obtain ⟨a,e,x⟩:=W'.obj n ob h
  refine ⟨a,e,x.keep fb fun a o ha hn=>⟨ha,?_⟩⟩
  show (if (w.base.Fr a).isSome=true then w.ow a else Root.out (w'.ow a))=_
  cases e:w'.ow a with
  | none=>rw [e] at hn;exact hn.elim
  | some q =>
   rcases W'.own a q e with rfl | z
   ·rw [e] at hn;exact hn.elim
   ·rw [z]
    cases q with
    | slot i=>rw [e] at hn;exact hn.elim
    | _=>rfl
 ·obtain ⟨v,e,x⟩:=R.slots i o d h
  refine ⟨v,e,x.keep ff fun a u ha hr=>?_⟩
  have:=in_ a u (base_some ha (by rw [hr];rfl))
  exact ⟨this.1,this.2.trans hr⟩
def Wd.del(w:Wd)(a:Addr):Wd:=⟨fun b=>if b=a then none else w.H b,w.ow,w.mu⟩
theorem fut_del{a:Addr}(k:w.ow a≠none):Fut w (w.del a) where
 keep:=fun b o h e=>⟨by
  show (if b=a then none else w.H b)=_
  rw [if_neg (fun z=>k (by rw [<-z];exact e))];exact h,e⟩
 mu:=fun _ _ h=>h
theorem upd_del{a:Addr}{o:HO}(h:w.H a=some o):upd (w.del a).H a o=w.H:=by
 funext b
 by_cases e:b=a
 ·rw [e,upd_same,h]
 ·rw [upd_ne e]
  show (if b=a then none else w.H b)=_
  rw [if_neg e]
theorem Rel.del{a:Addr}(R:Rel cl B σ w ρ S)(k:w.ow a=some .far)(hb:B.Fr a=none):Rel cl B σ (w.del a) ρ S:=by
 have fd:Fut w (w.del a):=fut_del (by rw [k];exact Option.some_ne_none _)
 have kp:∀b o,w.H b=some o->b≠a->(w.del a).H b=some o:=fun b o h n=>by
  show (if b=a then none else w.H b)=_
  rw [if_neg n];exact h
 refine ⟨⟨fun b o h=>⟨kp b o (R.wd.fr b o h).1 (fun z=>by rw [z,hb] at h;cases h),(R.wd.fr b o h).2⟩,R.wd.own,R.wd.len,fun n ob h=>?_⟩,R.len,fun i o d h=>?_⟩
 ·obtain ⟨c,e,x⟩:=R.wd.obj n ob h
  exact ⟨c,e,x.keep fd fun b o hb' hn=>⟨kp b o hb' (fun z=>by rw [z,k] at hn;exact hn.elim),rfl⟩⟩
 ·obtain ⟨v,e,x⟩:=R.slots i o d h
  exact ⟨v,e,x.keep fd fun b o hb' hr=>⟨kp b o hb' (fun z=>by rw [z,k] at hr;cases hr),hr⟩⟩
end
def RetV(cl:Cf)(w:Wd):Bool->V->D->Prop
 | false,v,d=>Shd cl w v d
 | true,v,d=>∃a o i,v=.ref a/\w.ow a=some (.slot i)/\w.H a=some o/\Top cl w o d
def spOf(cl:Cf)(n:Nat)(own:Bool)(G:List D->Sto->Out D):Sp:=fun vs H Q E=>vs.length=n/\∃B w ds S,w.H=H/\World' cl B w S/\Shds cl w vs ds/\match G ds S with
 | .ok d S'=>∀v w',World' cl B w' S'->Fut w w'->RetV cl w' own v d->Q v w'.H
 | .exc c S'=>∀w',World' cl B w' S'->Fut w w'->E (.ref (cl c)) none w'.H
 | .bad=>False
def PassesS(CX:CXT)(X:Cx)(E:St->XK):Prop:=∀(pins:Z3) (σ:St) (H:Hp) (s:Shared) (e:Value) (s':Shared),Inv X pins σ H s->CX X.stack H s (E σ) e s'->X.xe e s'
def tCallS(sp:Sp)(dvs:List V)(E:St->XK)(t:TA):TE:=fun σ H Q=>t σ H fun vs H1=>sp (vs++dvs) H1 Q (E σ)
section
variable{X:Cx}{CX:CXT}{k:Nat}{f C:Addr}{fd:FuncData}{ps:List Str}{sp:Sp}{dvs:List V}{ds:List Value}{E:St->XK}{x m:Str}{p pos apos:Pos}{e o:Expr}{es:List Expr}{ta:TE}{t:TA}
theorem run_fnS{pins:Z3}{σ:St}{H:Hp}{s:Shared}{Q:VK}{us:List Value}{vs:List V}(F:FnOk X.prog X.w X.K X.mg X.base CX k f fd ps sp)(hr:Room k X.A)(hb:Binds X.K fd ps ds)(hd:Vals dvs ds)(hx:PassesS CX X E)
  (I:Inv X pins σ H s) (r:Vals vs us) (h:sp (vs++dvs) H Q (E σ)):wpAny (model X.prog X.w) X.A (call (.ref f) us) (EP X pins σ Q) X.xe s:=by
 have r2:Vals (vs++dvs) (us++ds):=r.append hd
 have hl:(us++ds).length=ps.length:=by rw [<-r2.length];exact F.len _ _ _ _ h
 refine wpAny_call (codeAny_mono (F.run X.A X.stack s H ⟨us,[]⟩ (us++ds) (vs++dvs) Q (E σ) hr I.env0 (hb s us I.kIn hl) r2 h) fun r s' hq=>?_)
 cases r with
 | error e=>exact hx pins σ H s e s' I hq
 | ok fl =>
  cases fl with
  | ret u=>exact I.after hq
  | next=>exact False.elim hq
  | brk=>exact False.elim hq
  | cont=>exact False.elim hq
theorem pe_callS(F:FnOk X.prog X.w X.K X.mg X.base CX k f fd ps sp)(hr:Room k X.A)(hg:Gl X x)(hm:X.mg x=some (.ref f))(hk:PySem.W.keepIn X.K (.ref f)=true)(hb:Binds X.K fd ps ds)(hd:Vals dvs ds)(hx:PassesS CX X E)
  (ha:PA X (e::es) t) (hdb:(x == ("__debug__":Str))=false) (he:starEach (e::es) X.env=(false,eval e X.env)::starEach es X.env) (hpl:(backTo pos (starEach es X.env)).any (·.1)=false) :
  PE X (.Call (.Name x p) (e::es) [] pos) (tCallS sp dvs E t):=by
 intro pins s σ H Q I h
 refine wpAny_Call_Name_kw (ld_glob I hg hm ?_ hdb)
 refine PySem.W.callWith_K (h₀:=X.base) I.ok.mod.kin hk (thn (ha pos pins s σ H _ I h) fun us s1 ⟨vs,H1,I1,r,q⟩=>⟨I1.kIn,?_⟩) he hpl
 exact run_fnS F hr hb hd hx I1 r q
theorem pe_call0S(F:FnOk X.prog X.w X.K X.mg X.base CX k f fd ps sp)(hr:Room k X.A)(hg:Gl X x)(hm:X.mg x=some (.ref f))(hk:PySem.W.keepIn X.K (.ref f)=true)(hb:Binds X.K fd ps ds)(hd:Vals dvs ds)(hx:PassesS CX X E)
  (hdb:(x == ("__debug__":Str))=false):PE X (.Call (.Name x p) [] [] pos) (tCallS sp dvs E tNil):=by
 intro pins s σ H Q I h
 refine wpAny_Call_Name_kw (ld_glob I hg hm ?_ hdb)
 exact PySem.W.callWith_K0 I.kIn hk (run_fnS (us:=[]) F hr hb hd hx I .nil h)
end
def eFn(G:List D->Sto->Out D)(fs:List Fe):Fe:=fun ρ S=>(evalL fs ρ S).bind fun ds S1=>G ds S1
section
variable{cl:Cf}{E:St->XK}{fs:List Fe}{G:List D->Sto->Out D}{σ:St}{H:Hp}{Q:VK}{n:Nat}
theorem call_E(q:tE cl E (eFn G fs) σ H Q)(hn:fs.length=n):tCallS (spOf cl n false G) [] E (tAs cl E fs) σ H Q:=by
 obtain ⟨B,w,ρ,S,rfl,R,q⟩:=q
 refine ⟨B,w,ρ,S,rfl,R,?_⟩
 unfold eFn at q
 cases hf:evalL fs ρ S with
 | bad=>rw [hf] at q;exact q
 | exc c S1=>rw [hf] at q;exact q
 | ok ds S1 =>
  rw [hf] at q
  intro vs w1 R1 F1 h1
  dsimp only [Out.bind] at q
  have hl:∀(fs:List Fe) (S S1:Sto) (ds:List D),evalL fs ρ S=.ok ds S1->ds.length=fs.length:=by
   intro fs
   induction fs with
   | nil=>intro S S1 ds h;cases h;rfl
   | cons f fs ih =>
    intro S S1 ds h
    unfold evalL at h
    cases h1:f ρ S with
    | bad=>rw [h1] at h;cases h
    | exc c S2=>rw [h1] at h;cases h
    | ok d S2 =>
     rw [h1] at h
     dsimp only [Out.bind] at h
     cases h2:evalL fs ρ S2 with
     | bad=>rw [h2] at h;cases h
     | exc c S3=>rw [h2] at h;cases h
     | ok es S3=>rw [h2] at h;cases h;rw [List.length_cons,List.length_cons,ih S2 _ es h2]
  refine ⟨by rw [List.append_nil,h1.length,hl fs S S1 ds hf];exact hn,w1.base,w1.inn,ds,S1,rfl,R1.wd.enter,by rw [List.append_nil];exact h1.up (fut_inn w1),?_⟩
  cases hg:G ds S1 with
  | bad=>rw [hg] at q;exact q
  | exc c S2 =>
   rw [hg] at q
   intro w2 W2 F2
   obtain ⟨R3,F3⟩:=R1.leave W2 F2
   exact q (w1.back w2) R3 (F1.trans F3)
  | ok d S2 =>
   rw [hg] at q
   intro v w2 W2 F2 r2
   obtain ⟨R3,F3⟩:=R1.leave W2 F2
   exact q v (w1.back w2) R3 (F1.trans F3) (Shd.up (fut_back W2) r2)
theorem call_N(q:tN cl E (eFn G fs) σ H Q)(hn:fs.length=n):tCallS (spOf cl n true G) [] E (tAs cl E fs) σ H Q:=by
 obtain ⟨B,w,ρ,S,rfl,R,q⟩:=q
 refine ⟨B,w,ρ,S,rfl,R,?_⟩
 unfold eFn at q
 cases hf:evalL fs ρ S with
 | bad=>rw [hf] at q;exact q
 | exc c S1=>rw [hf] at q;exact q
 | ok ds S1 =>
  rw [hf] at q
  intro vs w1 R1 F1 h1
  dsimp only [Out.bind] at q
  have hl:∀(fs:List Fe) (S S1:Sto) (ds:List D),evalL fs ρ S=.ok ds S1->ds.length=fs.length:=by
   intro fs
   induction fs with
   | nil=>intro S S1 ds h;cases h;rfl
   | cons f fs ih =>
    intro S S1 ds h
    unfold evalL at h
    cases h1:f ρ S with
    | bad=>rw [h1] at h;cases h
    | exc c S2=>rw [h1] at h;cases h
    | ok d S2 =>
     rw [h1] at h
     dsimp only [Out.bind] at h
     cases h2:evalL fs ρ S2 with
     | bad=>rw [h2] at h;cases h
     | exc c S3=>rw [h2] at h;cases h
     | ok es S3=>rw [h2] at h;cases h;rw [List.length_cons,List.length_cons,ih S2 _ es h2]
  refine ⟨by rw [List.append_nil,h1.length,hl fs S S1 ds hf];exact hn,w1.base,w1.inn,ds,S1,rfl,R1.wd.enter,by rw [List.append_nil];exact h1.up (fut_inn w1),?_⟩
  cases hg:G ds S1 with
  | bad=>rw [hg] at q;exact q
  | exc c S2 =>
   rw [hg] at q
   intro w2 W2 F2
   obtain ⟨R3,F3⟩:=R1.leave W2 F2
   exact q (w1.back w2) R3 (F1.trans F3)
  | ok d S2 =>
   rw [hg] at q
   intro v w2 W2 F2 r2
   obtain ⟨R3,F3⟩:=R1.leave W2 F2
   obtain ⟨a,o,i,rfl,k1,k2,t⟩:=r2
   have hfr:w1.base.Fr a=none:=(W2.own a _ k1).elim (fun z=>by cases z) fun z=>z
   have k3:(w1.back w2).ow a=some .far:=by
    show (if (w1.base.Fr a).isSome=true then w1.ow a else Root.out (w2.ow a))=_
    rw [hfr,k1];rfl
   have hb:B.Fr a=none:=by
    cases z:B.Fr a with
    | none=>rfl
    | some u=>rw [base_of R1.wd z] at hfr;cases hfr
   have hd:=fut_del (w:=w1.back w2) (a:=a) (by rw [k3];exact Option.some_ne_none _)
   have:=q a o ((w1.back w2).del a) (R3.del k3 hb) (F1.trans (F3.trans hd)) (if_pos rfl) ((t.up (fut_back W2)).up hd)
   rw [upd_del (w:=w1.back w2) k2] at this
   exact this
end
end S2
namespace S2
open PySem PySem.Spec PyProof.Rows L2
def frz1(ρ:Env)(i:Nat):Env:=match ρ[i]? with | some (some (true,d))=>ρ.set i (some (false,d)) | _=>ρ
def frz(is:List Nat)(ρ:Env):Env:=is.foldl frz1 ρ
def sFz(is:List Nat)(f:Fs):Fs:=fun ρ S=>f (frz is ρ) S
def sNx:Fs:=fun ρ S=>.nx ρ S
def sBk:Fs:=fun ρ S=>.bk ρ S
def sSeq(f g:Fs):Fs:=fun ρ S=>match f ρ S with | .nx ρ' S'=>g ρ' S' | o=>o
def sAsg(i:Nat)(own:Bool)(f:Fe):Fs:=fun ρ S=>match f ρ S with | .ok d S'=>.nx (ρ.set i (some (own,d))) S' | .exc c S'=>.ex c ρ S' | .bad=>.bad
def sExp(f:Fe):Fs:=fun ρ S=>match f ρ S with | .ok _ S'=>.nx ρ S' | .exc c S'=>.ex c ρ S' | .bad=>.bad
def sRet(f:Fe):Fs:=fun ρ S=>match f ρ S with | .ok d S'=>.rt d S' | .exc c S'=>.ex c ρ S' | .bad=>.bad
def sRetN:Fs:=fun _ S=>.rt .non S
def sRetV(i:Nat):Fs:=fun ρ S=>match ρ[i]? with | some (some (true,d))=>.rt d S | _=>.bad
def sIf(c:Fe)(f g:Fs):Fs:=fun ρ S=>match c ρ S with | .ok d S'=>(match isB d with | some true=>f ρ S' | some false=>g ρ S' | none=>.bad) | .exc x S'=>.ex x ρ S' | .bad=>.bad
def Post(cl:Cf)(E:St->XK)(own:Bool)(B:Base)(w:Wd)(De:Ends):Fo->Prop
 | .nx ρ' S'=>∀σ' w',Rel cl B σ' w' ρ' S'->Fut w w'->De.nx σ' w'.H
 | .bk ρ' S'=>∀σ' w',Rel cl B σ' w' ρ' S'->Fut w w'->De.bk σ' w'.H
 | .ct ρ' S'=>∀σ' w',Rel cl B σ' w' ρ' S'->Fut w w'->De.ct σ' w'.H
 | .rt d S'=>∀v w',World' cl B w' S'->Fut w w'->RetV cl w' own v d->De.rt v w'.H
 | .ex c ρ' S'=>∀σ' w',Rel cl B σ' w' ρ' S'->Fut w w'->E σ' (.ref (cl c)) none w'.H
 | .bad=>False
theorem Post.up{cl:Cf}{E:St->XK}{own:Bool}{B:Base}{w w1:Wd}{De:Ends}(f:Fut w w1):∀{o:Fo},Post cl E own B w De o->Post cl E own B w1 De o
 | .nx _ _,h=>fun σ' w' R F=>h σ' w' R (f.trans F)
 | .bk _ _,h=>fun σ' w' R F=>h σ' w' R (f.trans F)
 | .ct _ _,h=>fun σ' w' R F=>h σ' w' R (f.trans F)
 | .rt _ _,h=>fun v w' R F=>h v w' R (f.trans F)
 | .ex _ _ _,h=>fun σ' w' R F=>h σ' w' R (f.trans F)
 | .bad,h=>h
def tS(cl:Cf)(E:St->XK)(own:Bool)(f:Fs):TS:=fun De σ H=>∃B w ρ S,w.H=H/\Rel cl B σ w ρ S/\Post cl E own B w De (f ρ S)
theorem PS.imp{X:Cx}{st:Stmt}{t t':TS}(h:PS X st t)(i:∀De σ H,t' De σ H->t De σ H):PS X st t':=fun pins s σ H De I q=>h pins s σ H De I (i _ _ _ q)
theorem PSs.imp{X:Cx}{st:List Stmt}{t t':TS}(h:PSs X st t)(i:∀De σ H,t' De σ H->t De σ H):PSs X st t':=fun pins s σ H De I q=>h pins s σ H De I (i _ _ _ q)
section
variable{cl:Cf}{B:Base}{σ:St}{w:Wd}{ρ:Env}{S:Sto}
theorem Rel.put{i:Nat}{v:V}{d:D}(R:Rel cl B σ w ρ S)(h:Shd cl w v d):Rel cl B (σ.set i (some v)) w (ρ.set i (some (false,d))) S where
 wd:=R.wd
 len:=by rw [List.length_set,List.length_set];exact R.len
 slots:=fun j o e hj=>by
  by_cases hij:i=j
  ·subst hij
   have hlt:i<ρ.length:=by
    have:=(List.getElem?_eq_some_iff.mp hj).1
    rw [List.length_set] at this;exact this
   rw [List.getElem?_set_self hlt] at hj
   cases hj
   exact ⟨v,by rw [List.getElem?_set_self (by rw [R.len];exact hlt)],h⟩
  ·rw [List.getElem?_set_ne hij] at hj ⊢
   exact R.slots j o e hj
def Wd.addAs(w:Wd)(p:Addr)(o:HO)(r:Root):Wd:=⟨upd w.H p o,fun a=>if a=p then some r else if w.ow a=some r then some .far else w.ow a,w.mu⟩
theorem fut_addAs{p:Addr}{o:HO}{r:Root}(h:w.H p=none):Fut w (w.addAs p o r) where
 keep:=fun a u ha hk=>by
  have n:a≠p:=ne_of_none ha h
  refine ⟨?_,?_⟩
  ·show upd w.H p o a=_
   rw [upd_ne n];exact ha
  ·show (if a=p then some r else if w.ow a=some r then some Root.far else w.ow a)=none
   rw [if_neg n,if_neg (by rw [hk];exact fun z=>by cases z)];exact hk
 mu:=fun _ _ h=>h
theorem Rel.own{i:Nat}{p:Addr}{o:HO}{d:D}(R:Rel cl B σ w ρ S)(hp:w.H p=none)(t:Top cl w o d):Rel cl B (σ.set i (some (.ref p))) (w.addAs p o (.slot i)) (ρ.set i (some (true,d))) S:=by
 have ff:=fut_addAs (w:=w) (p:=p) (o:=o) (r:=.slot i) hp
 have kp:∀a u,w.H a=some u->w.ow a≠some (.slot i)->(w.addAs p o (.slot i)).H a=some u/\(w.addAs p o (.slot i)).ow a=w.ow a:=fun a u ha hk=>by
  have n:a≠p:=ne_of_none ha hp
  refine ⟨?_,?_⟩
  ·show upd w.H p o a=_
   rw [upd_ne n];exact ha
  ·show (if a=p then _ else if w.ow a=some (Root.slot i) then some Root.far else w.ow a)=_
   rw [if_neg n,if_neg hk]
 have hBp:B.Fr p=none:=by
  cases z:B.Fr p with
  | none=>rfl
  | some u=>have:=(R.wd.fr p u z).1;rw [hp] at this;cases this
 refine ⟨⟨fun a u h=>?_,fun a r h=>?_,R.wd.len,fun n ob h=>?_⟩,by rw [List.length_set,List.length_set];exact R.len,fun j b e hj=>?_⟩
 ·have hne:w.ow a≠some (.slot i):=fun z=>by
   rcases R.wd.own a _ z with y | y
   ·cases y
   ·rw [h] at y;cases y
  have:=kp a u (R.wd.fr a u h).1 hne
  exact ⟨this.1,this.2.trans (R.wd.fr a u h).2⟩
 ·have h':(if a=p then some (Root.slot i) else if w.ow a=some (Root.slot i) then some Root.far else w.ow a)=some r:=h
  split at h'
  ·rename_i e;rw [e];exact .inr hBp
  ·split at h'
   ·cases h';exact .inl rfl
   ·exact R.wd.own a r h'
 ·obtain ⟨a,e,x⟩:=R.wd.obj n ob h
  exact ⟨a,e,x.keep ff fun b u hb hn=>kp b u hb fun z=>by rw [z] at hn;exact hn⟩
 ·by_cases hij:i=j
  ·subst hij
   have hlt:i<ρ.length:=by
    have:=(List.getElem?_eq_some_iff.mp hj).1
    rw [List.length_set] at this;exact this
   rw [List.getElem?_set_self hlt] at hj
   cases hj
   exact ⟨.ref p,by rw [List.getElem?_set_self (by rw [R.len];exact hlt)],p,o,rfl,if_pos rfl,upd_same,t.up ff⟩
  ·rw [List.getElem?_set_ne hij] at hj ⊢
   obtain ⟨v,e1,x⟩:=R.slots j b e hj
   refine ⟨v,e1,x.keep ff fun a u ha hr=>?_⟩
   have:=kp a u ha (by rw [hr];exact fun z=>hij (by cases z;rfl))
   exact ⟨this.1,this.2.trans hr⟩
def Wd.mut(w:Wd)(p:Addr)(o:HO):Wd:=⟨upd w.H p o,w.ow,w.mu⟩
theorem fut_mut{p:Addr}{o:HO}(h:w.ow p≠none):Fut w (w.mut p o) where
 keep:=fun a u ha hk=>⟨by
  show upd w.H p o a=_
  rw [upd_ne (fun z=>h (by rw [<-z];exact hk))];exact ha,hk⟩
 mu:=fun _ _ h=>h
theorem Rel.mut{i:Nat}{p:Addr}{o:HO}{d d0:D}(R:Rel cl B σ w ρ S)(hs:σ[i]?=some (some (.ref p)))(hk:w.ow p=some (.slot i))(t:Top cl w o d):Rel cl B σ (w.mut p o) (ρ.set i (some (true,d))) S:=by
 have ff:=fut_mut (w:=w) (p:=p) (o:=o) (by rw [hk];exact Option.some_ne_none _)
 have kp:∀a u,w.H a=some u->w.ow a≠some (.slot i)->(w.mut p o).H a=some u/\(w.mut p o).ow a=w.ow a:=fun a u ha hn=>⟨by
  show upd w.H p o a=_
  rw [upd_ne (fun z=>hn (by rw [z];exact hk))];exact ha,rfl⟩
 have hBp:B.Fr p=none:=(R.wd.own p _ hk).elim (fun z=>by cases z) fun z=>z
 refine ⟨⟨fun a u h=>?_,R.wd.own,R.wd.len,fun n ob h=>?_⟩,by rw [List.length_set];exact R.len,fun j b e hj=>?_⟩
 ·have hne:w.ow a≠some (.slot i):=fun z=>by
   rcases R.wd.own a _ z with y | y
   ·cases y
   ·rw [h] at y;cases y
  have:=kp a u (R.wd.fr a u h).1 hne
  exact ⟨this.1,(R.wd.fr a u h).2⟩
 ·obtain ⟨a,e,x⟩:=R.wd.obj n ob h
  exact ⟨a,e,x.keep ff fun b u hb hn=>kp b u hb fun z=>by rw [z] at hn;exact hn⟩
 ·by_cases hij:i=j
  ·subst hij
   have hlt:i<ρ.length:=by
    have:=(List.getElem?_eq_some_iff.mp hj).1
    rw [List.length_set] at this;exact this
   rw [List.getElem?_set_self hlt] at hj
   cases hj
   exact ⟨.ref p,hs,p,o,rfl,hk,upd_same,t.up ff⟩
  ·rw [List.getElem?_set_ne hij] at hj
   obtain ⟨v,e1,x⟩:=R.slots j b e hj
   refine ⟨v,e1,x.keep ff fun a u ha hr=>?_⟩
   have:=kp a u ha (by rw [hr];exact fun z=>hij (by cases z;rfl))
   exact ⟨this.1,this.2.trans hr⟩
def Wd.free(w:Wd)(r:Root):Wd:=⟨w.H,fun a=>if w.ow a=some r then none else w.ow a,w.mu⟩
theorem fut_free{r:Root}:Fut w (w.free r) where
 keep:=fun a u ha hk=>⟨ha,by
  show (if w.ow a=some r then none else w.ow a)=none
  rw [hk];rfl⟩
 mu:=fun _ _ h=>h
theorem Top.shd{o:HO}{d:D}{a:Addr}(h:w.H a=some o)(k:w.ow a=none):Top cl w o d->Shd cl w (.ref a) d
 | .lst t=>.lst h k t
 | .dicK t=>.dicK h k t
theorem Rel.frz1(R:Rel cl B σ w ρ S)(i:Nat):∃w',w'.H=w.H/\Fut w w'/\Rel cl B σ w' (frz1 ρ i) S:=by
 unfold S2.frz1
 split
 ·rename_i d hd
  have ff:=fut_free (w:=w) (r:=.slot i)
  have kp:∀a u,w.H a=some u->w.ow a≠some (.slot i)->(w.free (.slot i)).H a=some u/\(w.free (.slot i)).ow a=w.ow a:=fun a u ha hn=>⟨ha,if_neg hn⟩
  refine ⟨w.free (.slot i),rfl,ff,⟨fun a u h=>?_,fun a r h=>?_,R.wd.len,fun n ob h=>?_⟩,by rw [List.length_set];exact R.len,fun j b e hj=>?_⟩
  ·have hne:w.ow a≠some (.slot i):=fun z=>by
    rcases R.wd.own a _ z with y | y
    ·cases y
    ·rw [h] at y;cases y
   have:=kp a u (R.wd.fr a u h).1 hne
   exact ⟨this.1,this.2.trans (R.wd.fr a u h).2⟩
  ·have h':(if w.ow a=some (Root.slot i) then none else w.ow a)=some r:=h
   split at h'
   ·cases h'
   ·exact R.wd.own a r h'
  ·obtain ⟨a,e,x⟩:=R.wd.obj n ob h
   exact ⟨a,e,x.keep ff fun b u hb hn=>kp b u hb fun z=>by rw [z] at hn;exact hn⟩
  ·by_cases hij:i=j
   ·subst hij
    have hlt:i<ρ.length:=(List.getElem?_eq_some_iff.mp hd).1
    rw [List.getElem?_set_self hlt] at hj
    cases hj
    obtain ⟨v,e1,a,o,rfl,h1,h2,t⟩:=R.slots i true d hd
    refine ⟨.ref a,e1,(t.up ff).shd h2 ?_⟩
    show (if w.ow a=some (Root.slot i) then none else w.ow a)=none
    rw [if_pos h1]
   ·rw [List.getElem?_set_ne hij] at hj
    obtain ⟨v,e1,x⟩:=R.slots j b e hj
    refine ⟨v,e1,x.keep ff fun a u ha hr=>?_⟩
    have:=kp a u ha (by rw [hr];exact fun z=>hij (by cases z;rfl))
    exact ⟨this.1,this.2.trans hr⟩
 ·exact ⟨w,rfl,Fut.refl _,R⟩
theorem Rel.frz:∀(is:List Nat) {w:Wd} {ρ:Env},Rel cl B σ w ρ S->∃w',w'.H=w.H/\Fut w w'/\Rel cl B σ w' (frz is ρ) S
 | [],w,ρ,R=>⟨w,rfl,Fut.refl _,R⟩
 | i::is,w,ρ,R=>by
  obtain ⟨w1,e1,f1,R1⟩:=R.frz1 i
  obtain ⟨w2,e2,f2,R2⟩:=Rel.frz is R1
  exact ⟨w2,e2.trans e1,f1.trans f2,R2⟩
end
section
variable{X:Cx}{cl:Cf}{E:St->XK}{own:Bool}{st:Stmt}{rest:List Stmt}{f g:Fs}{e:Expr}{fe:Fe}{pos pos':Pos}
theorem ss_fz(is:List Nat)(h:PS X st (tS cl E own f)):PS X st (tS cl E own (sFz is f)):=by
 refine PS.imp h ?_
 rintro De σ H ⟨B,w,ρ,S,rfl,R,q⟩
 obtain ⟨w',e',f',R'⟩:=R.frz is
 exact ⟨B,w',frz is ρ,S,e',R',Post.up f' q⟩
theorem ss_nil:PSs X [] (tS cl E own sNx):=by
 refine PSs.imp pss_nil ?_
 rintro De σ H ⟨B,w,ρ,S,rfl,R,q⟩
 exact q σ w R (Fut.refl _)
theorem ss_cons(h1:PS X st (tS cl E own f))(h2:PSs X rest (tS cl E own g)):PSs X (st::rest) (tS cl E own (sSeq f g)):=by
 refine PSs.imp (pss_cons h1 h2) ?_
 rintro De σ H ⟨B,w,ρ,S,rfl,R,q⟩
 refine ⟨B,w,ρ,S,rfl,R,?_⟩
 unfold sSeq at q
 cases hf:f ρ S with
 | nx ρ' S' =>
  rw [hf] at q
  intro σ' w' R' F'
  exact ⟨B,w',ρ',S',rfl,R',Post.up F' q⟩
 | bk ρ' S'=>rw [hf] at q;exact q
 | ct ρ' S'=>rw [hf] at q;exact q
 | rt d S'=>rw [hf] at q;exact q
 | ex c ρ' S'=>rw [hf] at q;exact q
 | bad=>rw [hf] at q;exact q
theorem ss_pass:PS X (.Pass pos) (tS cl E own sNx):=by
 refine PS.imp ps_pass ?_
 rintro De σ H ⟨B,w,ρ,S,rfl,R,q⟩
 exact q σ w R (Fut.refl _)
theorem ss_brk:PS X (.Break pos) (tS cl E own sBk):=by
 refine PS.imp ps_break ?_
 rintro De σ H ⟨B,w,ρ,S,rfl,R,q⟩
 exact q σ w R (Fut.refl _)
theorem asg_E{i:Nat}{De:Ends}{σ:St}{H:Hp}(q:tS cl E own (sAsg i false fe) De σ H):tAsg (tE cl E fe) (gName i) De σ H:=by
 obtain ⟨B,w,ρ,S,rfl,R,q⟩:=q
 refine ⟨B,w,ρ,S,rfl,R,?_⟩
 unfold sAsg at q
 cases hf:fe ρ S with
 | bad=>rw [hf] at q;exact q
 | exc c S1=>rw [hf] at q;exact fun w' R' F'=>q σ w' R' F'
 | ok d S1 =>
  rw [hf] at q
  intro v w' R' F' h'
  exact q _ w' (R'.put h') F'
theorem asg_N{i:Nat}{De:Ends}{σ:St}{H:Hp}(q:tS cl E own (sAsg i true fe) De σ H):tAsg (tN cl E fe) (gName i) De σ H:=by
 obtain ⟨B,w,ρ,S,rfl,R,q⟩:=q
 refine ⟨B,w,ρ,S,rfl,R,?_⟩
 unfold sAsg at q
 cases hf:fe ρ S with
 | bad=>rw [hf] at q;exact q
 | exc c S1=>rw [hf] at q;exact fun w' R' F'=>q σ w' R' F'
 | ok d S1 =>
  rw [hf] at q
  intro p o w' R' F' hp t
  exact q _ (w'.addAs p o (.slot i)) (R'.own hp t) (F'.trans (fut_addAs hp))
theorem ss_asg{i:Nat}{x:Str}(hN:X.N.Nodup)(hi:X.N[i]?=some x)(hx:Loc X.env.scope x)(he:PE X e (tE cl E fe))(hs:swapsWith e (some (.Name x pos')) pos.line X.env=pure false)(hf:X.fn x=true\/X.env.scope.names.lookup x=some .local):PS X (.Assign [.Name x pos'] e pos) (tS cl E own (sAsg i false fe)) :=
 PS.imp (ps_set hN hi hx he hs hf) fun _ _ _ q=>asg_E q
theorem ss_asgN{i:Nat}{x:Str}(hN:X.N.Nodup)(hi:X.N[i]?=some x)(hx:Loc X.env.scope x)(he:PE X e (tN cl E fe))(hs:swapsWith e (some (.Name x pos')) pos.line X.env=pure false)(hf:X.fn x=true\/X.env.scope.names.lookup x=some .local):PS X (.Assign [.Name x pos'] e pos) (tS cl E own (sAsg i true fe)) :=
 PS.imp (ps_set hN hi hx he hs hf) fun _ _ _ q=>asg_N q
theorem ss_exp(he:PE X e (tE cl E fe))(hs:swapsWith e none pos.line X.env=pure false):PS X (.Expr e pos) (tS cl E own (sExp fe)):=by
 refine PS.imp (ps_expr he hs) ?_
 rintro De σ H ⟨B,w,ρ,S,rfl,R,q⟩
 refine ⟨B,w,ρ,S,rfl,R,?_⟩
 unfold sExp at q
 cases hf:fe ρ S with
 | bad=>rw [hf] at q;exact q
 | exc c S1=>rw [hf] at q;exact fun w' R' F'=>q σ w' R' F'
 | ok d S1=>rw [hf] at q;exact fun v w' R' F' _=>q σ w' R' F'
theorem ss_ret(he:PE X e (tE cl E fe)):PS X (.Return (some e) pos) (tS cl E false (sRet fe)):=by
 refine PS.imp (ps_ret he) ?_
 rintro De σ H ⟨B,w,ρ,S,rfl,R,q⟩
 refine ⟨B,w,ρ,S,rfl,R,?_⟩
 unfold sRet at q
 cases hf:fe ρ S with
 | bad=>rw [hf] at q;exact q
 | exc c S1=>rw [hf] at q;exact fun w' R' F'=>q σ w' R' F'
 | ok d S1=>rw [hf] at q;exact fun v w' R' F' h'=>q v w' R'.wd F' h'
theorem ss_retN(he:PE X e (tN cl E fe)):PS X (.Return (some e) pos) (tS cl E true (sRet fe)):=by
 refine PS.imp (ps_ret he) ?_
 rintro De σ H ⟨B,w,ρ,S,rfl,R,q⟩
 refine ⟨B,w,ρ,S,rfl,R,?_⟩
 unfold sRet at q
 cases hf:fe ρ S with
 | bad=>rw [hf] at q;exact q
 | exc c S1=>rw [hf] at q;exact fun w' R' F'=>q σ w' R' F'
 | ok d S1 =>
  rw [hf] at q
  intro p o w' R' F' hp t
  have ff:=fut_addAs (w:=w') (p:=p) (o:=o) (r:=.slot 0) hp
  exact q (.ref p) (w'.addAs p o (.slot 0)) (Rel.own (i:=0) R' hp t).wd (F'.trans ff) ⟨p,o,0,rfl,if_pos rfl,upd_same,t.up ff⟩
theorem ss_retV{i:Nat}{x:Str}(hN:X.N[i]?=some x)(hv:Vis X.env.scope x)(hd:(x == ("__debug__":Str))=false)(hcd:(x == ("__classdict__":Str))=false):PS X (.Return (some (.Name x pos')) pos) (tS cl E true (sRetV i)):=by
 refine PS.imp (ps_ret (pe_var hN hv hd hcd)) ?_
 rintro De σ H ⟨B,w,ρ,S,rfl,R,q⟩
 unfold sRetV at q
 split at q
 ·rename_i d hd
  obtain ⟨v,e1,a,o,rfl,h1,h2,t⟩:=R.slots i true d hd
  exact ⟨_,e1,q _ w R.wd (Fut.refl _) ⟨a,o,i,rfl,h1,h2,t⟩⟩
 ·exact q.elim
theorem ss_ret0:PS X (.Return none pos) (tS cl E false sRetN):=by
 refine PS.imp ps_retN ?_
 rintro De σ H ⟨B,w,ρ,S,rfl,R,q⟩
 exact q .non w R.wd (Fut.refl _) .non
theorem ss_if{c:Expr}{a b:List Stmt}{fc:Fe}(hc:PT X c (tTr cl E fc))(ha:PSs X a (tS cl E own f))(hb:PSs X b (tS cl E own g)):PS X (.If c a b pos) (tS cl E own (sIf fc f g)):=by
 refine PS.imp (ps_if hc ha hb) ?_
 rintro De σ H ⟨B,w,ρ,S,rfl,R,q⟩
 refine ⟨B,w,ρ,S,rfl,R,?_⟩
 unfold sIf at q
 cases hg:fc ρ S with
 | bad=>rw [hg] at q;exact q
 | exc c S1=>rw [hg] at q;exact fun w' R' F'=>q σ w' R' F'
 | ok d S1 =>
  rw [hg] at q
  dsimp only at q ⊢
  cases hb:isB d with
  | none=>rw [hb] at q;exact q.elim
  | some b =>
   rw [hb] at q
   intro w1 R1 F1
   cases b with
   | true=>exact iteT ⟨B,w1,ρ,S1,rfl,R1,Post.up F1 q⟩
   | false=>exact iteF ⟨B,w1,ρ,S1,rfl,R1,Post.up F1 q⟩
end
def sApp(i:Nat)(fe:Fe):Fs:=fun ρ S=>match ρ[i]? with
 | some (some (true,.lst l))=>(match fe ρ S with
  | .ok d S'=>if small l.length then .nx (ρ.set i (some (true,.lst (l++[d])))) S' else .bad
  | .exc c S'=>.ex c ρ S' | .bad=>.bad)
 | _=>.bad
section
variable{X:Cx}{cl:Cf}{E:St->XK}{own:Bool}{e:Expr}{fe:Fe}{pos pos':Pos}
theorem small_lt{n:Nat}(h:small n=true):n<sizeLine:=Nat.lt_of_le_of_lt (of_decide_eq_true h) (by decide)
theorem Rel.list{B:Base}{σ:St}{w:Wd}{ρ:Env}{S:Sto}{i:Nat}{l:List D}(R:Rel cl B σ w ρ S)(h:ρ[i]?=some (some (true,.lst l))):∃a xs,σ[i]?=some (some (.ref a))/\w.ow a=some (.slot i)/\w.H a=some (.lst xs)/\Shds cl w xs l:=by
 obtain ⟨v,e1,a,o,rfl,h1,h2,t⟩:=R.slots i true _ h
 cases t with
 | lst t=>exact ⟨a,_,e1,h1,h2,t⟩
theorem ss_app{i:Nat}{x:Str}{ap cp:Pos}(hN:X.N[i]?=some x)(hv:Vis X.env.scope x)(hd:(x == ("__debug__":Str))=false)(hcd:(x == ("__classdict__":Str))=false)(he:PE X e (tE cl E fe))
  (hpl:plainE e=true) (hln:(ap.endLine == cp.line)=true):PS X (.Expr (.Call (.Attribute (.Name x pos') "append" ap) [e] [] cp) pos) (tS cl E own (sApp i fe)):=by
 refine PS.imp (ps_expr (pe_bm (es:=[]) PySem.F.plainAttrs_list PySem.F.slot_list_append PySem.F.type_list_append mt_append (pe_var hN hv hd hcd) (pa_cons he pa_nil (star1 hpl)) (hfew:=few_ok (by simp [hpl]) (by simp)) (hline:=hln) (hs:=star1 hpl) (hplain:=rfl))) ?_
 rintro De σ H ⟨B,w,ρ,S,rfl,R,q⟩
 unfold sApp at q
 split at q
 ·rename_i l hl
  obtain ⟨a,xs,e1,h1,h2,t⟩:=R.list hl
  refine ⟨_,e1,.inl ⟨rfl,_,SqL.of h2⟩,B,w,ρ,S,rfl,R,?_⟩
  cases hf:fe ρ S with
  | bad=>rw [hf] at q;exact q
  | exc c S1=>rw [hf] at q;exact fun w' R' F'=>q σ w' R' F'
  | ok d S1 =>
   rw [hf] at q
   intro v w' R' F' h'
   dsimp only at q
   cases hz:small l.length with
   | false=>rw [hz,if_neg (by decide)] at q;exact q.elim
   | true =>
    rw [hz,if_pos rfl] at q
    obtain ⟨a',xs',e1',h1',h2',t'⟩:=R'.list hl
    rw [e1] at e1';cases e1'
    refine ⟨a,xs',v,rfl,rfl,h2',by rw [t'.length];exact small_lt hz,?_⟩
    exact q σ (w'.mut a (.lst (xs'++[v]))) (R'.mut (d0:=.non) e1 h1' (.lst (t'.append (.cons h' .nil)))) (F'.trans (fut_mut (by rw [h1'];exact Option.some_ne_none _)))
 ·exact q.elim
end
end S2
namespace L2
open PySem PySem.Spec PyProof.Rows
section
variable{prog:Program}{w:World}{A:Around}{E:Z5}{s:Shared}
theorem tup_next{it t:Addr}{j:Nat}{vs:Array Value}{v:Value}{Q:Z5}(st:s.heap.IsTupleIter it t j)(tp:s.heap.IsTuple t vs)(e:vs[j]?=some v)
  (q:∀h',h'.IsTupleIter it t (j+1)->Heap.SameBut it s.heap h'->Q v { s with heap:=h' }):wpAny (model prog w) A (Builtin.SmallTypes.nextOf (.ref it)) Q E s:=by
 obtain ⟨o1,g1,c1,d1⟩:=id st
 obtain ⟨o2,g2,_,n2,d2⟩:=tp
 unfold Builtin.SmallTypes.nextOf
 refine wpAny_bind (wpAny_callSpecial?_slot (name:=Str.ofString "__next__") st.typeIs F.slot_tuple_iterator_next (wpAny_call_entry F.slot_tuple_iterator_next st.typeIs F.entry_tuple_iterator_next ?_ (F.args_tuple_iterator_next_1 _)))
 show wpAny _ _ (field (.ref it) 0 >>= _) _ _ s;refine wpAny_bind (wpAny_field g1 d1 (x:=.ref t) rfl ?_)
 show wpAny _ _ (if (Value.ref t == Value.none)=true then _ else _) _ _ s;rw [if_neg (show ¬ ((Value.ref t == Value.none)=true) from fun z=>Bool.false_ne_true z)]
 show wpAny _ _ (field (.ref it) 1 >>= _) _ _ s;refine wpAny_bind (wpAny_field g1 d1 (x:=.int j 0) rfl ?_)
 show wpAny _ _ (seqItems? (.ref t) >>= _) _ _ s;refine wpAny_bind (wpAny_seqItems g2 d2 ?_)
 simp only [Int.toNat_natCast,e];refine wpAny_bind (wpAny_setField g1 d1 (by simp) (wpAny_pure ⟨v,rfl,wpAny_pure (q _ ?_ (Heap.SameBut.update ..))⟩))
 refine ⟨_,Heap.get?_update_self _ g1 (Obj.isFreed_of_fields (Obj.data_mapFields d1 _)),(Obj.cls_mapFields ..).trans c1,?_⟩
 rw [Obj.data_mapFields d1];simp [rawInt]
theorem tup_end{it t:Addr}{j:Nat}{vs:Array Value}{Q:Z5}(hh:A.handled=none)(st:s.heap.IsTupleIter it t j)(tp:s.heap.IsTuple t vs)(e:vs[j]?=none)
  (q:∀h' x,Heap.ExtBut it s.heap h'->(∃o,h'.get? x=some o/\o.cls=.type "StopIteration")->E (.ref x) { s with heap:=h' }):wpAny (model prog w) A (Builtin.SmallTypes.nextOf (.ref it)) Q E s:=by
 obtain ⟨o1,g1,c1,d1⟩:=id st
 obtain ⟨o2,g2,_,n2,d2⟩:=tp
 unfold Builtin.SmallTypes.nextOf
 refine wpAny_bind (wpAny_callSpecial?_slot (name:=Str.ofString "__next__") st.typeIs F.slot_tuple_iterator_next (wpAny_call_entry F.slot_tuple_iterator_next st.typeIs F.entry_tuple_iterator_next ?_ (F.args_tuple_iterator_next_1 _)))
 show wpAny _ _ (field (.ref it) 0 >>= _) _ _ s;refine wpAny_bind (wpAny_field g1 d1 (x:=.ref t) rfl ?_)
 show wpAny _ _ (if (Value.ref t == Value.none)=true then _ else _) _ _ s;rw [if_neg (show ¬ ((Value.ref t == Value.none)=true) from fun z=>Bool.false_ne_true z)]
 show wpAny _ _ (field (.ref it) 1 >>= _) _ _ s;refine wpAny_bind (wpAny_field g1 d1 (x:=.int j 0) rfl ?_)
 show wpAny _ _ (seqItems? (.ref t) >>= _) _ _ s;refine wpAny_bind (wpAny_seqItems g2 d2 ?_)
 simp only [Int.toNat_natCast,e];refine wpAny_bind (wpAny_rule (wpAny_bind (wpAny_setField g1 d1 (by simp) ?_)))
 show wpAny _ _ (newExc (.type "StopIteration") [] >>= _) _ _ _;refine wpAny_bind ?_
 simp only [newExc,newTuple];refine wpAny_bind (wpAny_newObj_type ?_ (by size_fits))
 refine wpAny_bind (m:=firstArgMember _ _) (wpAny_of_eq (a:=Value.none) ?_ ?_)
 ·first | rfl | (simp only [firstArgMember];rfl)
 refine wpAny_newObj_type ?_ (by size_fits);simp only [raiseNew];refine wpAny_bind (wpAny_handled ?_)
 first | rw [show A.in1.handled=none from hh] | rw [hh]
 refine wpAny_bind (wpAny_pure (wpAny_throw (q _ _ (((Heap.SameBut.update ..).extBut.push _).push _) ⟨_,Heap.get?_push_size _ rfl,rfl⟩)))
theorem draws_tup(hh:A.handled=none)(it t:Addr)(ne:t≠it)(vs:Array Value):Draws prog w A it [it,t] vs.size (fun j v=>vs[j]?=some v) (fun j h=>h.IsTupleIter it t j/\h.IsTuple t vs) where
 live:=fun _ _ st=>by obtain ⟨⟨o,ho,_⟩,_⟩:=st;exact ⟨o,ho⟩
 frame:=fun _ _ _ st hk=>⟨st.1.at fun o e=>hk it (by simp) o e,by obtain ⟨o,ho,r⟩:=st.2;exact ⟨o,hk t (by simp) o ho,r⟩⟩
 item:=fun j s Q E hj st hQ=>tup_next st.1 st.2 (v:=vs[j]) (by simp [hj]) fun h' st' sb=>hQ _ h' s.toks (by simp [hj]) ⟨st',by obtain ⟨o,ho,r⟩:=st.2;exact ⟨o,(sb.2 t ne).trans ho,r⟩⟩ sb
 done:=fun s Q E st hE=>tup_end hh st.1 st.2 (by simp) hE
theorem enum_new_tup(l:Addr)(items:Array Value)(n:Nat)(dct:Option Addr)(sl:Array (Option Value)) :
  Meets (Builtin.«enumerate.__new__» ⟨[.type "enumerate",.ref l],[]⟩) (fun _ R s=>s.heap.get? l=some { cls:=.type "tuple",dict:=dct,data:=.seq items n,slots:=sl } ∧
   R (.ok (.ret (.ref (s.heap.push { cls:=.type "tuple_iterator",data:=.fields #[.ref l,.int 0 0] }).objs.size)))
    { s with heap:=(s.heap.push { cls:=.type "tuple_iterator",data:=.fields #[.ref l,.int 0 0] }).push { cls:=.type "enumerate",data:=.fields #[.none,.bool false,.ref s.heap.objs.size,rawInt 0,.none,.none] } }) :=
 .of_wp fun prog w A R s h=>by
  obtain ⟨hp,g,d,tk,os⟩:=s
  obtain ⟨hl,h⟩:=h
  have hsub:=sub_enumerate
  have hT:Heap.IsTuple (Shared.heap ⟨hp,g,d,tk,os⟩) l items:=⟨_,hl,rfl,n,rfl⟩
  wp_walk using AutoSeq1.wpAny_loadPart' hl
  refine wpAny_stack_any fun st=>wpAny_pure ?_
  split
  ·rename_i c _ _ _ _ _
   cases (c == Value.type "enumerate")<;>(wp_walk using AutoSeq1.wpAny_loadPart' hl,wpAny_pyIter_tuple hT;exact ⟨_,rfl,h⟩)
  ·wp_walk using AutoSeq1.wpAny_loadPart' hl,wpAny_pyIter_tuple hT;exact ⟨_,rfl,h⟩
theorem call_enum_tup{l:Addr}{items:Array Value}{Q:Z5}(hL:s.heap.IsTuple l items)
  (h:∀h',IsEnum h' (s.heap.objs.size+1) s.heap.objs.size 0 .none->h'.IsTupleIter s.heap.objs.size l 0->h'.objs.size=s.heap.objs.size+2->(∀b o,s.heap.get? b=some o->h'.get? b=some o)->Q (.ref (s.heap.objs.size+1)) { s with heap:=h' }) :
  wpAny (model prog w) A (call (.type "enumerate") [.ref l]) Q E s:=by
 obtain ⟨⟨c,dct,dt,sl⟩,hl,hc,n,hd⟩:=hL
 simp only at hc hd
 subst hc hd
 refine callType_new F.called_enumerate (by decide) (F.typeCall_enumerate_1 _) (F.newCall_enumerate_1 _) (fun obj=>F.args_object_init_2 obj _) F.entry_enumerate_new (enum_new_tup l items n dct sl) ⟨hl,?_⟩
 generalize hp1:s.heap.push { cls:=.type "tuple_iterator",data:=.fields #[.ref l,.int 0 0] }=h1
 have hz:h1.objs.size=s.heap.objs.size+1:=by rw [<-hp1];exact Heap.size_push ..
 have k1:∀b o,s.heap.get? b=some o->h1.get? b=some o:=fun b o x=>by rw [<-hp1];exact Heap.get?_push_of_some _ x
 have i1:h1.get? s.heap.objs.size=some { cls:=.type "tuple_iterator",data:=.fields #[.ref l,.int 0 0] }:=by rw [<-hp1];exact Heap.get?_push_size _ rfl
 show _/\_
 rw [hz]
 have he:IsEnum (h1.push { cls:=.type "enumerate",data:=.fields #[.none,.bool false,.ref s.heap.objs.size,rawInt 0,.none,.none] }) (s.heap.objs.size+1) s.heap.objs.size 0 .none:=by
  rw [<-hz];exact Heap.get?_push_size _ rfl
 exact ⟨⟨_,he,rfl⟩,h _ he ⟨_,Heap.get?_push_of_some _ i1,rfl,rfl⟩ (by rw [Heap.size_push,hz]) fun b o x=>Heap.get?_push_of_some _ (k1 b o x)⟩
end
section
variable{X:Cx}{pins:Z3}{σ:St}{H:Hp}{s:Shared}
theorem Inv.turnedL{t':Nat}{h':Heap}{ch:List Addr}(I:Inv X pins σ H s)(k:∀b o,b ∉ ch->s.heap.get? b=some o->h'.get? b=some o)(hf:∀b∈ch,FpOk X pins H b):Inv X pins σ H { s with heap:=h',toks:=t' }:=by
 have nit:∀b u,H b=some u->b ∉ ch:=fun b u e z=>by rw [(hf b z).1] at e;cases e
 refine I.step (g':=s.gens) (d':=s.drawn) (ch:=ch) (fun b hb=>?_) (fun b o _ _ hc e _=>k b o hc e) (fun b o _ _ hc e _=>⟨o.slots,k b o hc e⟩) (fun _ _ _ _ n=>n) (fun b o hc e=>⟨o,k b o hc e⟩) (fun _ _ e=>e) (fun _ _ _ e=>e) (fun b ps e=>⟨#[],by rw [e];simp⟩) (fun m hm=>?_) (fun b u e=>?_) I.bare
 ·obtain ⟨f0,f1,f2,f3,f4,f5⟩:=hf b hb
  exact ⟨f3,f1,f4,f5⟩
 ·obtain ⟨o,es,ep,ho,r⟩:=hm
  exact ⟨o,es,ep,k _ o (fun z=>(hf _ z).2.1 rfl) ho,r⟩
 ·refine (I.hok b u e).stay (fun c v hc q=>k c v ?_ q) (fun _ q=>q) fun _ _ q=>q
  rcases hc with z | z
  ·rw [z];exact nit b u e
  ·exact nit c _ z
def ItE(S:Hp->Addr->List V->Prop)(a:Addr):It :=
 ⟨fun i H=>∃xs x,S H a xs/\xs[i]?=some x,fun i H x H'=>∃t y,x=.ref t/\H t=none/\H'=upd H t (.tup [.int (i:Int),y])/\∀xs,S H a xs->xs[i]?=some y,fun i H=>∃xs,S H a xs/\xs.length<=i⟩
theorem enum_out{i:Nat}{e it T:Addr}{h1 h2:Heap}{tk:Nat}{x:Value}{y:V}(I:Inv X pins σ H s)(hf:∀b∈[e,it],FpOk X pins H b)(hT:T=s.heap.objs.size)(te:h1.get? T=some { cls:=.type "tuple",data:=.seq #[.int i tk,x] })
  (k:∀b o,b≠e->b≠it->s.heap.get? b=some o->h1.get? b=some o) (sb:Heap.SameBut e h1 h2) (ne:T≠e) (ry:RelV y x):Inv X pins σ (upd H T (.tup [.int (i:Int),y])) { s with heap:=h2,toks:=tk+1 }/\H T=none:=by
 have fr:H T=none:=by rw [hT];exact I.hok.fresh (Nat.le_refl _)
 refine ⟨?_,fr⟩
 have I1:Inv X pins σ H { s with heap:=h2,toks:=tk+1 }:=I.turnedL (ch:=[e,it]) (fun b o hb q=>by
  simp only [List.mem_cons,List.not_mem_nil,or_false,not_or] at hb
  exact (sb.2 b hb.1).trans (k b o hb.1 hb.2 q)) hf
 refine I1.track fr (by rw [hT];exact I.sz) (by rw [hT];exact Nat.ne_of_gt I.lt) (fun z c q=>?_) (fun p hp=>?_) ?_
 ·obtain ⟨v,cq⟩:=I.cell z c q
  rw [hT];exact Nat.ne_of_lt cq.lt
 ·rw [hT];exact Nat.ne_of_lt (Heap.lt_size (I.pin p hp).1)
 ·refine ⟨by show 2<=sizeLine;decide,[.int i tk,x],.cons ⟨tk,rfl⟩ (.cons ry .nil),?_⟩
  exact ⟨_,(sb.2 T ne).trans te,rfl,_,rfl⟩
theorem turn_enumL{P:Program}{w:World}{K:PySem.W.Frag}{elts:List Expr}{x1:Nat}{pos:Pos}(a it e:Addr)(hei:e≠it):Turn P w K (.Tuple elts x1 pos) (ItE (SqL K) a) [e,it] e (fun i h=>(∃old,IsEnum h e it (i:Int) old)/\h.IsListIter it a i) where
 mem:=by simp
 obj:=fun i h st b hb=>by
  obtain ⟨⟨old,he⟩,o,ho,c,d⟩:=st
  simp only [List.mem_cons,List.not_mem_nil,or_false] at hb
  rcases hb with rfl | rfl
  ·exact ⟨_,he,fun v z=>by cases z⟩
  ·exact ⟨o,ho,fun v z=>by rw [d] at z;cases z⟩
 keep:=fun i h h' st k=>by
  obtain ⟨⟨old,he⟩,hi⟩:=st
  exact ⟨⟨old,k e (by simp) _ he⟩,hi.at fun o q=>k it (by simp) o q⟩
 item:=by
  intro X hP hw hK hc i pins s σ H E I hf st hg
  subst hP hw hK
  obtain ⟨xs,x,hq,hx⟩:=hg
  obtain ⟨⟨old,he⟩,hi⟩:=st
  obtain ⟨its,rv,p,hz⟩:=I.list hq
  obtain ⟨u,hu,ru⟩:=rv.get hx
  refine wpAny_pyNext_enum_item he hi p.isList (x:=u) (by simpa using hu) hei fun h1 ho hi1 ht1 hz1 k1=>?_
  have neT:s.heap.objs.size≠e:=Nat.ne_of_gt (Heap.lt_size he)
  refine ⟨_,rfl,wpAny_letOwnedTupleGo_enum ho fun h2 he2 sb=>?_⟩
  obtain ⟨I2,fr⟩:=enum_out (h2:=h2) (y:=x) I hf rfl ht1 k1 sb neT ru
  refine ⟨.ref s.heap.objs.size,_,I2,rfl,⟨_,x,rfl,fr,rfl,fun ys hy=>by rw [I.list_inj hy hq];exact hx⟩,⟨⟨u,by simpa using he2⟩,hi1.at fun o q=>(sb.2 it (Ne.symm hei)).trans q⟩,fun b hb=>?_⟩
  rw [upd_ne]
  ·exact (hf b hb).1
  ·rintro rfl
   simp only [List.mem_cons,List.not_mem_nil,or_false] at hb
   rcases hb with z | z
   ·exact neT z
   ·obtain ⟨o,q,_⟩:=hi
    exact absurd (Heap.lt_size q) (by rw [<-z];exact Nat.lt_irrefl _)
 done:=by
  intro X hP hw hK hc i pins s σ H E I hf st hg
  subst hP hw hK
  obtain ⟨xs,hq,hx⟩:=hg
  obtain ⟨⟨old,he⟩,hi⟩:=st
  obtain ⟨its,rv,p,hz⟩:=I.list hq
  have hl:=rv.length
  obtain ⟨f0,f1,f2,f3,f4,f5⟩:=hf it (by simp)
  exact wpAny_pyNext_enum_end (I.ok.hd hc) he hi p.isList (by simp;omega) fun h' eb=>⟨rfl,I.turned (t':=s.toks) (fun b o hb q=>eb b o hb q) f0 f1 f3 f4 f5⟩
 self:=fun _ _ _ _ _ st h=>by
  obtain ⟨⟨old,he⟩,_⟩:=st
  exact wpAny_pyIter_enum he h
theorem turn_enumT{P:Program}{w:World}{K:PySem.W.Frag}{elts:List Expr}{x1:Nat}{pos:Pos}(a it e:Addr)(hei:e≠it):Turn P w K (.Tuple elts x1 pos) (ItE (SqT K) a) [e,it] e (fun i h=>(∃old,IsEnum h e it (i:Int) old)/\h.IsTupleIter it a i) where
 mem:=by simp
 obj:=fun i h st b hb=>by
  obtain ⟨⟨old,he⟩,o,ho,c,d⟩:=st
  simp only [List.mem_cons,List.not_mem_nil,or_false] at hb
  rcases hb with rfl | rfl
  ·exact ⟨_,he,fun v z=>by cases z⟩
  ·exact ⟨o,ho,fun v z=>by rw [d] at z;cases z⟩
 keep:=fun i h h' st k=>by
  obtain ⟨⟨old,he⟩,hi⟩:=st
  exact ⟨⟨old,k e (by simp) _ he⟩,hi.at fun o q=>k it (by simp) o q⟩
 item:=by
  intro X hP hw hK hc i pins s σ H E I hf st hg
  subst hP hw hK
  obtain ⟨xs,x,hq,hx⟩:=hg
  obtain ⟨⟨old,he⟩,hi⟩:=st
  obtain ⟨its,rv,p,hz⟩:=I.tuple hq
  obtain ⟨u,hu,ru⟩:=rv.get hx
  have hlt:i<its.toArray.size:=by
   have:=(List.getElem?_eq_some_iff.mp hu).1
   simpa using this
  have nat':a≠it:=by
   rintro rfl
   obtain ⟨o,q,c,_⟩:=hi
   obtain ⟨o2,q2,c2,_⟩:=id p
   rw [q] at q2;cases q2
   rw [c] at c2
   simp at c2
  have nae:e ∉ [it,a]:=by
   simp only [List.mem_cons,List.not_mem_nil,or_false,not_or]
   refine ⟨hei,?_⟩
   rintro rfl
   obtain ⟨o2,q2,c2,_⟩:=id p
   rw [he] at q2;cases q2
   simp at c2
  refine wpAny_pyNext_enum_itemD (D:=draws_tup (A:=X.A.in1) (I.ok.hd hc) it a nat' its.toArray) he ⟨hi,show s.heap.IsTuple a its.toArray from p⟩ hlt hei nae fun u' h1 tk hu' ho hi1 ht1 hz1 k1=>?_
  have eu:u'=u:=by
   have:its[i]?=some u':=by simpa using hu'
   rw [hu] at this;exact (Option.some.inj this).symm
  subst eu
  have neT:s.heap.objs.size≠e:=Nat.ne_of_gt (Heap.lt_size he)
  refine ⟨_,rfl,wpAny_letOwnedTupleGo_enum ho fun h2 he2 sb=>?_⟩
  obtain ⟨I2,fr⟩:=enum_out (h2:=h2) (y:=x) I hf rfl ht1 k1 sb neT ru
  refine ⟨.ref s.heap.objs.size,_,I2,rfl,⟨_,x,rfl,fr,rfl,fun ys hy=>by rw [I.tuple_inj hy hq];exact hx⟩,⟨⟨u',by simpa using he2⟩,hi1.1.at fun o q=>(sb.2 it (Ne.symm hei)).trans q⟩,fun b hb=>?_⟩
  rw [upd_ne]
  ·exact (hf b hb).1
  ·rintro rfl
   simp only [List.mem_cons,List.not_mem_nil,or_false] at hb
   rcases hb with z | z
   ·exact neT z
   ·obtain ⟨o,q,_⟩:=hi
    exact absurd (Heap.lt_size q) (by rw [<-z];exact Nat.lt_irrefl _)
 done:=by
  intro X hP hw hK hc i pins s σ H E I hf st hg
  subst hP hw hK
  obtain ⟨xs,hq,hx⟩:=hg
  obtain ⟨⟨old,he⟩,hi⟩:=st
  obtain ⟨its,rv,p,hz⟩:=I.tuple hq
  have hl:=rv.length
  obtain ⟨f0,f1,f2,f3,f4,f5⟩:=hf it (by simp)
  have ty:s.TypeIs (.ref e) "enumerate":=⟨_,he,rfl⟩
  unfold pyNext
  refine wpAny_bind (wpAny_attempt (wpAny_callSpecial?_slot (name:=Str.ofString "__next__") ty F.slot_enumerate_next (wpAny_call_entry F.slot_enumerate_next ty F.entry_enumerate_next ?_ (F.args_enumerate_next_1 _))))
  show wpAny _ _ (field (.ref e) 2 >>= _) _ _ _;refine wpAny_bind (wpAny_field he rfl (x:=.ref it) rfl ?_)
  refine wpAny_bind (tup_end (I.ok.hd hc) hi (show s.heap.IsTuple a its.toArray from p) (by simp;omega) fun h' x eb hx'=>?_)
  obtain ⟨o,ho,hcl⟩:=hx'
  refine wpAny_bind (wpAny_isInstance (T:="StopIteration") (b:=true) ⟨o,ho,hcl⟩ isSubtype_stop ?_)
  exact wpAny_pure ⟨rfl,I.turned (t':=s.toks) (fun b o hb q=>eb b o hb q) f0 f1 f3 f4 f5⟩
 self:=fun _ _ _ _ _ st h=>by
  obtain ⟨⟨old,he⟩,_⟩:=st
  exact wpAny_pyIter_enum he h
theorem boot_enum:bootBuiltins "enumerate" = some (.type "enumerate"):=by decide +kernel
def iEnu(S:Hp->Addr->List V->Prop)(ta:TA):TI:=fun σ H R=>ta σ H fun vs H1=>∃a,vs=[.ref a]/\(∃xs,S H1 a xs)/\R (ItE S a) H1
theorem pi_enumL{K:PySem.W.Frag}{elts:List Expr}{x1:Nat}{tp:Pos}{a:Expr}{ta:TA}{p pos:Pos}(hg:Gl X "enumerate")(hm:X.mg "enumerate" = none)(ha:PA X [a] ta)(hK:X.K=K:=by rfl)(hs:starEach [a] X.env=[(false,eval a X.env)]:=by rfl) :
  PI X (.Tuple elts x1 tp) (.Call (.Name "enumerate" p) [a] [] pos) (iEnu (SqL K) ta):=by
 subst hK
 intro pins s σ H R I h
 refine Call_ (ld_blt I hg hm boot_enum (PyProof.Rows.callWith_type1 (thn (ha pos pins s σ H _ I h) fun us s1 ⟨vs,H1,I1,r1,q1⟩=>?_) hs rfl))
 obtain ⟨b,e,⟨xs,hq⟩,q⟩:=q1
 subst e
 cases r1 with
 | cons r rr =>
  cases rr
  cases r
  obtain ⟨its,rv,pl,hz⟩:=I1.list hq
  refine call_enumerate_list pl.isList fun h' he hi hz' k=>wpAny_pyIter_enum he ?_
  refine ⟨s1.heap.objs.size+1,[s1.heap.objs.size+1,s1.heap.objs.size],_,_,H1,rfl,I1.kept (t':=s1.toks) k,turn_enumL b _ _ (Nat.succ_ne_self _),⟨⟨_,he⟩,hi⟩,fun c hb=>?_,q⟩
  simp only [List.mem_cons,List.not_mem_nil,or_false] at hb
  have hc:s1.heap.objs.size<=c:=by rcases hb with rfl | rfl<;>omega
  exact I1.fpOk hc (I1.hok.fresh hc)
theorem pi_enumT{K:PySem.W.Frag}{elts:List Expr}{x1:Nat}{tp:Pos}{a:Expr}{ta:TA}{p pos:Pos}(hg:Gl X "enumerate")(hm:X.mg "enumerate" = none)(ha:PA X [a] ta)(hK:X.K=K:=by rfl)(hs:starEach [a] X.env=[(false,eval a X.env)]:=by rfl) :
  PI X (.Tuple elts x1 tp) (.Call (.Name "enumerate" p) [a] [] pos) (iEnu (SqT K) ta):=by
 subst hK
 intro pins s σ H R I h
 refine Call_ (ld_blt I hg hm boot_enum (PyProof.Rows.callWith_type1 (thn (ha pos pins s σ H _ I h) fun us s1 ⟨vs,H1,I1,r1,q1⟩=>?_) hs rfl))
 obtain ⟨b,e,⟨xs,hq⟩,q⟩:=q1
 subst e
 cases r1 with
 | cons r rr =>
  cases rr
  cases r
  obtain ⟨its,rv,pl,hz⟩:=I1.tuple hq
  refine call_enum_tup (show s1.heap.IsTuple b its.toArray from pl) fun h' he hi hz' k=>wpAny_pyIter_enum he ?_
  refine ⟨s1.heap.objs.size+1,[s1.heap.objs.size+1,s1.heap.objs.size],_,_,H1,rfl,I1.kept (t':=s1.toks) k,turn_enumT b _ _ (Nat.succ_ne_self _),⟨⟨_,he⟩,hi⟩,fun c hb=>?_,q⟩
  simp only [List.mem_cons,List.not_mem_nil,or_false] at hb
  have hc:s1.heap.objs.size<=c:=by rcases hb with rfl | rfl<;>omega
  exact I1.fpOk hc (I1.hok.fresh hc)
end
end L2
namespace S2
open PySem PySem.Spec PyProof.Rows L2
structure ItOk(cl:Cf)(w:Wd)(J:It)(ds:List D):Prop where
 go:∀w',Fut w w'->∀i,i<ds.length->J.go i w'.H
 stop:∀w',Fut w w'->J.stop ds.length w'.H
 yld:∀w',Fut w w'->∀i d x H',ds[i]?=some d->J.yld i w'.H x H'->∃w'',w''.H=H'/\Grow w' w''/\Shd cl w'' x d
abbrev Fi:=Env->Sto->Out (List D)
def tI(cl:Cf)(E:St->XK)(f:Fi):TI:=fun σ H R'=>∃B w ρ S,w.H=H/\Rel cl B σ w ρ S/\match f ρ S with
 | .ok ds S'=>∀J w',Rel cl B σ w' ρ S'->Fut w w'->ItOk cl w' J ds->R' J w'.H
 | .exc c S'=>∀w',Rel cl B σ w' ρ S'->Fut w w'->E σ (.ref (cl c)) none w'.H
 | .bad=>False
theorem PI.imp{X:Cx}{tg it:Expr}{t t':TI}(h:PI X tg it t)(i:∀σ H Q,t' σ H Q->t σ H Q):PI X tg it t':=fun pins s σ H Q I q=>h pins s σ H Q I (i _ _ _ q)
inductive Tg where | one (i:Nat) | tup (is:List Nat)
def putAll:List Nat->List D->Env->Option Env
 | [],[],ρ=>some ρ
 | i::is,d::ds,ρ=>putAll is ds (ρ.set i (some (false,d)))
 | _,_,_=>none
def Tg.put:Tg->Env->D->Option Env
 | .one i,ρ,d=>some (ρ.set i (some (false,d)))
 | .tup is,ρ,.tup ds=>putAll is ds ρ
 | .tup _,_,_=>none
def tG(cl:Cf)(n:Nat)(tg:Tg):TG:=fun v σ H Q=>∃B w ρ S d ρ',w.H=H/\Rel cl B σ w ρ S/\Shd cl w v d/\tg.put ρ d=some ρ'/\∀σ',σ'.length=σ.length->σ'.drop n=σ.drop n->Rel cl B σ' w ρ' S->Q σ' w.H
theorem PG.imp{X:Cx}{tg:Expr}{t t':TG}(h:PG X tg t)(i:∀v σ H Q,t' v σ H Q->t v σ H Q):PG X tg t':=fun pins s σ H v u Q I r q=>h pins s σ H v u Q I r (i _ _ _ _ q)
def forD(tg:Tg)(body:Fs):List D->Env->Sto->Fo
 | [],ρ,S=>.nx ρ S
 | d::ds,ρ,S=>match tg.put ρ d with
  | none=>.bad
  | some ρ1=>match body ρ1 S with
   | .nx ρ' S'=>forD tg body ds ρ' S'
   | .ct ρ' S'=>forD tg body ds ρ' S'
   | .bk ρ' S'=>.nx ρ' S'
   | o=>o
def sFor(tg:Tg)(it:Fi)(body:Fs):Fs:=fun ρ S=>match it ρ S with
 | .ok ds S'=>forD tg body ds ρ S'
 | .exc c S'=>.ex c ρ S'
 | .bad=>.bad
section
variable{X:Cx}{cl:Cf}{E:St->XK}{own:Bool}{e iter tg:Expr}{body:List Stmt}{fb:Fs}{fi:Fi}{fc:Fe}{t:Tg}{pos:Pos}
theorem drop_set{α:Type}{n i:Nat}{l:List α}{a:α}(h:i<n):(l.set i a).drop n=l.drop n:=by
 refine List.ext_getElem? fun k=>?_
 rw [List.getElem?_drop,List.getElem?_drop,List.getElem?_set_ne (by omega)]
theorem sg_one{n i:Nat}{x:Str}(hin:i<n)(hN:X.N.Nodup)(hi:X.N[i]?=some x)(hx:Loc X.env.scope x)(hf:X.fn x=true\/X.env.scope.names.lookup x=some .local):PG X (.Name x pos) (tG cl n (.one i)):=by
 refine PG.imp (pg_name hN hi hx hf) ?_
 rintro v σ H Q ⟨B,w,ρ,S,d,ρ',rfl,R,h,hp,q⟩
 cases hp
 exact q _ (List.length_set ..) (drop_set hin) (R.put h)
def tGs(cl:Cf)(n:Nat)(is:List Nat):TGs:=fun vs σ H Q=>∃B w ρ S ds ρ',w.H=H/\Rel cl B σ w ρ S/\Shds cl w vs ds/\putAll is ds ρ=some ρ'/\∀σ',σ'.length=σ.length->σ'.drop n=σ.drop n->Rel cl B σ' w ρ' S->Q σ' w.H
theorem sgs_nil{n:Nat}:PGs X [] (tGs cl n []):=by
 intro pins s σ H vs us Q I r h
 obtain ⟨B,w,ρ,S,ds,ρ',rfl,R,hs,hp,q⟩:=h
 cases hs with
 | nil =>
  cases hp
  exact pgs_nil pins s σ w.H [] us Q I r ⟨rfl,q σ rfl rfl R⟩
 | cons _ _=>cases hp
theorem sgs_cons{n i:Nat}{is:List Nat}{x:Str}{es:List Expr}(hin:i<n)(hN:X.N.Nodup)(hi:X.N[i]?=some x)(hx:Loc X.env.scope x)(hf:X.fn x=true\/X.env.scope.names.lookup x=some .local)(h2:PGs X es (tGs cl n is)):PGs X (.Name x pos::es) (tGs cl n (i::is)):=by
 intro pins s σ H vs us Q I r h
 obtain ⟨B,w,ρ,S,ds,ρ',rfl,R,hs,hp,q⟩:=h
 refine pgs_cons (pg_name hN hi hx hf) h2 rfl pins s σ w.H vs us Q I r ?_
 cases hs with
 | nil=>cases hp
 | cons h t =>
  rename_i v d vs ds
  exact ⟨v,vs,rfl,B,w,_,S,ds,ρ',rfl,R.put h,t,hp,fun σ' e1 e2=>q σ' (e1.trans (List.length_set ..)) (e2.trans (drop_set hin))⟩
theorem sg_tup{es:List Expr}{n k:Nat}{is:List Nat}(hc:X.calm=true)(h:PGs X es (tGs cl n is))(hn:(assignEach es X.env).length=is.length)(hst:(assignEach es X.env).findIdx? (·.1)=none):PG X (.Tuple es k pos) (tG cl n (.tup is)):=by
 refine PG.imp (pg_tup hc h hn hst) ?_
 rintro v σ H Q ⟨B,w,ρ,S,d,ρ',rfl,R,h,hp,q⟩
 cases h with
 | tup e k r =>
  have hl:∀(is:List Nat) (ds:List D) (ρ ρ':Env),putAll is ds ρ=some ρ'->ds.length=is.length:=by
   intro is
   induction is with
   | nil=>intro ds ρ ρ' h;cases ds with
    | nil=>rfl
    | cons _ _=>cases h
   | cons i is ih=>intro ds ρ ρ' h;cases ds with
    | nil=>cases h
    | cons d ds=>rw [List.length_cons,List.length_cons,ih ds _ _ h]
  rename_i a xs ds
  refine ⟨a,xs,rfl,SqT.of e,by rw [r.length];exact hl is ds ρ ρ' hp,B,w,ρ,S,ds,ρ',rfl,R,r,hp,q⟩
 | _=>cases hp
theorem ss_for{n:Nat}(hp:PassesOwn (model X.prog X.w) X.A X.env X.xe)(hc:X.calm=true)(hi:PI X tg iter (tI cl E fi))(hg:PG X tg (tG cl n t))(hb:PSs X body (tS cl E own fb))(hs:∀x,foldedSetIterable iter X.env x=pure x):PS X (.For tg iter body [] pos) (tS cl E own (sFor t fi fb)):=by
 refine PS.imp (ps_for hp hc hi hg hb hs) ?_
 rintro De σ H ⟨B,w,ρ,S,rfl,R,q⟩
 refine ⟨B,w,ρ,S,rfl,R,?_⟩
 unfold sFor at q
 cases hf:fi ρ S with
 | bad=>rw [hf] at q;exact q
 | exc c S1=>rw [hf] at q;exact fun w' R' F'=>q σ w' R' F'
 | ok ds S1 =>
  rw [hf] at q
  intro J w0 R0 F0 hJ
  dsimp only at q
  refine ⟨fun i m σ' H'=>m=ds.length-i/\i<=ds.length/\∃w1 ρ1 S2,w1.H=H'/\Fut w0 w1/\Rel cl B σ' w1 ρ1 S2/\Post cl E own B w1 De (forD t fb (ds.drop i) ρ1 S2),⟨ds.length,by simp,Nat.zero_le _,w0,ρ,S1,rfl,Fut.refl _,R0,by rw [List.drop_zero];exact Post.up F0 q⟩,?_⟩
  rintro i m σ1 H1 ⟨rfl,hi,w1,ρ1,S2,rfl,F1,R1,q1⟩
  by_cases hlt:i<ds.length
  ·obtain ⟨d,hd⟩:∃d,ds[i]?=some d:=⟨ds[i],List.getElem?_eq_getElem hlt⟩
   have hdr:ds.drop i=d::ds.drop (i+1):=by
    rw [List.drop_eq_getElem_cons hlt]
    rw [List.getElem?_eq_getElem hlt] at hd
    cases hd;rfl
   rw [hdr] at q1
   unfold forD at q1
   cases hp1:t.put ρ1 d with
   | none=>rw [hp1] at q1;exact q1.elim
   | some ρ2 =>
    rw [hp1] at q1
    dsimp only at q1
    refine .inr ⟨hJ.go w1 F1 i hlt,fun σ' H'=>i+1<=ds.length/\∃w1 ρ1 S2,w1.H=H'/\Fut w0 w1/\Rel cl B σ' w1 ρ1 S2/\Post cl E own B w1 De (forD t fb (ds.drop (i+1)) ρ1 S2),fun σ' H' h'=>⟨ds.length-(i+1),by omega,rfl,h'.1,h'.2⟩,fun x H' y=>?_⟩
    obtain ⟨w2,rfl,g2,s2⟩:=hJ.yld w1 F1 i d x H' hd y
    refine ⟨B,w2,ρ1,S2,d,ρ2,rfl,R1.grow g2,s2,hp1,fun σ2 _ _ R2=>⟨B,w2,ρ2,S2,rfl,R2,?_⟩⟩
    have q2:=Post.up g2.fut q1
    cases hb:fb ρ2 S2 with
    | bad=>rw [hb] at q2;exact q2
    | rt d S3=>rw [hb] at q2;exact q2
    | ex c ρ3 S3=>rw [hb] at q2;exact q2
    | bk ρ3 S3=>rw [hb] at q2;exact fun σ3 w3 R3 F3=>q2 σ3 w3 R3 F3
    | nx ρ3 S3=>rw [hb] at q2;exact fun σ3 w3 R3 F3=>⟨hlt,w3,ρ3,S3,rfl,F1.trans (g2.fut.trans F3),R3,Post.up F3 q2⟩
    | ct ρ3 S3=>rw [hb] at q2;exact fun σ3 w3 R3 F3=>⟨hlt,w3,ρ3,S3,rfl,F1.trans (g2.fut.trans F3),R3,Post.up F3 q2⟩
  ·have e:i=ds.length:=by omega
   subst e
   rw [List.drop_length] at q1
   exact .inl ⟨hJ.stop w1 F1,q1 σ1 w1 R1 (Fut.refl _)⟩
def eItems(f:Fe):Fi:=fun ρ S=>(f ρ S).bind fun d S1=>match d with | .lst l=>.ok l S1 | _=>.bad
def eItemsT(f:Fe):Fi:=fun ρ S=>(f ρ S).bind fun d S1=>match d with | .tup l=>.ok l S1 | _=>.bad
theorem si_list(he:PE X e (tE cl E fc)):PI X tg e (tI cl E (eItems fc)):=by
 refine PI.imp (pi_list he) ?_
 rintro σ H Q ⟨B,w,ρ,S,rfl,R,q⟩
 refine ⟨B,w,ρ,S,rfl,R,?_⟩
 unfold eItems at q
 cases hf:fc ρ S with
 | bad=>rw [hf] at q;exact q
 | exc c S1=>rw [hf] at q;exact q
 | ok d S1 =>
  rw [hf] at q
  intro v w' R' F' h'
  dsimp only [Out.bind] at q
  cases h' with
  | lst e k r =>
   rename_i a xs ds
   refine ⟨a,rfl,⟨xs,SqL.of e⟩,q _ w' R' F' ?_⟩
   have hl:=r.length
   refine ⟨fun w1 F1 i hi=>⟨xs,xs[i]'(by omega),SqL.of (F1.keep _ _ e k).1,List.getElem?_eq_getElem (by omega)⟩,fun w1 F1=>⟨xs,SqL.of (F1.keep _ _ e k).1,by omega⟩,fun w1 F1 i d x H1 hd y=>?_⟩
   obtain ⟨rfl,hy⟩:=y
   have hx:=hy xs (SqL.of (F1.keep _ _ e k).1)
   obtain ⟨d',e1,e2⟩:=r.get hx
   rw [hd] at e1;cases e1
   exact ⟨w1,rfl,Grow.refl _,e2.up F1⟩
  | _=>exact q.elim
theorem si_tup(he:PE X e (tE cl E fc)):PI X tg e (tI cl E (eItemsT fc)):=by
 refine PI.imp (pi_tup he) ?_
 rintro σ H Q ⟨B,w,ρ,S,rfl,R,q⟩
 refine ⟨B,w,ρ,S,rfl,R,?_⟩
 unfold eItemsT at q
 cases hf:fc ρ S with
 | bad=>rw [hf] at q;exact q
 | exc c S1=>rw [hf] at q;exact q
 | ok d S1 =>
  rw [hf] at q
  intro v w' R' F' h'
  dsimp only [Out.bind] at q
  cases h' with
  | tup e k r =>
   rename_i a xs ds
   refine ⟨a,rfl,⟨xs,SqT.of e⟩,q _ w' R' F' ?_⟩
   have hl:=r.length
   refine ⟨fun w1 F1 i hi=>⟨xs,xs[i]'(by omega),SqT.of (F1.keep _ _ e k).1,List.getElem?_eq_getElem (by omega)⟩,fun w1 F1=>⟨xs,SqT.of (F1.keep _ _ e k).1,by omega⟩,fun w1 F1 i d x H1 hd y=>?_⟩
   obtain ⟨rfl,hy⟩:=y
   have hx:=hy xs (SqT.of (F1.keep _ _ e k).1)
   obtain ⟨d',e1,e2⟩:=r.get hx
   rw [hd] at e1;cases e1
   exact ⟨w1,rfl,Grow.refl _,e2.up F1⟩
  | _=>exact q.elim
def rangeD(lo hi:Int):List D:=(List.range (hi-lo).toNat).map fun (i:Nat)=>.int (lo+i)
def eRng1(f:Fe):Fi:=fun ρ S=>(evalL [f] ρ S).bind fun ds S1=>match ds with | [.int j]=>if -1000000<=j/\j<=1000000 then .ok (rangeD 0 j) S1 else .bad | _=>.bad
def eRng2(f g:Fe):Fi:=fun ρ S=>(evalL [f,g] ρ S).bind fun ds S1=>match ds with | [.int i,.int j]=>if (-1000000<=i/\i<=1000000)/\-1000000<=j/\j<=1000000 then .ok (rangeD i j) S1 else .bad | _=>.bad
theorem itr_ok{w:Wd}{lo hi:Int}{n:Nat}(hn:n=(hi-lo).toNat):ItOk cl w (Itr lo n) (rangeD lo hi):=by
 subst hn
 have hl:(rangeD lo hi).length=(hi-lo).toNat:=by unfold rangeD;rw [List.length_map,List.length_range]
 refine ⟨fun w1 F1 i h=>by rw [hl] at h;exact h,fun w1 F1=>by rw [hl];exact Nat.le_refl _,fun w1 F1 i d x H1 hd y=>?_⟩
 obtain ⟨rfl,rfl⟩:=y
 unfold rangeD at hd
 rw [List.getElem?_map] at hd
 cases hr:(List.range (hi-lo).toNat)[i]? with
 | none=>rw [hr] at hd;cases hd
 | some j =>
  rw [hr] at hd
  have:=(List.getElem?_eq_some_iff.mp hr).2
  rw [List.getElem_range] at this
  subst this
  cases hd
  exact ⟨w1,rfl,Grow.refl _,.int _⟩
theorem si_rng1{p:Pos}(hg:Gl X "range")(hm:X.mg "range" = none)(ha:PA X [e] (tAs cl E [fc]))(hs:starEach [e] X.env=[(false,eval e X.env)]):PI X tg (.Call (.Name "range" p) [e] [] pos) (tI cl E (eRng1 fc)):=by
 refine PI.imp (pi_range1 hg hm ha hs) ?_
 rintro σ H Q ⟨B,w,ρ,S,rfl,R,q⟩
 refine ⟨B,w,ρ,S,rfl,R,?_⟩
 unfold eRng1 at q
 cases hf:evalL [fc] ρ S with
 | bad=>rw [hf] at q;exact q
 | exc c S1=>rw [hf] at q;exact q
 | ok ds S1 =>
  rw [hf] at q
  intro vs w' R' F' h'
  dsimp only [Out.bind] at q
  split at q
  ·rename_i ds' S' hm'
   split at hm'
   ·rename_i j
    split at hm'
    ·rename_i hb
     cases hm'
     cases h' with
     | cons h1 h2 =>
      cases h1;cases h2
      exact ⟨j,rfl,by omega,by omega,q _ w' R' F' (itr_ok (by omega))⟩
    ·cases hm'
   ·cases hm'
  ·rename_i hm';split at hm'<;>first | (split at hm'<;>cases hm') | cases hm'
  ·exact q.elim
theorem si_rng2{a:Expr}{fa:Fe}{p:Pos}(hg:Gl X "range")(hm:X.mg "range" = none)(ha:PA X [a,e] (tAs cl E [fa,fc]))(hs:starEach [a,e] X.env=[(false,eval a X.env),(false,eval e X.env)])(hs2:starEach [e] X.env=[(false,eval e X.env)]):PI X tg (.Call (.Name "range" p) [a,e] [] pos) (tI cl E (eRng2 fa fc)):=by
 refine PI.imp (pi_range2 hg hm ha hs hs2) ?_
 rintro σ H Q ⟨B,w,ρ,S,rfl,R,q⟩
 refine ⟨B,w,ρ,S,rfl,R,?_⟩
 unfold eRng2 at q
 cases hf:evalL [fa,fc] ρ S with
 | bad=>rw [hf] at q;exact q
 | exc c S1=>rw [hf] at q;exact q
 | ok ds S1 =>
  rw [hf] at q
  intro vs w' R' F' h'
  dsimp only [Out.bind] at q
  split at q
  ·rename_i ds' S' hm'
   split at hm'
   ·rename_i i j
    split at hm'
    ·rename_i hb
     cases hm'
     cases h' with
     | cons h1 h2 =>
      cases h1
      cases h2 with
      | cons h2 h3 =>
       cases h2;cases h3
       exact ⟨i,j,rfl,by omega,q _ w' R' F' (itr_ok rfl)⟩
    ·cases hm'
   ·cases hm'
  ·rename_i hm';split at hm'<;>first | (split at hm'<;>cases hm') | cases hm'
  ·exact q.elim
end
end S2
namespace S2
open PySem PySem.Spec PyProof.Rows L2
def capD(ρ:Env)(i:Nat):Option (Bool×D):=match ρ[i]? with | some (some (false,d))=>some (false,d) | _=>none
def compEnv(n:Nat)(caps:List Nat)(ρ:Env):Env:=List.replicate n none++caps.map (capD ρ)
def fYes:Fe:=eCon (.bl true)
def compD(tg:Tg)(c elt:Fe)(ρ0:Env):List D->Sto->Out (List D)
 | [],S=>.ok [] S
 | d::ds,S=>match tg.put ρ0 d with
  | none=>.bad
  | some ρ1=>(c ρ1 S).bind fun b S1=>match isB b with
   | some true=>(elt ρ1 S1).bind fun y S2=>(compD tg c elt ρ0 ds S2).bind fun ys S3=>.ok (y::ys) S3
   | some false=>compD tg c elt ρ0 ds S1
   | none=>.bad
def eComp(n:Nat)(tg:Tg)(it:Fi)(c elt:Fe)(caps:List Nat):Fe:=fun ρ S=>(it ρ S).bind fun ds S1=>match compD tg c elt (compEnv n caps ρ) ds S1 with
 | .ok ys S2=>if small ys.length then .ok (.lst ys) S2 else .bad
 | _=>.bad
abbrev noE:St->XK:=fun _ _ _ _=>False
section
variable{cl:Cf}
theorem inner_rel{B:Base}{σ:St}{w w1:Wd}{ρ:Env}{S S1:Sto}{n:Nat}{caps:List (Str×Nat)}(R:Rel cl B σ w ρ S){B1:Base}(W1:World' cl B1 w1 S1)(F1:Fut w w1){σ':St}(hσ:σ'.length=n+caps.length)(hc:σ'.drop n=caps.map fun p=>(σ[p.2]?).join) :
  Rel cl B1 σ' w1 (compEnv n (caps.map (·.2)) ρ) S1 where
 wd:=W1
 len:=by unfold compEnv;rw [hσ,List.length_append,List.length_replicate,List.length_map,List.length_map]
 slots:=fun i o d h=>by
  unfold compEnv at h
  by_cases hi:i<n
  ·rw [List.getElem?_append_left (by rw [List.length_replicate];exact hi),List.getElem?_replicate] at h
   split at h<;>cases h
  ·rw [List.getElem?_append_right (by rw [List.length_replicate];omega),List.length_replicate,List.map_map,List.getElem?_map] at h
   cases hp:caps[i-n]? with
   | none=>rw [hp] at h;cases h
   | some p =>
    rw [hp] at h
    have h':capD ρ p.2=some (o,d):=Option.some.inj h
    unfold capD at h'
    split at h'
    ·rename_i d' hd
     cases h'
     obtain ⟨v,e,x⟩:=R.slots p.2 false d hd
     refine ⟨v,?_,Shd.up F1 x⟩
     have:=congrArg (fun l=>l[i-n]?) hc
     rw [List.getElem?_drop,List.getElem?_map,hp] at this
     rw [show n+(i-n)=i by omega] at this
     rw [this]
     show some ((σ[p.2]?).join)=_
     rw [e];rfl
    ·cases h'
end
section
variable{X:Cx}{cl:Cf}{E:St->XK}
theorem comp_N{fi:Fi}{t:Tg}{fc fe:Fe}{n:Nat}{caps:List (Str×Nat)}{σ:St}{H:Hp}{Q:VK}(q:tN cl E (eComp n t fi fc fe (caps.map (·.2))) σ H Q) :
  tCompG (tI cl E fi) (tG cl n t) (tTr cl noE fc) (tE cl noE fe) n caps σ H Q:=by
 obtain ⟨B,w,ρ,S,rfl,R,q⟩:=q
 refine ⟨B,w,ρ,S,rfl,R,?_⟩
 unfold eComp at q
 cases hf:fi ρ S with
 | bad=>rw [hf] at q;exact q
 | exc c S1=>rw [hf] at q;exact q
 | ok ds S1 =>
  rw [hf] at q
  dsimp only [Out.bind] at q
  intro J w0 R0 F0 hJ
  cases hcd:compD t fc fe (compEnv n (caps.map (·.2)) ρ) ds S1 with
  | bad=>rw [hcd] at q;exact q.elim
  | exc _ _=>rw [hcd] at q;exact q.elim
  | ok all Sf =>
   rw [hcd] at q
   dsimp only at q
   cases hz:small all.length with
   | false=>rw [hz,if_neg (by decide)] at q;exact q.elim
   | true =>
    rw [hz,if_pos rfl] at q
    dsimp only at q
    refine ⟨fun i m ys σ' H'=>m=ds.length-i/\i<=ds.length/\σ'.length=n+caps.length/\σ'.drop n=(caps.map fun p=>(σ[p.2]?).join)/\∃w1 S2 es rest,w1.H=H'/\Fut w0.inn w1/\World' cl w0.base w1 S2/\Shds cl w1 ys es/\compD t fc fe (compEnv n (caps.map (·.2)) ρ) (ds.drop i) S2=.ok rest Sf/\es++rest=all,⟨ds.length,by simp,Nat.zero_le _,by simp [capσ],by simp [capσ],w0.inn,S1,[],all,rfl,Fut.refl _,R0.wd.enter,.nil,by rw [List.drop_zero];exact hcd,rfl⟩,?_⟩
    rintro i m ys σ1 H1 ⟨rfl,hi,hl1,hd1,w1,S2,es,rest,rfl,F1,W1,sh,hrest,hall⟩
    refine ⟨?_,?_⟩
    ·rw [sh.length]
     refine Nat.le_trans ?_ (small_line hz)
     rw [<-hall,List.length_append];omega
    have F1':Fut w0 w1:=(fut_inn w0).trans F1
    by_cases hlt:i<ds.length
    ·obtain ⟨d,hdi⟩:∃d,ds[i]?=some d:=⟨ds[i],List.getElem?_eq_getElem hlt⟩
     have hdr:ds.drop i=d::ds.drop (i+1):=by
      rw [List.drop_eq_getElem_cons hlt]
      rw [List.getElem?_eq_getElem hlt] at hdi
      cases hdi;rfl
     rw [hdr] at hrest
     unfold compD at hrest
     refine .inr ⟨hJ.go w1 F1' i hlt,fun x H' y=>?_⟩
     obtain ⟨w2,rfl,g2,s2⟩:=hJ.yld w1 F1' i d x H' hdi y
     have R1:Rel cl w0.base σ1 w2 (compEnv n (caps.map (·.2)) ρ) S2:=inner_rel R0 (W1.grow g2) (F1'.trans g2.fut) hl1 hd1
     cases hp:t.put (compEnv n (caps.map (·.2)) ρ) d with
     | none=>rw [hp] at hrest;cases hrest
     | some ρ1 =>
      rw [hp] at hrest
      dsimp only at hrest
      refine ⟨w0.base,w2,_,S2,d,ρ1,rfl,R1,s2,hp,fun σ2 hk1 hk2 R2=>⟨w0.base,w2,ρ1,S2,rfl,R2,?_⟩⟩
      cases hc:fc ρ1 S2 with
      | bad=>rw [hc] at hrest;cases hrest
      | exc _ _=>rw [hc] at hrest;cases hrest
      | ok b S3 =>
       rw [hc] at hrest
       dsimp only [Out.bind] at hrest ⊢
       cases hb:isB b with
       | none=>rw [hb] at hrest;cases hrest
       | some bb =>
        rw [hb] at hrest
        intro w3 R3 F3
        cases bb with
        | false=>exact iteF ⟨ds.length-(i+1),by omega,rfl,hlt,hk1.trans hl1,hk2.trans hd1,w3,S3,es,rest,rfl,F1.trans (g2.fut.trans F3),R3.wd,sh.up (g2.fut.trans F3),hrest,hall⟩
        | true =>
         refine iteT ⟨w0.base,w3,ρ1,S3,rfl,R3,?_⟩
         dsimp only at hrest
         cases he:fe ρ1 S3 with
         | bad=>rw [he] at hrest;cases hrest
         | exc _ _=>rw [he] at hrest;cases hrest
         | ok yv S4 =>
          rw [he] at hrest
          dsimp only at hrest
          cases hr:compD t fc fe (compEnv n (caps.map (·.2)) ρ) (ds.drop (i+1)) S4 with
          | bad=>rw [hr] at hrest;cases hrest
          | exc _ _=>rw [hr] at hrest;cases hrest
          | ok zs S5 =>
           rw [hr] at hrest
           cases hrest
           intro v w4 R4 F4 h4
           have ff:=g2.fut.trans (F3.trans F4)
           exact ⟨ds.length-(i+1),by omega,rfl,hlt,hk1.trans hl1,hk2.trans hd1,w4,S4,es++[yv],zs,rfl,F1.trans ff,R4.wd,(sh.up ff).append (.cons h4 .nil),hr,by rw [<-hall,List.append_assoc];rfl⟩
    ·have e:i=ds.length:=by omega
     subst e
     rw [List.drop_length] at hrest
     cases hrest
     rw [List.append_nil] at hall
     subst hall
     refine .inl ⟨hJ.stop w1 F1',fun p hp=>?_⟩
     obtain ⟨Rb,Fb⟩:=R0.leave W1 F1
     exact q p (.lst ys) (w0.back w1) Rb (F0.trans Fb) hp (.lst (sh.up (fut_back W1)))
end
end S2
namespace L2
open PySem PySem.Spec PyProof.Rows
section
variable{X:Cx}
end
end L2
namespace L2
open PySem PySem.Spec PyProof.Rows
def CXE(P:Program)(w:World):CXT:=fun outer H s E e s'=>∃(a:Addr) (cls a0:Value) (H':Hp) (B:Heap),e=.ref a/\Heap.FlyingW B outer a cls a0 s'.heap ∧
 (∀b o,s'.heap.get? b=some o->H' b≠none->B.get? b=some o)/\(∀b o,s.heap.get? b=some o->H b=none->b ∉ frs outer->B.get? b=some o) ∧
 (∀b o,s.heap.get? b=some o->b ∉ frs outer->∃o',B.get? b=some o') ∧
 s'.os=s.os/\AllBare s'.gens/\Un (frs outer) [] H H' s.heap s'.heap/\HOk P w H' s'.heap/\E cls none H'
theorem ObjOk.has{P:Program}{w:World}{H:Hp}{h:Heap}{a:Addr}{o:HO}(x:ObjOk P w H h a o):∃ob,h.get? a=some ob:=by
 cases o with
 | lst xs=>obtain ⟨_,_,_,_,e⟩:=x;exact ⟨_,e⟩
 | tup xs=>obtain ⟨_,_,_,ob,e,_⟩:=x;exact ⟨_,e⟩
 | dK kvs=>obtain ⟨_,_,_,_,o,_,_,e,_⟩:=x;exact ⟨_,e⟩
 | dT kvs=>obtain ⟨_,_,_,_,o,_,_,e,_⟩:=x;exact ⟨_,e⟩
 | set S n=>obtain ⟨o,_,_,_,e,_⟩:=x;exact ⟨_,e⟩
 | ins C dx fs=>obtain ⟨_,_,_,e,_⟩:=x;exact ⟨_,e⟩
 | own y=>exact x
 | xd fs=>obtain ⟨_,⟨_,_,_,e,_⟩,_⟩:=x;exact ⟨_,e⟩
 | rng lo hi=>obtain ⟨_,_,_,e⟩:=x;exact ⟨_,e⟩
 | frz ob u=>obtain ⟨e,_⟩:=x;exact ⟨_,e⟩
 | tbl ps=>exact ⟨_,(show h.get? a=some _ from x)⟩
 | met f y=>exact ⟨_,(show h.get? a=some _ from x)⟩
 | ext φ=>obtain ⟨_,e,_⟩:=x;exact e
theorem HOk.same{P:Program}{w:World}{H:Hp}{h h':Heap}(x:HOk P w H h)(k:∀b u,h.get? b=some u->H b≠none->h'.get? b=some u):HOk P w H h':=fun a o e =>
 (x a o e).stay (fun b u hb q=>k b u q (hb.elim (fun z=>by rw [z,e];exact Option.some_ne_none _) (fun z=>by rw [z];exact Option.some_ne_none _))) (fun _ q=>q) fun _ _ q=>q
section
variable{X:Cx}{pins:Z3}{σ:St}{H:Hp}{s:Shared}{M:Model}
theorem frs_hide(l:List Env):∀env∈l,∀b,env.frame=some b->b∈frs l:=fun env he b hb=>List.mem_filterMap.mpr ⟨env,he,hb⟩
theorem leave_made{h':Heap}{e:Addr}{cls:Value}{vs:List Value}{E:XK}{Er:Z5}(I:Inv X pins σ H s)(hx:X.ex=[])(hs:X.stack=X.env::X.outer)(hf:X.env.frame=some X.env.locals)(mk:Heap.MadeExcOf s.heap h' e cls vs)(q:E cls none H) :
  wpAny M X.A (leaving X.env (.ref e)) (fun _ s''=>CXE X.prog X.w X.outer X.H₀ X.s₀ E (.ref e) s'') Er { s with heap:=h' }:=by
 have hfr:X.A.frames=some (X.env::X.outer):=by rw [<-hs];exact I.ok.frames
 have hst:s.heap.FunFrames X.base (X.env::X.outer):=by rw [<-hs];exact I.stack
 refine wpAny_leaves_madeW (base:=PySem.W.hideAll s.heap (frs (X.env::X.outer))) hfr hf (fun b o z=>PySem.W.of_hideAll _ z) (PySem.W.funFrames_hide hst (frs_hide _)) mk fun h2 t fl tup _ up=>?_
 have inB:∀b o,s.heap.get? b=some o->b ∉ frs (X.env::X.outer)->(PySem.W.hideAll s.heap (frs (X.env::X.outer))).get? b=some o:=fun b o z n=>PySem.W.hideAll_get _ z n
 have sub:∀b,b∈frs (X.env::X.outer)->b=X.env.locals\/b∈X.fs:=fun b hb=>by
  rw [<-hs] at hb
  exact List.mem_cons.mp (I.stkSub b hb)
 have fre:∀b,b∈frs (X.env::X.outer)->H b=none:=fun b hb=>by rw [<-hs] at hb;exact I.stkFree b hb
 have old:∀b o,X.s₀.heap.get? b=some o->b ∉ frs X.outer->b ∉ frs (X.env::X.outer):=fun b o z n hb=>by
  rcases sub b hb with r | r
  ·exact absurd (Nat.lt_of_lt_of_le (Heap.lt_size z) I.ok.above) (by rw [r];exact Nat.lt_irrefl _)
  ·exact n r
 have nx:∀b:Addr,b ∉ X.ex:=fun b z=>by rw [hx] at z;cases z
 have trk:∀b o,s.heap.get? b=some o->H b≠none->h2.get? b=some o:=fun b o z n=>fl.1 b o (inB b o z fun hb=>n (fre b hb))
 have hok2:HOk X.prog X.w H h2:=I.hok.same trk
 have slt:∀b o,s.heap.get? b=some o->b∈frs X.stack->∃sl,h2.get? b=some { o with slots:=sl }:=fun b o z hb=>by
  obtain ⟨_,o',z',hd⟩:=I.stack.mem hb
  rw [z] at z'
  cases z'
  exact up b o (mk.keeps b o z) hd
 have un2:Un (frs X.stack) [] H H s.heap h2:=⟨fun b o z n hb _=>fl.1 b o (inB b o z (by rw [<-hs];exact hb)),fun b o z n hb _=>slt b o z hb,fun b o z n _=>n,
  fun b o z _=>by
   by_cases hb:b∈frs X.stack
   ·obtain ⟨sl,r⟩:=slt b o z hb
    exact ⟨_,r⟩
   ·exact ⟨o,fl.1 b o (inB b o z (by rw [<-hs];exact hb))⟩,
  fun _ _ z=>z,fun _ _ _ z=>z,fun _ ps z=>⟨#[],by rw [z,Array.append_empty]⟩⟩
 have J:=I.call (g':=s.gens) (t':=s.toks) (d':=s.drawn) (ch:=[]) un2 hok2 I.bare (fun b z=>absurd z (by simp))
 refine ⟨e,cls,.ref t,H,_,rfl,fl,fun b o z n=>?_,fun b o z n hb=>?_,fun b o z hb=>?_,J.os,J.bare,?_,J.hok,q⟩
 ·cases k:H b with
  | none=>exact absurd k n
  | some u =>
   obtain ⟨o',z'⟩:=(I.hok b u k).has
   have:=trk b o' z' n
   rw [show h2.get? b=some o from z] at this
   cases this
   exact inB b o z' fun hb=>n (fre b hb)
 ·exact inB b o (I.base.keep b o z n hb (nx b)) (old b o z hb)
 ·obtain ⟨o',z'⟩:=I.base.there b o z (nx b)
  exact ⟨o',inB b o' z' (old b o z hb)⟩
 ·have:=J.base
  rw [hx] at this
  exact this
theorem leave_on{e:Value}{s':Shared}{E:XK}{Er:Z5}(I:Inv X pins σ H s)(hx:X.ex=[])(hs:X.stack=X.env::X.outer)(hf:X.env.frame=some X.env.locals)(q:CXE X.prog X.w X.stack H s E e s') :
  wpAny M X.A (leaving X.env e) (fun _ s''=>CXE X.prog X.w X.outer X.H₀ X.s₀ E e s'') Er s':=by
 have hfr:X.A.frames=some (X.env::X.outer):=by rw [<-hs];exact I.ok.frames
 obtain ⟨a,cls,a0,H',B,rfl,fl,c1,c2,c3,os,bare,un,hok,q⟩:=q
 have fl':Heap.FlyingW B (X.env::X.outer) a cls a0 s'.heap:=by rw [<-hs];exact fl
 refine wpAny_leaves_onW hfr hf fl' fun h2 fl2 up=>?_
 have sub:∀b,b∈frs X.stack->b=X.env.locals\/b∈X.fs:=fun b hb=>List.mem_cons.mp (I.stkSub b hb)
 have old:∀b o,X.s₀.heap.get? b=some o->b ∉ frs X.outer->b ∉ frs X.stack:=fun b o z n hb=>by
  rcases sub b hb with r | r
  ·exact absurd (Nat.lt_of_lt_of_le (Heap.lt_size z) I.ok.above) (by rw [r];exact Nat.lt_irrefl _)
  ·exact n r
 have nx:∀b:Addr,b ∉ X.ex:=fun b z=>by rw [hx] at z;cases z
 have trk:∀b o,s'.heap.get? b=some o->H' b≠none->h2.get? b=some o:=fun b o z n=>fl2.1 b o (c1 b o z n)
 have hok2:HOk X.prog X.w H' h2:=hok.same trk
 have slt:∀b o,s.heap.get? b=some o->H b=none->b∈frs X.stack->∃sl,h2.get? b=some { o with slots:=sl }:=fun b o z n hb=>by
  obtain ⟨_,o',z',hd⟩:=I.stack.mem hb
  rw [z] at z'
  cases z'
  obtain ⟨sl,r⟩:=un.slot b o z n hb (by simp)
  obtain ⟨sl',r'⟩:=up b ({ o with slots:=sl }:Obj) r hd
  exact ⟨sl',r'⟩
 have un2:Un (frs X.stack) [] H H' s.heap h2:=⟨fun b o z n hb _=>fl2.1 b o (c2 b o z n hb),fun b o z n hb _=>slt b o z n hb,un.free,
  fun b o z _=>by
   by_cases hb:b∈frs X.stack
   ·obtain ⟨sl,r⟩:=slt b o z (I.stkFree b hb) hb
    exact ⟨_,r⟩
   ·obtain ⟨o',r⟩:=c3 b o z hb
    exact ⟨o',fl2.1 b o' r⟩,
  un.tups,un.frzs,un.tbls⟩
 have J:=I.call (g':=s'.gens) (t':=s'.toks) (d':=s'.drawn) (ch:=[]) un2 hok2 bare (fun b z=>absurd z (by simp))
 refine ⟨a,cls,a0,H',B,rfl,fl2,fun b o z n=>?_,fun b o z n hb=>?_,fun b o z hb=>?_,os.trans I.os,bare,?_,J.hok,q⟩
 ·cases k:H' b with
  | none=>exact absurd k n
  | some u =>
   obtain ⟨o',z'⟩:=(hok b u k).has
   have:=trk b o' z' n
   rw [show h2.get? b=some o from z] at this
   cases this
   exact c1 b o z' n
 ·exact c2 b o (I.base.keep b o z n hb (nx b)) (I.base.free b o z n (nx b)) (old b o z hb)
 ·obtain ⟨o',z'⟩:=I.base.there b o z (nx b)
  exact c3 b o' z' (old b o z hb)
 ·have:=J.base
  rw [hx] at this
  exact this
end
theorem passE{P:Program}{w:World}{K:PySem.W.Frag}{mg:Z6}{base:Heap}{N:List Str}{qual:Str}{scope:Scope}{f:Addr}{cd:Value}{A:Around}{outer:List Env}{s:Shared}{H:Hp}{E:XK} :
  Passes (CXE P w) (cxOf (CXE P w) P w K mg base N qual scope f cd A outer s H E) E:=fun pins σ H1 s1 e s' I q =>
 leave_on (X:=cxOf (CXE P w) P w K mg base N qual scope f cd A outer s H E) I rfl rfl rfl q
theorem exc_obj{K:PySem.W.Frag}{h:Heap}{C:Addr}{bmB:List Value}{nid:String}(k:K.In h)(z:PySem.W.excIn K C bmB nid=true) :
  ∃bm N nm qn bs hd sn sub ab col dd c0 c1 c2 c3 c5 mN,h.get? C=some (excClassObj nm qn C N bs bm hd sn sub ab col dd c0 c1 c2 c3 c5 nid)/\h.Ns N mN/\mN "__init__" = none/\OwnTail h bmB bm:=by
 unfold PySem.W.excIn at z
 split at z
 case h_2=>cases z
 case h_1 dd cd sl ho =>
  split at z
  case h_2=>cases z
  case h_1 D bm c0 c1 c2 c3 n c5 e1 e2 =>
   simp only [Bool.and_eq_true,beq_iff_eq,Bool.not_eq_true'] at z
   obtain ⟨⟨⟨⟨⟨z1,z2⟩,z3⟩,z4⟩,z5⟩,z6⟩:=z
   subst z1 z2
   have hsl:sl=#[c0,c1,c2,c3,some (.builtin n),c5]:=by
    cases sl with
    | mk l=>exact congrArg Array.mk e2
   have hcd:cd={ cd with mro:=.ref D::bm,hasDel:=false }:=by
    cases cd
    simp only at e1 z3
    simp only [e1,z3]
   rw [hsl,hcd] at ho
   exact ⟨bm,cd.ns,cd.name,_,cd.bases,_,_,_,_,_,dd,c0,c1,c2,c3,c5,_,k _ _ ho,.of_isNs (PySem.W.isNs_of_in k z5),PySem.W.nsMap_none_of_in k z5 z6,PySem.W.tail_of_in k z4⟩
def Raises(X:Cx)(E:XK):Prop:=∀(C:Addr) (pins:Z3) (σ:St) (H:Hp) (s:Shared) (e:Addr) (h':Heap) (vs:List Value),Inv X pins σ H s->Heap.MadeExcOf s.heap h' e (.ref C) vs->E (.ref C) none H->X.xe (.ref e) { s with heap:=h' }
theorem raisesE{P:Program}{w:World}{K:PySem.W.Frag}{mg:Z6}{base:Heap}{N:List Str}{qual:Str}{scope:Scope}{f:Addr}{cd:Value}{A:Around}{outer:List Env}{s:Shared}{H:Hp}{E:XK} :
  Raises (cxOf (CXE P w) P w K mg base N qual scope f cd A outer s H E) E:=fun C pins σ H1 s1 e h' vs I mk q =>
 leave_made (X:=cxOf (CXE P w) P w K mg base N qual scope f cd A outer s H E) I rfl rfl rfl mk q
end L2
namespace L2
open PySem PySem.Spec PyProof.Rows
def XP(X:Cx)(pins:Z3)(σ:St)(E:XK)(e:Value)(s':Shared):Prop:=∃H1 s1,Inv X pins σ H1 s1/\CXE X.prog X.w X.stack H1 s1 E e s'
section
variable{X:Cx}{k:Nat}{f C:Addr}{fd:FuncData}{ps:List Str}{sp:Sp}{dvs:List V}{ds:List Value}{x m:Str}{p pos apos:Pos}{e o:Expr}{es:List Expr}{ta:TE}{t:TA}
end
end L2
namespace L2
open PySem PySem.Spec PyProof.Rows
section
variable{X:Cx}{pins:Z3}{σ:St}{H:Hp}{s:Shared}
end
end L2
namespace L2
open PySem PySem.Spec PyProof.Rows
section
variable{X:Cx}{pins:Z3}{σ:St}{H H':Hp}{s s':Shared}{B h2:Heap}{a:Addr}{cls a0:Value}
abbrev Cx.inH(X:Cx)(a:Addr):Cx:={ X with A:=X.A.mark (some (.ref a)),calm:=false,xe:=fun _ _=>False }
end
def Under(K:PySem.W.Frag)(C D:Addr):Prop:=(∃bC iC,PySem.W.excIn K C bC iC=true)/\∃cd d cl sl,K.lookup C=some ⟨cl,d,.cls cd,sl⟩/\cd.mro.contains (.ref D)=true
def Ends.goes(D:Ends)(i:Nat):Ends:={ nx:=fun σ H=>D.nx (σ.set i none) H,rt:=D.rt,bk:=fun σ H=>D.bk (σ.set i none) H,ct:=fun σ H=>D.ct (σ.set i none) H }
end L2
namespace PySem.W
open PySem
structure ExcCls(K:Frag)(C:Addr):Prop where
 ga:findIn K (.ref C) "__getattribute__" = some (some (.builtin "BaseException.__getattribute__"))
 gt:findIn K (.ref C) "__getattr__" = some none
 cl:findIn K (.ref C) "__class__" = some (some (.builtin "object.__class__"))
 ob:subIn K (.ref C) (.type "object")=some true
 be:subIn K (.ref C) (.type "BaseException")=some true
 is:∃c d cd sl,K.lookup C=some ⟨c,d,.cls cd,sl⟩
section
variable{prog:Program}{w:World}{A:Around}{E:Z5}{h:Heap}{g:Array GenState}{d:Drawn}{t:Nat}{os:OsState}{a C:Addr}{o:Obj}{K:Frag}
end
end PySem.W
namespace PySem.W
open PySem
section
variable{prog:Program}{w:World}{A:Around}{E:Z5}{h:Heap}{g:Array GenState}{d:Drawn}{t:Nat}{os:OsState}{a C:Addr}{o:Obj}{K:Frag}
end
end PySem.W
namespace L2
open PySem PySem.Spec PyProof.Rows
end L2
namespace L2
open PySem PySem.Spec PyProof.Rows PySem.SeqAt
section
variable{X:Cx}
end
end L2
namespace L2
open PySem PySem.Spec PyProof.Rows
theorem pre_take(ns:List Int):∀j,j<=ns.length->preSum (fun i=>ns.getD i 0) j=(ns.take j).sum
 | 0,_=>by rw [List.take_zero];rfl
 | j+1,h=>by
  have ih:=pre_take ns j (by omega)
  show preSum _ j+ns.getD j 0=_
  have e:ns.take (j+1)=ns.take j++[ns[j]]:=by rw [List.take_add_one,List.getElem?_eq_getElem (by omega)];rfl
  have e2:ns.getD j 0=ns[j]:=by simp [List.getD,show j<ns.length by omega]
  rw [ih,e,e2,List.sum_append]
  simp
theorem pre_bound(ns:List Int)(h:∀n∈ns,0<=n/\n<=1000000):∀j,j<=ns.length->0<=preSum (fun i=>ns.getD i 0) j/\preSum (fun i=>ns.getD i 0) j<=1000000*(j:Int)
 | 0,_=>⟨Int.le_refl _,Int.le_refl _⟩
 | j+1,hj=>by
  have ih:=pre_bound ns h j (by omega)
  have e:ns.getD j 0=ns[j]:=by simp [List.getD,show j<ns.length by omega]
  have hb:=h ns[j] (List.getElem_mem (by omega))
  show 0<=preSum _ j+ns.getD j 0/\preSum _ j+ns.getD j 0<=_
  rw [e]
  push_cast
  omega
section
variable{X:Cx}
theorem call_sum(hc:X.calm=true):CallR X (.builtin "sum") (fun xs H Q=>∃(p:Addr) (ns:List Int),xs=[.ref p]/\SqL X.K H p (ns.map V.int)/\ns.length<=1000/\(∀n∈ns,0<=n/\n<=1000000)/\Q (.int ns.sum) H):=by
 intro pins s σ H xs us Q I r h
 obtain ⟨p,ns,rfl,hq,hl1000,hb,q⟩:=h
 obtain ⟨u,rfl,rx⟩:=vals1 r
 cases rx
 obtain ⟨its,rv,pl,hz⟩:=I.list hq
 have hl:=pl.isList
 have hlt:p<s.heap.objs.size:=by obtain ⟨_,e,_⟩:=hl;exact Heap.lt_size e
 have hn:its.length=ns.length:=by have:=rv.length;rw [List.length_map] at this;exact this.symm
 refine call_sum_walk (wpAny_pyIter_list hl ?_)
 refine ⟨s.heap.objs.size,[s.heap.objs.size,p],[s.heap.objs.size],its.toArray.size,_,_,fun i=>ns.getD i 0,rfl,Walks.list (A:=X.A.in1) (I.ok.hd hc) _ p (Nat.ne_of_lt hlt) its.toArray,⟨⟨_,Heap.get?_push_size _ rfl,rfl,rfl⟩,hl.push _⟩,fun b hm=>?_,fun i v hP=>?_,fun j hj=>?_,fun h' tk t' hk=>?_⟩
 ·show b<(s.heap.push _).objs.size
  rw [Heap.size_push]
  simp only [List.mem_cons,List.not_mem_nil,or_false] at hm
  rcases hm with z | z
  ·rw [z];exact Nat.lt_succ_self _
  ·rw [z];exact Nat.lt_succ_of_lt hlt
 ·have hv:its[i]?=some v:=by simpa using hP
  have hi:i<ns.length:=by rw [<-hn];exact (List.getElem?_eq_some_iff.mp hv).1
  obtain ⟨u,hu,ru⟩:=rv.get (i:=i) (x:=.int ns[i]) (by rw [List.getElem?_map,List.getElem?_eq_getElem hi];rfl)
  rw [hv] at hu
  cases hu
  obtain ⟨t,rfl⟩:=ru
  exact ⟨t,by simp [List.getD,hi]⟩
 ·rw [List.size_toArray,hn] at hj
  have h1:=pre_bound ns hb (j+1) hj
  have e:ns.getD j 0=ns[j]:=by simp [List.getD,hj]
  have h2:=hb ns[j] (List.getElem_mem hj)
  refine ⟨?_,?_⟩
  ·show InLong (ns.getD j 0)
   rw [e]
   exact ⟨by omega,by omega⟩
  ·have:((j+1:Nat):Int)<=1000:=by omega
   exact ⟨by omega,by omega⟩
 ·rw [List.size_toArray,hn,pre_take ns ns.length (Nat.le_refl _),List.take_length]
  refine ⟨.int _,H,I.kept (t':=tk) fun b o e=>?_,⟨t',rfl⟩,q⟩
  exact hk b o (fun hm=>by rw [List.mem_singleton.mp hm] at e;exact Nat.lt_irrefl _ (Heap.lt_size e)) (Heap.get?_push_of_some _ e)
end
end L2
namespace S2
open PySem PySem.Spec PyProof.Rows L2
mutual
def D.py:D->PyData
 | .non=>.none
 | .bl b=>.bool b
 | .int i=>.int i
 | .str x=>.str x
 | .tup l=>.tuple (D.pys l)
 | .lst l=>.list (D.pys l)
 | .scr l=>.list (l.map PyData.int)
 | .dic _=>.none
 | .ref _=>.none
 | .exc _=>.none
def D.pys:List D->List PyData
 | []=>[]
 | d::l=>d.py::D.pys l
end
mutual
def D.fit:Nat->D->Bool
 | _,.non=>true
 | _,.bl _=>true
 | _,.int _=>true
 | _,.str x=>PyData.strOk x
 | 0,.tup _=>false
 | n+1,.tup l=>D.fits n l
 | 0,.lst _=>false
 | n+1,.lst l=>D.fits n l
 | 0,.scr _=>false
 | _+1,.scr _=>true
 | _,.dic _=>false
 | _,.ref _=>false
 | _,.exc _=>false
def D.fits:Nat->List D->Bool
 | _,[]=>true
 | n,d::l=>d.fit n&&D.fits n l
end
theorem D.fits_iff{n:Nat}:∀{l:List D},D.fits n l=true↔∀d∈l,d.fit n=true
 | []=>by simp [D.fits]
 | d::l=>by simp [D.fits,D.fits_iff (l:=l)]
theorem ints_lay:∀(l:List Int),PyData.canLayAll0 (l.map PyData.int)=true/\PyData.depthAll (l.map PyData.int)=0
 | []=>⟨rfl,rfl⟩
 | i::l=>by
  obtain ⟨a,b⟩:=ints_lay l
  exact ⟨by simp [PyData.canLayAll0,PyData.canLay0,a],by simp [PyData.depthAll,PyData.depth,b]⟩
mutual
theorem D.lay:∀{n:Nat} {d:D},d.fit n=true->d.py.canLay0=true/\d.py.depth<=n
 | _,.non,_=>⟨rfl,Nat.zero_le _⟩
 | _,.bl _,h=>⟨rfl,Nat.zero_le _⟩
 | _,.int _,_=>⟨rfl,Nat.zero_le _⟩
 | _,.str x,h=>⟨by simpa [D.fit,D.py,PyData.canLay0] using h,Nat.zero_le _⟩
 | 0,.tup _,h=>by simp [D.fit] at h
 | 0,.lst _,h=>by simp [D.fit] at h
 | 0,.scr _,h=>by simp [D.fit] at h
 | n+1,.scr l,h=>by
  obtain ⟨a,b⟩:=ints_lay l
  exact ⟨by simpa [D.py,PyData.canLay0] using a,by simp only [D.py,PyData.depth];omega⟩
 | _,.dic _,h=>by simp [D.fit] at h
 | _,.ref _,h=>by simp [D.fit] at h
 | _,.exc _,h=>by simp [D.fit] at h
 | n+1,.tup l,h=>by
  have h':D.fits n l=true:=by simpa [D.fit] using h
  obtain ⟨a,b⟩:=D.lays h'
  exact ⟨by simpa [D.py,PyData.canLay0] using a,by simp only [D.py,PyData.depth];omega⟩
 | n+1,.lst l,h=>by
  have h':D.fits n l=true:=by simpa [D.fit] using h
  obtain ⟨a,b⟩:=D.lays h'
  exact ⟨by simpa [D.py,PyData.canLay0] using a,by simp only [D.py,PyData.depth];omega⟩
theorem D.lays:∀{n:Nat} {l:List D},D.fits n l=true->PyData.canLayAll0 (D.pys l)=true/\PyData.depthAll (D.pys l)<=n
 | _,[],_=>⟨rfl,Nat.zero_le _⟩
 | n,d::l,h=>by
  simp only [D.fits,Bool.and_eq_true] at h
  obtain ⟨a,b⟩:=D.lay h.1
  obtain ⟨c,e⟩:=D.lays h.2
  exact ⟨by simp [D.pys,PyData.canLayAll0,a,c],by simp only [D.pys,PyData.depthAll];omega⟩
end
section
variable{X:Cx}{cl:Cf}{w:Wd}
theorem TopV.lstI{v:V}{ds:List D}(h:TopV cl w v (.lst ds)):∃a xs,v=.ref a/\w.H a=some (.lst xs)/\Shds cl w xs ds:=by
 cases h with
 | sh h=>cases h with
  | lst e k r=>exact ⟨_,_,rfl,e,r⟩
 | ow e t=>cases t with
  | lst r=>exact ⟨_,_,rfl,e,r⟩
theorem TopV.tupI{v:V}{ds:List D}(h:TopV cl w v (.tup ds)):∃a xs,v=.ref a/\w.H a=some (.tup xs)/\w.ow a=none/\Shds cl w xs ds:=by
 cases h with
 | sh h=>cases h with
  | tup e k r=>exact ⟨_,_,rfl,e,k,r⟩
 | ow e t=>cases t
theorem TopV.intI{v:V}{i:Int}(h:TopV cl w v (.int i)):v=.int i:=by
 cases h with
 | sh h=>cases h;rfl
 | ow e t=>cases t
theorem TopV.strI{v:V}{i:Str}(h:TopV cl w v (.str i)):v=.str i:=by
 cases h with
 | sh h=>cases h;rfl
 | ow e t=>cases t
theorem TopV.blI{v:V}{i:Bool}(h:TopV cl w v (.bl i)):v=.bl i:=by
 cases h with
 | sh h=>cases h;rfl
 | ow e t=>cases t
theorem TopV.nonI{v:V}(h:TopV cl w v .non):v=.non:=by
 cases h with
 | sh h=>cases h;rfl
 | ow e t=>cases t
theorem Shd.scrI{v:V}{l:List Int}(hK:X.K=cl.K)(h:Shd cl w v (.scr l)):∃a,v=.ref a/\SqL X.K w.H a (l.map V.int):=by
 cases h with
 | scr e k=>exact ⟨_,rfl,.inl (.inr ⟨_,e⟩)⟩
 | scrK h=>exact ⟨_,rfl,by rw [hK];exact h _⟩
theorem TopV.scrI{v:V}{l:List Int}(hK:X.K=cl.K)(h:TopV cl w v (.scr l)):∃a,v=.ref a/\SqL X.K w.H a (l.map V.int):=by
 cases h with
 | sh h=>exact h.scrI hK
 | ow e t=>cases t
theorem read_scr{pins:Z3}{σ:St}{s:Shared}(I:Inv X pins σ w.H s)(hK:X.K=cl.K){v:V}{l:List Int}(h:Shd cl w v (.scr l)){u:Value}(r:RelV v u):∃as,Reads s.heap u (D.scr l).py as:=by
  obtain ⟨a,rfl,hq⟩:=h.scrI hK
  cases r
  obtain ⟨its,rv,p,_⟩:=I.list hq
  obtain ⟨o,ho,hc,n,hd⟩:=id p.isList
  have go:∀{l:List Int} {us:List Value},Vals (l.map V.int) us->∃as,ReadsAll s.heap us (l.map PyData.int) as:=by
   intro l
   induction l with
   | nil=>intro us h;cases h;exact ⟨_,.nil⟩
   | cons i l ih =>
    intro us h
    cases h with
    | cons h1 h2 =>
     obtain ⟨t,rfl⟩:=h1
     obtain ⟨as,ra⟩:=ih h2
     exact ⟨_,.cons (.int i t) ra⟩
  obtain ⟨as,ra⟩:=go rv
  exact ⟨_,.list ho hc hd (by simpa using ra)⟩
mutual
theorem readD{pins:Z3}{σ:St}{s:Shared}(I:Inv X pins σ w.H s)(hK:X.K=cl.K):∀{v:V} {d:D} {n:Nat},Shd cl w v d->d.fit n=true->∀{u:Value},RelV v u->∃as,Reads s.heap u d.py as
 | _,_,_,.non,_,_,r=>by cases r;exact ⟨_,.none⟩
 | _,_,_,.bl b,_,_,r=>by cases r;exact ⟨_,.bool b⟩
 | _,_,_,.int i,_,_,r=>by obtain ⟨t,rfl⟩:=r;exact ⟨_,.int i t⟩
 | _,_,_,.str x,_,_,r=>by obtain ⟨t,rfl⟩:=r;exact ⟨_,.str x t⟩
 | _,_,0,.tup _ _ _,h,_,_=>by simp [D.fit] at h
 | _,_,0,.lst _ _ _,h,_,_=>by simp [D.fit] at h
 | _,_,n+1,.tup (a:=a) e _ rs,h,_,r=>by
  cases r
  obtain ⟨its,rv,p,_⟩:=I.tuple (SqT.of (K:=X.K) e)
  obtain ⟨o,ho,hc,n,hd⟩:=id p
  obtain ⟨as,ra⟩:=readDs I hK rs (by simpa [D.fit] using h) rv
  exact ⟨_,.tuple ho hc hd (by simpa using ra)⟩
 | _,_,n+1,.lst (a:=a) e _ rs,h,_,r=>by
  cases r
  obtain ⟨its,rv,p,_⟩:=I.list (SqL.of (K:=X.K) e)
  obtain ⟨o,ho,hc,n,hd⟩:=id p.isList
  obtain ⟨as,ra⟩:=readDs I hK rs (by simpa [D.fit] using h) rv
  exact ⟨_,.list ho hc hd (by simpa using ra)⟩
 | _,_,n,.scr e k,h,_,r=>read_scr I hK (.scr e k) r
 | _,_,n,.scrK e,h,_,r=>read_scr I hK (.scrK e) r
 | _,_,n,.dicK _ _ _,h,_,_=>by simp [D.fit] at h
 | _,_,n,.ref _,h,_,_=>by simp [D.fit] at h
 | _,_,n,.exc _ _ _,h,_,_=>by simp [D.fit] at h
theorem readDs{pins:Z3}{σ:St}{s:Shared}(I:Inv X pins σ w.H s)(hK:X.K=cl.K):∀{vs:List V} {ds:List D} {n:Nat},Shds cl w vs ds->D.fits n ds=true->∀{us:List Value},Vals vs us->∃as,ReadsAll s.heap us (D.pys ds) as
 | _,_,_,.nil,_,_,r=>by cases r;exact ⟨_,.nil⟩
 | _,_,n,.cons h t,f,_,r=>by
  simp only [D.fits,Bool.and_eq_true] at f
  cases r with
  | cons r1 r2 =>
   obtain ⟨as,a⟩:=readD I hK h f.1 r1
   obtain ⟨bs,b⟩:=readDs I hK t f.2 r2
   exact ⟨_,.cons a b⟩
end
theorem readT{pins:Z3}{σ:St}{s:Shared}(I:Inv X pins σ w.H s)(hK:X.K=cl.K){v:V}{d:D}{n:Nat}(h:TopV cl w v d)(f:d.fit n=true){u:Value}(r:RelV v u):∃as,Reads s.heap u d.py as:=by
 cases h with
 | sh h=>exact readD I hK h f r
 | ow e t =>
  cases t with
  | lst rs =>
   cases n with
   | zero=>simp [D.fit] at f
   | succ n =>
    cases r
    obtain ⟨its,rv,p,_⟩:=I.list (SqL.of (K:=X.K) e)
    obtain ⟨o,ho,hc,n,hd⟩:=id p.isList
    obtain ⟨as,ra⟩:=readDs I hK rs (by simpa [D.fit] using f) rv
    exact ⟨_,.list ho hc hd (by simpa using ra)⟩
  | dicK _=>simp [D.fit] at f
def pyEq(d e:D):Bool:=d.py.eqv e.py
def eqD(d e:D):Option D:=if d.fit 9&&e.fit 9 then some (.bl (pyEq d e)) else none
def neD(d e:D):Option D:=if d.fit 9&&e.fit 9 then some (.bl (!pyEq d e)) else none
theorem od_eq(hK:X.K=cl.K)(hu:X.A.units+64<cLine):OpD X cl (compareOp .Eq) eqD:=by
 intro pins s σ H x y v u Q I rx ry h
 obtain ⟨w,d,e,r,rfl,hx,hy,hg,q⟩:=h
 unfold eqD at hg
 split at hg
 ·rename_i hf
  cases hg
  rw [Bool.and_eq_true] at hf
  obtain ⟨as,ra⟩:=readT I hK hx hf.1 rx
  obtain ⟨bs,rb⟩:=readT I hK hy hf.2 ry
  obtain ⟨l1,d1⟩:=D.lay hf.1
  obtain ⟨l2,d2⟩:=D.lay hf.2
  exact SeqAt.compareEq_reads ra rb l1 l2 (by omega) ⟨.bl _,w.H,I,rfl,q _ w (Grow.refl _) (.bl _)⟩
 ·cases hg
theorem od_ne(hK:X.K=cl.K)(hu:X.A.units+64<cLine):OpD X cl (compareOp .NotEq) neD:=by
 intro pins s σ H x y v u Q I rx ry h
 obtain ⟨w,d,e,r,rfl,hx,hy,hg,q⟩:=h
 unfold neD at hg
 split at hg
 ·rename_i hf
  cases hg
  rw [Bool.and_eq_true] at hf
  obtain ⟨as,ra⟩:=readT I hK hx hf.1 rx
  obtain ⟨bs,rb⟩:=readT I hK hy hf.2 ry
  obtain ⟨l1,d1⟩:=D.lay hf.1
  obtain ⟨l2,d2⟩:=D.lay hf.2
  exact SeqAt.compareNe_reads ra rb l1 l2 (by omega) ⟨.bl _,w.H,I,rfl,q _ w (Grow.refl _) (.bl _)⟩
 ·cases hg
def seqOf:D->Option (List D) | .lst l=>some l | .tup l=>some l | _=>none
def memD(d:D)(l:List D):Bool:=l.any fun e=>pyEq e d
def inD(d e:D):Option D:=match seqOf e with | some l=>if d.fit 8&&D.fits 8 l then some (.bl (memD d l)) else none | none=>none
def ninD(d e:D):Option D:=match seqOf e with | some l=>if d.fit 8&&D.fits 8 l then some (.bl (!memD d l)) else none | none=>none
theorem any_itemsD{s:Shared}{its:List Value}{ds:List D}{as:List Addr}{d:D}(ra:ReadsAll s.heap its (D.pys ds) as)(f:D.fits 8 ds=true):(its.toArray.any fun y=>(SeqAt.readOf s.heap y).eqv d.py)=memD d ds:=by
 rw [SeqAt.any_by_data (vs:=its.toArray) (xs:=D.pys ds) (as:=as) (by simpa using ra) (D.lays f).1]
 have:∀{l:List D},((D.pys l).any fun y=>y.eqv d.py)=memD d l:=by
  intro l
  induction l with
  | nil=>rfl
  | cons e l ih =>
   show (e.py.eqv d.py||(D.pys l).any fun y=>y.eqv d.py)=(pyEq e d||memD d l)
   rw [ih];rfl
 exact this
theorem items_eqD{A:Around}{s:Shared}{x:Value}{d:D}{bs:List Addr}(hu:A.units+64<cLine)(rx:Reads s.heap x d.py bs)(fd:d.fit 8=true):∀{its:List Value} {ds:List D} {as:List Addr},ReadsAll s.heap its (D.pys ds) as->D.fits 8 ds=true->∀y,y∈its.toArray->SeqAt.EqAt A.in1 s y x ((SeqAt.readOf s.heap y).eqv d.py)
 | [],[],_,_,_,y,hy=>by simp at hy
 | [],_::_,_,h,_,_,_=>by cases h
 | _::_,[],_,h,_,_,_=>by cases h
 | v::its,e::ds,_,h,f,y,hy=>by
  simp only [D.fits,Bool.and_eq_true] at f
  cases h with
  | cons h1 h2 =>
   simp at hy
   rcases hy with rfl | hy
   ·rw [read_eq (D.lay f.1).1 h1]
    refine SeqAt.eqAt_reads _ _ _ _ _ _ _ _ h1 rx (D.lay f.1).1 (D.lay fd).1 ?_
    have:=(D.lay f.1).2
    show A.units+1+_<cLine
    omega
   ·exact items_eqD hu rx fd h2 f.2 y (by simpa using hy)
theorem seq_inv{e:D}{l:List D}(h:seqOf e=some l):e=.lst l\/e=.tup l:=by
 cases e<;>simp [seqOf] at h
 ·exact .inr (by rw [h])
 ·exact .inl (by rw [h])
theorem od_in(hK:X.K=cl.K)(hu:X.A.units+64<cLine):OpD X cl (compareOp .In) inD:=by
 intro pins s σ H x y v u Q I rx ry h
 obtain ⟨w,d,e,r,rfl,hx,hy,hg,q⟩:=h
 unfold inD at hg
 split at hg
 ·rename_i l hl
  split at hg
  ·rename_i hf
   cases hg
   rw [Bool.and_eq_true] at hf
   obtain ⟨bs,rb⟩:=readT I hK hx hf.1 rx
   rcases seq_inv hl with rfl | rfl
   ·obtain ⟨a,xs,rfl,e,rs⟩:=hy.lstI
    cases ry
    obtain ⟨its,rv,p,_⟩:=I.list (SqL.of (K:=X.K) e)
    obtain ⟨as,ra⟩:=readDs I hK rs hf.2 rv
    refine SeqAt.in_listAt _ p.isList (items_eqD hu rb hf.1 ra hf.2) ?_
    rw [any_itemsD ra hf.2]
    exact ⟨.bl _,w.H,I,rfl,q _ w (Grow.refl _) (.bl _)⟩
   ·obtain ⟨a,xs,rfl,e,_,rs⟩:=hy.tupI
    cases ry
    obtain ⟨its,rv,p,_⟩:=I.tuple (SqT.of (K:=X.K) e)
    obtain ⟨as,ra⟩:=readDs I hK rs hf.2 rv
    refine SeqAt.in_tupleAt _ p (items_eqD hu rb hf.1 ra hf.2) ?_
    rw [any_itemsD ra hf.2]
    exact ⟨.bl _,w.H,I,rfl,q _ w (Grow.refl _) (.bl _)⟩
  ·cases hg
 ·cases hg
theorem od_nin(hK:X.K=cl.K)(hu:X.A.units+64<cLine):OpD X cl (compareOp .NotIn) ninD:=by
 intro pins s σ H x y v u Q I rx ry h
 obtain ⟨w,d,e,r,rfl,hx,hy,hg,q⟩:=h
 unfold ninD at hg
 split at hg
 ·rename_i l hl
  split at hg
  ·rename_i hf
   cases hg
   rw [Bool.and_eq_true] at hf
   obtain ⟨bs,rb⟩:=readT I hK hx hf.1 rx
   rcases seq_inv hl with rfl | rfl
   ·obtain ⟨a,xs,rfl,e,rs⟩:=hy.lstI
    cases ry
    obtain ⟨its,rv,p,_⟩:=I.list (SqL.of (K:=X.K) e)
    obtain ⟨as,ra⟩:=readDs I hK rs hf.2 rv
    refine SeqAt.notIn_listAt _ p.isList (items_eqD hu rb hf.1 ra hf.2) ?_
    rw [any_itemsD ra hf.2]
    exact ⟨.bl _,w.H,I,rfl,q _ w (Grow.refl _) (.bl _)⟩
   ·obtain ⟨a,xs,rfl,e,_,rs⟩:=hy.tupI
    cases ry
    obtain ⟨its,rv,p,_⟩:=I.tuple (SqT.of (K:=X.K) e)
    obtain ⟨as,ra⟩:=readDs I hK rs hf.2 rv
    refine SeqAt.notIn_tupleAt _ p (items_eqD hu rb hf.1 ra hf.2) ?_
    rw [any_itemsD ra hf.2]
    exact ⟨.bl _,w.H,I,rfl,q _ w (Grow.refl _) (.bl _)⟩
  ·cases hg
 ·cases hg
def addD:D->D->Option D
 | .int i,.int j=>some (.int (i+j))
 | .tup a,.tup b=>if small (a.length+b.length) then some (.tup (a++b)) else none
 | .lst a,.lst b=>if small (a.length+b.length) then some (.lst (a++b)) else none
 | .str a,.str b=>if small (a.length+b.length) then some (.str (a++b)) else none
 | _,_=>none
theorem od_add:OpD X cl (binaryOp .Add) addD:=by
 intro pins s σ H x y v u Q I rx ry h
 obtain ⟨w,d,e,r,rfl,hx,hy,hg,q⟩:=h
 unfold addD at hg
 split at hg
 ·cases hg
  rename_i i j
  obtain rfl:=hx.intI
  obtain rfl:=hy.intI
  exact op_add pins s σ w.H _ _ v u Q I rx ry ⟨i,j,rfl,rfl,q _ w (Grow.refl _) (.int _)⟩
 ·rename_i a b
  split at hg
  ·rename_i hz
   cases hg
   obtain ⟨p,xs,rfl,ep,kp,rs⟩:=hx.tupI
   obtain ⟨p2,ys,rfl,ep2,kp2,rs2⟩:=hy.tupI
   by_cases hxe:xs=[]
   ·subst hxe
    cases rs
    exact op_catT0 pins s σ w.H _ _ v u Q I rx ry ⟨p,p2,ys,rfl,rfl,SqT.of ep,SqT.of ep2,q _ w (Grow.refl _) (.tup ep2 kp2 rs2)⟩
   ·refine op_catT pins s σ w.H _ _ v u Q I rx ry ⟨p,p2,xs,ys,rfl,rfl,SqT.of ep,SqT.of ep2,hxe,by rw [rs.length,rs2.length];exact small_line hz,fun z=>?_,fun z l hl=>?_⟩
    ·subst z
     cases rs2
     rw [List.append_nil] at q
     exact q _ w (Grow.refl _) (.tup ep kp rs)
    ·exact q _ (w.add l _) (grow_add hl _) (Shd.newT hl (rs.append rs2))
  ·cases hg
 ·rename_i a b
  split at hg
  ·rename_i hz
   cases hg
   obtain ⟨p,xs,rfl,ep,rs⟩:=hx.lstI
   obtain ⟨p2,ys,rfl,ep2,rs2⟩:=hy.lstI
   exact op_cat pins s σ w.H _ _ v u Q I rx ry ⟨p,p2,xs,ys,rfl,rfl,ep,ep2,by rw [rs.length,rs2.length];exact small_line hz,fun l hl=>q _ (w.add l _) (grow_add hl _) (Shd.newL hl (rs.append rs2))⟩
  ·cases hg
 ·rename_i a b
  split at hg
  ·rename_i hz
   cases hg
   obtain rfl:=hx.strI
   obtain rfl:=hy.strI
   exact op_add_str pins s σ w.H _ _ v u Q I rx ry ⟨a,b,rfl,rfl,small_line hz,q _ w (Grow.refl _) (.str _)⟩
  ·cases hg
 ·cases hg
def subD:D->D->Option D | .int i,.int j=>some (.int (i-j)) | _,_=>none
theorem od_sub:OpD X cl (binaryOp .Sub) subD:=by
 intro pins s σ H x y v u Q I rx ry h
 obtain ⟨w,d,e,r,rfl,hx,hy,hg,q⟩:=h
 unfold subD at hg
 split at hg
 ·cases hg
  rename_i i j
  obtain rfl:=hx.intI
  obtain rfl:=hy.intI
  exact op_sub pins s σ w.H _ _ v u Q I rx ry ⟨i,j,rfl,rfl,q _ w (Grow.refl _) (.int _)⟩
 ·cases hg
def fits64(i:Int):Bool:=decide (-(2 ^ 64)<i/\i<2 ^ 64)
def mulD:D->D->Option D
 | .int i,.int j=>if fits64 i||fits64 j then some (.int (i*j)) else none
 | .tup a,.int j=>if decide (1<=j/\j<=1000/\a≠[]/\a.length<=1000) then some (.tup (List.replicate j.toNat a).flatten) else none
 | .lst a,.int j=>if decide (0<=j/\j<=1000/\a.length<=1000) then some (.lst (List.replicate j.toNat a).flatten) else none
 | _,_=>none
theorem od_mul:OpD X cl (binaryOp .Mult) mulD:=by
 intro pins s σ H x y v u Q I rx ry h
 obtain ⟨w,d,e,r,rfl,hx,hy,hg,q⟩:=h
 unfold mulD at hg
 split at hg
 ·rename_i i j
  split at hg
  ·rename_i hz
   cases hg
   obtain rfl:=hx.intI
   obtain rfl:=hy.intI
   refine op_mul pins s σ w.H _ _ v u Q I rx ry ⟨i,j,rfl,rfl,?_,q _ w (Grow.refl _) (.int _)⟩
   rw [Bool.or_eq_true] at hz
   exact hz.imp (fun z=>of_decide_eq_true z) fun z=>of_decide_eq_true z
  ·cases hg
 ·rename_i a j
  split at hg
  ·rename_i hz
   cases hg
   have hz':=of_decide_eq_true hz
   obtain ⟨p,xs,rfl,ep,kp,rs⟩:=hx.tupI
   obtain rfl:=hy.intI
   have hl:=rs.length
   obtain ⟨k,rfl⟩:∃k:Nat,j=(k:Int):=⟨j.toNat,by omega⟩
   have hne:xs≠[]:=fun z=>hz'.2.2.1 (by cases a with | nil=>rfl | cons _ _=>rw [z] at hl;cases hl)
   by_cases hk:k=1
   ·subst hk
    cases rx
    obtain ⟨t,rfl⟩:=ry
    obtain ⟨its,rv,⟨o,ho,hc,n,hd⟩,_⟩:=I.tuple (SqT.of (K:=X.K) ep)
    refine PySem.mul_tup1 ho hc hd ⟨.ref p,w.H,I,rfl,q _ w (Grow.refl _) (.tup ep kp ?_)⟩
    simpa using rs
   ·refine op_repT pins s σ w.H _ _ v u Q I rx ry ⟨p,k,xs,rfl,rfl,SqT.of ep,hne,by omega,by omega,by omega,fun l hl=>q _ (w.add l _) (grow_add hl _) (Shd.newT hl (rs.flat _))⟩
  ·cases hg
 ·rename_i a j
  split at hg
  ·rename_i hz
   cases hg
   have hz':=of_decide_eq_true hz
   obtain ⟨p,xs,rfl,ep,rs⟩:=hx.lstI
   obtain rfl:=hy.intI
   have hl:=rs.length
   refine op_rep pins s σ w.H _ _ v u Q I rx ry ⟨p,j,xs,rfl,rfl,ep,by omega,by omega,?_,fun l hl=>q _ (w.add l _) (grow_add hl _) (Shd.newL hl (rs.flat _))⟩
   refine Nat.le_trans (Nat.mul_le_mul (show xs.length<=1000 by omega) (show j.toNat<=1000 by omega)) (by decide)
  ·cases hg
 ·cases hg
def modD:D->D->Option D | .int i,.int j=>if 0<j then some (.int (i % j)) else none | _,_=>none
def divD:D->D->Option D | .int i,.int j=>if 0<j/\j<1073741824 then some (.int (i / j)) else none | _,_=>none
theorem od_mod:OpD X cl (binaryOp .Mod) modD:=by
 intro pins s σ H x y v u Q I rx ry h
 obtain ⟨w,d,e,r,rfl,hx,hy,hg,q⟩:=h
 unfold modD at hg
 split at hg
 ·rename_i i j
  split at hg
  ·rename_i hz
   cases hg
   obtain rfl:=hx.intI
   obtain rfl:=hy.intI
   exact op_mod pins s σ w.H _ _ v u Q I rx ry ⟨i,j,rfl,rfl,hz,q _ w (Grow.refl _) (.int _)⟩
  ·cases hg
 ·cases hg
theorem od_div:OpD X cl (binaryOp .FloorDiv) divD:=by
 intro pins s σ H x y v u Q I rx ry h
 obtain ⟨w,d,e,r,rfl,hx,hy,hg,q⟩:=h
 unfold divD at hg
 split at hg
 ·rename_i i j
  split at hg
  ·rename_i hz
   cases hg
   obtain rfl:=hx.intI
   obtain rfl:=hy.intI
   exact op_fdiv pins s σ w.H _ _ v u Q I rx ry ⟨i,j,rfl,rfl,hz,q _ w (Grow.refl _) (.int _)⟩
  ·cases hg
 ·cases hg
def negD:D->Option D | .int i=>some (.int (-i)) | _=>none
theorem ud_neg:UnD X cl (unaryOp .USub) negD:=by
 intro pins s σ H x v Q I rx h
 obtain ⟨w,d,r,rfl,hx,hg,q⟩:=h
 unfold negD at hg
 split at hg
 ·cases hg
  rename_i i
  obtain rfl:=hx.intI
  exact un_neg pins s σ w.H _ v Q I rx ⟨i,rfl,q _ w (Grow.refl _) (.int _)⟩
 ·cases hg
def cmpI(p:Int->Int->Bool):D->D->Option D | .int i,.int j=>some (.bl (p i j)) | _,_=>none
theorem od_cmpI{op:CmpOp}{p:Int->Int->Bool}(ho:OpR X (compareOp op) (rI0 fun i j=>.bl (p i j))):OpD X cl (compareOp op) (cmpI p):=by
 intro pins s σ H x y v u Q I rx ry h
 obtain ⟨w,d,e,r,rfl,hx,hy,hg,q⟩:=h
 unfold cmpI at hg
 split at hg
 ·cases hg
  rename_i i j
  obtain rfl:=hx.intI
  obtain rfl:=hy.intI
  exact ho pins s σ w.H _ _ v u Q I rx ry ⟨i,j,rfl,rfl,q _ w (Grow.refl _) (.bl _)⟩
 ·cases hg
def isNon:D->Bool | .non=>true | _=>false
def isnD(d e:D):Option D:=if isNon e then some (.bl (isNon d)) else none
def notnD(d e:D):Option D:=if isNon e then some (.bl (!isNon d)) else none
theorem TopV.non_iff{v:V}{d:D}(h:TopV cl w v d):decide (v=.non)=isNon d:=by
 cases h with
 | sh h=>cases h<;>simp [isNon]
 | ow e t=>cases t<;>simp [isNon]
theorem isNon_iff{d:D}(h:isNon d=true):d=.non:=by cases d<;>simp [isNon] at h;rfl
theorem od_isn:OpD X cl (compareOp .Is) isnD:=by
 intro pins s σ H x y v u Q I rx ry h
 obtain ⟨w,d,e,r,rfl,hx,hy,hg,q⟩:=h
 unfold isnD at hg
 split at hg
 ·rename_i hz
  cases hg
  rw [isNon_iff hz] at hy
  obtain rfl:=hy.nonI
  refine op_isN pins s σ w.H _ _ v u Q I rx ry ⟨rfl,?_⟩
  rw [hx.non_iff]
  exact q _ w (Grow.refl _) (.bl _)
 ·cases hg
theorem od_notn:OpD X cl (compareOp .IsNot) notnD:=by
 intro pins s σ H x y v u Q I rx ry h
 obtain ⟨w,d,e,r,rfl,hx,hy,hg,q⟩:=h
 unfold notnD at hg
 split at hg
 ·rename_i hz
  cases hg
  rw [isNon_iff hz] at hy
  obtain rfl:=hy.nonI
  refine op_notN pins s σ w.H _ _ v u Q I rx ry ⟨rfl,?_⟩
  rw [hx.non_iff]
  exact q _ w (Grow.refl _) (.bl _)
 ·cases hg
def notbD:D->D->Option D | .bl a,.bl b=>some (.bl (!decide (a=b))) | _,_=>none
theorem od_notb:OpD X cl (compareOp .IsNot) notbD:=by
 intro pins s σ H x y v u Q I rx ry h
 obtain ⟨w,d,e,r,rfl,hx,hy,hg,q⟩:=h
 unfold notbD at hg
 split at hg
 ·cases hg
  obtain rfl:=hx.blI
  obtain rfl:=hy.blI
  exact op_isnot_bl pins s σ w.H _ _ v u Q I rx ry ⟨_,_,rfl,rfl,q _ w (Grow.refl _) (.bl _)⟩
 ·cases hg
def ixD:D->D->Option D
 | .lst l,.int i=>atI l i
 | .tup l,.int i=>atI l i
 | .scr l,.int i=>(atI l i).map D.int
 | _,_=>none
theorem shds_atI{xs:List V}{ds:List D}(r:Shds cl w xs ds){i:Int}{d:D}(h:atI ds i=some d):∃v,atI xs i=some v/\Shd cl w v d:=by
 unfold atI at h ⊢
 rw [r.length]
 cases e:ixN ds.length i with
 | none=>rw [e] at h;cases h
 | some j =>
  rw [e] at h
  exact r.at h
theorem id_ix(hK:X.K=cl.K):IxD X cl ixD:=by
 intro value slice pins s σ H x y v u Q I rx ry h hsub
 obtain ⟨w,d,e,r,rfl,hx,hy,hg,q⟩:=h
 unfold ixD at hg
 split at hg
 ·rename_i l i
  obtain ⟨p,xs,rfl,ep,rs⟩:=hx.lstI
  obtain rfl:=hy.intI
  obtain ⟨z,e1,e2⟩:=shds_atI rs hg
  exact ix_list value slice pins s σ w.H _ _ v u Q I rx ry ⟨p,xs,i,z,rfl,rfl,SqL.of ep,e1,q _ w (Grow.refl _) e2⟩ hsub
 ·rename_i l i
  obtain ⟨p,xs,rfl,ep,_,rs⟩:=hx.tupI
  obtain rfl:=hy.intI
  obtain ⟨z,e1,e2⟩:=shds_atI rs hg
  exact ix_tup value slice pins s σ w.H _ _ v u Q I rx ry ⟨p,xs,i,z,rfl,rfl,SqT.of ep,e1,q _ w (Grow.refl _) e2⟩ hsub
 ·rename_i l i
  obtain ⟨p,rfl,ep⟩:=hx.scrI hK
  obtain rfl:=hy.intI
  cases hl:atI l i with
  | none=>rw [hl] at hg;cases hg
  | some k =>
   rw [hl] at hg;cases hg
   have e1:atI (l.map V.int) i=some (.int k):=by
    unfold atI at hl ⊢
    rw [List.length_map]
    cases e:ixN l.length i with
    | none=>rw [e] at hl;cases hl
    | some j =>
     rw [e] at hl
     have hl':l[j]?=some k:=hl
     show (l.map V.int)[j]?=_
     rw [List.getElem?_map,hl'];rfl
   exact ix_list value slice pins s σ w.H _ _ v u Q I rx ry ⟨p,_,i,_,rfl,rfl,ep,e1,q _ w (Grow.refl _) (.int _)⟩ hsub
 ·cases hg
def lenD:List D->Option D
 | [.lst l]=>some (.int l.length)
 | [.tup l]=>some (.int l.length)
 | [.scr l]=>some (.int l.length)
 | [.str x]=>if small x.length then some (.int x.length) else none
 | _=>none
theorem cd_len(hK:X.K=cl.K):CallD X cl (.builtin "len") lenD:=by
 intro pins s σ H xs us Q I r h
 obtain ⟨w,ds,d,rfl,hx,hg,q⟩:=h
 unfold lenD at hg
 split at hg
 ·rename_i l
  cases hg
  cases hx with
  | cons h1 h2 =>
   cases h2
   obtain ⟨p,ys,rfl,ep,rs⟩:=h1.lstI
   refine call_len_seq pins s σ w.H _ us Q I r ⟨p,ys,rfl,.inl (SqL.of ep),?_⟩
   rw [rs.length]
   exact q _ w (Grow.refl _) (.int _)
 ·rename_i l
  cases hg
  cases hx with
  | cons h1 h2 =>
   cases h2
   obtain ⟨p,ys,rfl,ep,_,rs⟩:=h1.tupI
   refine call_len_seq pins s σ w.H _ us Q I r ⟨p,ys,rfl,.inr (SqT.of ep),?_⟩
   rw [rs.length]
   exact q _ w (Grow.refl _) (.int _)
 ·rename_i l
  cases hg
  cases hx with
  | cons h1 h2 =>
   cases h2
   obtain ⟨p,rfl,ep⟩:=h1.scrI hK
   refine call_len_seq pins s σ w.H _ us Q I r ⟨p,l.map V.int,rfl,.inl ep,?_⟩
   rw [List.length_map]
   exact q _ w (Grow.refl _) (.int _)
 ·rename_i x
  split at hg
  ·rename_i hz
   cases hg
   cases hx with
   | cons h1 h2 =>
    cases h2
    obtain rfl:=h1.strI
    exact call_len_str pins s σ w.H _ us Q I r ⟨x,rfl,small_line hz,q _ w (Grow.refl _) (.int _)⟩
  ·cases hg
 ·cases hg
def tupleD:List D->Option D
 | [.lst l]=>some (.tup l)
 | [.tup l]=>some (.tup l)
 | _=>none
theorem cd_tuple:CallD X cl (.type "tuple") tupleD:=by
 intro pins s σ H xs us Q I r h
 obtain ⟨w,ds,d,rfl,hx,hg,q⟩:=h
 unfold tupleD at hg
 split at hg
 ·rename_i l
  cases hg
  cases hx with
  | cons h1 h2 =>
   cases h2
   obtain ⟨p,ys,rfl,ep,rs⟩:=h1.lstI
   exact call_tuple_of pins s σ w.H _ us Q I r ⟨p,ys,rfl,.inl ⟨SqL.of ep,fun l hl=>q _ (w.add l _) (grow_add hl _) (Shd.newT hl rs)⟩⟩
 ·rename_i l
  cases hg
  cases hx with
  | cons h1 h2 =>
   cases h2
   obtain ⟨p,ys,rfl,ep,kp,rs⟩:=h1.tupI
   exact call_tuple_of pins s σ w.H _ us Q I r ⟨p,ys,rfl,.inr ⟨SqT.of ep,q _ w (Grow.refl _) (.tup ep kp rs)⟩⟩
 ·cases hg
def listD:List D->Option D
 | [.lst l]=>some (.lst l)
 | [.tup l]=>some (.lst l)
 | _=>none
theorem cn_list:CallN X cl (.type "list") listD:=by
 intro pins s σ H xs us Q I r h
 obtain ⟨w,ds,d,rfl,hx,hg,q⟩:=h
 unfold listD at hg
 split at hg
 ·rename_i l
  cases hg
  cases hx with
  | cons h1 h2 =>
   cases h2
   obtain ⟨p,ys,rfl,ep,rs⟩:=h1.lstI
   exact call_list_of pins s σ w.H _ us Q I r ⟨p,ys,rfl,.inl (SqL.of ep),fun l hl=>q _ _ w (Grow.refl _) hl (.lst rs)⟩
 ·rename_i l
  cases hg
  cases hx with
  | cons h1 h2 =>
   cases h2
   obtain ⟨p,ys,rfl,ep,_,rs⟩:=h1.tupI
   exact call_list_of pins s σ w.H _ us Q I r ⟨p,ys,rfl,.inr (SqT.of ep),fun l hl=>q _ _ w (Grow.refl _) hl (.lst rs)⟩
 ·cases hg
def blsOf:List D->Option (List Bool)
 | []=>some []
 | .bl b::l=>(blsOf l).map (b::·)
 | _=>none
theorem bls_vals:∀{xs:List V} {ds:List D} {bs:List Bool},Shds cl w xs ds->blsOf ds=some bs->xs=bs.map V.bl
 | _,_,_,.nil,h=>by cases h;rfl
 | _,_,bs,.cons (d:=.bl b) (ds:=ds) h t,e=>by
  cases h
  unfold blsOf at e
  cases hr:blsOf ds with
  | none=>rw [hr] at e;cases e
  | some cs=>rw [hr] at e;cases e;rw [bls_vals t hr];rfl
 | _,_,_,.cons (d:=.non) _ _,e=>by simp [blsOf] at e
 | _,_,_,.cons (d:=.int _) _ _,e=>by simp [blsOf] at e
 | _,_,_,.cons (d:=.str _) _ _,e=>by simp [blsOf] at e
 | _,_,_,.cons (d:=.tup _) _ _,e=>by simp [blsOf] at e
 | _,_,_,.cons (d:=.lst _) _ _,e=>by simp [blsOf] at e
 | _,_,_,.cons (d:=.dic _) _ _,e=>by simp [blsOf] at e
 | _,_,_,.cons (d:=.ref _) _ _,e=>by simp [blsOf] at e
 | _,_,_,.cons (d:=.exc _) _ _,e=>by simp [blsOf] at e
 | _,_,_,.cons (d:=.scr _) _ _,e=>by simp [blsOf] at e
def allD:List D->Option D
 | [.lst l]=>(blsOf l).map fun bs=>.bl (bs.all id)
 | _=>none
theorem cd_all(hc:X.calm=true):CallD X cl (.builtin "all") allD:=by
 intro pins s σ H xs us Q I r h
 obtain ⟨w,ds,d,rfl,hx,hg,q⟩:=h
 unfold allD at hg
 split at hg
 ·rename_i l
  cases hb:blsOf l with
  | none=>rw [hb] at hg;cases hg
  | some bs =>
   rw [hb] at hg;cases hg
   cases hx with
   | cons h1 h2 =>
    cases h2
    obtain ⟨p,ys,rfl,ep,rs⟩:=h1.lstI
    obtain rfl:=bls_vals rs hb
    exact call_all_bl hc pins s σ w.H _ us Q I r ⟨p,bs,rfl,SqL.of ep,q _ w (Grow.refl _) (.bl _)⟩
 ·cases hg
def intsOf:List D->Option (List Int)
 | []=>some []
 | .int b::l=>(intsOf l).map (b::·)
 | _=>none
theorem ints_vals:∀{xs:List V} {ds:List D} {bs:List Int},Shds cl w xs ds->intsOf ds=some bs->xs=bs.map V.int
 | _,_,_,.nil,h=>by cases h;rfl
 | _,_,bs,.cons (d:=.int b) (ds:=ds) h t,e=>by
  cases h
  unfold intsOf at e
  cases hr:intsOf ds with
  | none=>rw [hr] at e;cases e
  | some cs=>rw [hr] at e;cases e;rw [ints_vals t hr];rfl
 | _,_,_,.cons (d:=.non) _ _,e=>by simp [intsOf] at e
 | _,_,_,.cons (d:=.bl _) _ _,e=>by simp [intsOf] at e
 | _,_,_,.cons (d:=.str _) _ _,e=>by simp [intsOf] at e
 | _,_,_,.cons (d:=.tup _) _ _,e=>by simp [intsOf] at e
 | _,_,_,.cons (d:=.lst _) _ _,e=>by simp [intsOf] at e
 | _,_,_,.cons (d:=.dic _) _ _,e=>by simp [intsOf] at e
 | _,_,_,.cons (d:=.ref _) _ _,e=>by simp [intsOf] at e
 | _,_,_,.cons (d:=.exc _) _ _,e=>by simp [intsOf] at e
 | _,_,_,.cons (d:=.scr _) _ _,e=>by simp [intsOf] at e
def sumD:List D->Option D
 | [.lst l]=>(intsOf l).bind fun ns=>if decide (ns.length<=1000)&&ns.all (fun n=>decide (0<=n/\n<=1000000)) then some (.int ns.sum) else none
 | _=>none
theorem cd_sum(hc:X.calm=true):CallD X cl (.builtin "sum") sumD:=by
 intro pins s σ H xs us Q I r h
 obtain ⟨w,ds,d,rfl,hx,hg,q⟩:=h
 unfold sumD at hg
 split at hg
 ·rename_i l
  cases hb:intsOf l with
  | none=>rw [hb] at hg;cases hg
  | some ns =>
   rw [hb] at hg
   dsimp only [Option.bind] at hg
   split at hg
   ·rename_i hz
    cases hg
    rw [Bool.and_eq_true,List.all_eq_true] at hz
    cases hx with
    | cons h1 h2 =>
     cases h2
     obtain ⟨p,ys,rfl,ep,rs⟩:=h1.lstI
     obtain rfl:=ints_vals rs hb
     exact call_sum hc pins s σ w.H _ us Q I r ⟨p,ns,rfl,SqL.of ep,of_decide_eq_true hz.1,fun n hn=>of_decide_eq_true (hz.2 n hn),q _ w (Grow.refl _) (.int _)⟩
   ·cases hg
 ·cases hg
end
end S2
namespace S2
open PySem PySem.Spec PyProof.Rows L2
def eChain(g g':D->D->Option D)(f h k:Fe):Fe:=fun ρ S=>(f ρ S).bind fun a S1=>(h ρ S1).bind fun b S2=>match (g a b).bind isB with
 | some true=>(k ρ S2).bind fun c S3=>Out.of (g' b c) S3
 | some false=>.ok (.bl false) S2
 | none=>.bad
section
variable{X:Cx}{cl:Cf}{E:St->XK}{a b c e:Expr}{f h k:Fe}{pos:Pos}
theorem tE_chain{g g':D->D->Option D}{r r':R2}(hr:∀x y H Q,(∃w d e r,w.H=H/\TopV cl w x d/\TopV cl w y e/\g d e=some r/\∀v w',Grow w w'->Shd cl w' v r->Q v w'.H)->r x y H Q)
  (hr':∀x y H Q,(∃w d e r,w.H=H/\TopV cl w x d/\TopV cl w y e/\g' d e=some r/\∀v w',Grow w w'->Shd cl w' v r->Q v w'.H)->r' x y H Q) {σ:St} {H:Hp} {Q:VK} (q:tE cl E (eChain g g' f h k) σ H Q):tChain r r' (tH cl E f) (tH cl E h) (tH cl E k) σ H Q:=by
 obtain ⟨B,w,ρ,S,rfl,R,q⟩:=q
 refine ⟨B,w,ρ,S,rfl,R,?_⟩
 unfold eChain at q
 cases hf:f ρ S with
 | bad=>rw [hf] at q;exact q
 | exc c S1=>rw [hf] at q;exact q
 | ok d S1 =>
  rw [hf] at q
  intro v w1 R1 F1 h1
  refine ⟨B,w1,ρ,S1,rfl,R1,?_⟩
  dsimp only [Out.bind] at q
  cases hh:h ρ S1 with
  | bad=>rw [hh] at q;exact q
  | exc c S2=>rw [hh] at q;exact fun w2 R2 F2=>q w2 R2 (F1.trans F2)
  | ok e S2 =>
   rw [hh] at q
   intro y w2 R2 F2 h2
   dsimp only at q
   cases hg:g d e with
   | none=>rw [hg] at q;exact q.elim
   | some z =>
    rw [hg] at q
    dsimp only [Option.bind] at q
    cases hb:isB z with
    | none=>rw [hb] at q;exact q.elim
    | some bb =>
     rw [hb] at q
     rw [isB_some hb] at hg
     refine hr _ _ _ _ ⟨w2,d,e,_,rfl,(h1.up F2).top R2,h2.top R2,hg,fun v' w3 gr sh=>⟨bb,shd_bl sh,?_⟩⟩
     have R3:=R2.grow gr
     cases bb with
     | false=>exact iteF (q _ w3 R3 (F1.trans (F2.trans gr.fut)) (.bl _))
     | true =>
      refine iteT ⟨B,w3,ρ,S2,rfl,R3,?_⟩
      dsimp only at q
      cases hk:k ρ S2 with
      | bad=>rw [hk] at q;exact q
      | exc c S3=>rw [hk] at q;exact fun w4 R4 F4=>q w4 R4 (F1.trans (F2.trans (gr.fut.trans F4)))
      | ok c S3 =>
       rw [hk] at q
       intro z' w4 R4 F4 h4
       dsimp only at q
       cases hg':g' e c with
       | none=>rw [hg'] at q;exact q.elim
       | some r2 =>
        rw [hg'] at q
        exact hr' _ _ _ _ ⟨w4,e,c,r2,rfl,(h2.up (gr.fut.trans F4)).top R4,h4.top R4,hg',fun v' w5 gr5 sh5=>q v' w5 (R4.grow gr5) (F1.trans (F2.trans (gr.fut.trans (F4.trans gr5.fut)))) sh5⟩
theorem se_chain{op op':CmpOp}{g g':D->D->Option D}(ho:OpD X cl (compareOp op) g)(ho':OpD X cl (compareOp op') g')(ha:PE X a (tH cl E f))(hb:PE X b (tH cl E h))(hc:PE X c (tH cl E k))(hm:lastMarks [op,op'] [b,c]=false):PE X (.Compare a [op,op'] [b,c] pos) (tE cl E (eChain g g' f h k)) :=
 PE.imp (pe_chain ho ho' ha hb hc hm) fun _ _ _ q=>tE_chain (fun _ _ _ _ z=>z) (fun _ _ _ _ z=>z) q
theorem st_chain{op op':CmpOp}{g g':D->D->Option D}(ho:OpD X cl (compareOp op) g)(ho':OpD X cl (compareOp op') g')(ha:PE X a (tH cl E f))(hb:PE X b (tH cl E h))(hc:PE X c (tH cl E k))(hm:lastMarks [op,op'] [b,c]=false):PT X (.Compare a [op,op'] [b,c] pos) (tTr cl E (eChain g g' f h k)) :=
 PT.imp (pt_chain ho ho' ha hb hc hm) fun _ _ _ q=>tE_chain (fun _ _ _ _ z=>z) (fun _ _ _ _ z=>z) (tTr_tB q)
def cutD{α:Type}(l:List α)(lo hi:Option Int):List α:=(l.drop (HT.sIx l.length 0 lo)).take (HT.sIx l.length l.length hi-HT.sIx l.length 0 lo)
def slD(d:D)(lo hi:Option Int):Option D:=match d with
 | .lst l=>some (.lst (cutD l lo hi))
 | .tup l=>some (.tup (cutD l lo hi))
 | _=>none
def evalO(o:Option Fe)(ρ:Env)(S:Sto):Out (Option Int):=match o with
 | none=>.ok none S
 | some f=>(f ρ S).bind fun d S1=>match d with | .int i=>.ok (some i) S1 | _=>.bad
def eSl(f:Fe)(lo hi:Option Fe):Fe:=fun ρ S=>(f ρ S).bind fun d S1=>(evalO lo ρ S1).bind fun l S2=>(evalO hi ρ S2).bind fun u S3=>Out.of (slD d l u) S3
theorem cutV_shds{w:Wd}{xs:List V}{ds:List D}(r:Shds cl w xs ds)(lo hi:Option Int):Shds cl w (cutV xs lo hi) (cutD ds lo hi):=by
 unfold cutV cutD
 rw [r.length]
 exact (r.drop _).take _
def SlD(X:Cx)(cl:Cf):Prop:=SlR X fun x lo hi H Q=>∃w d r,w.H=H/\TopV cl w x d/\slD d lo hi=some r/\∀v w',Grow w w'->Shd cl w' v r->Q v w'.H
theorem sd_sl:SlD X cl:=by
 intro pins s σ H x v vl vu lo hi sl Q I rx hs pl pu h
 obtain ⟨w,d,r,rfl,hx,hg,q⟩:=h
 unfold slD at hg
 split at hg
 ·rename_i l
  cases hg
  obtain ⟨p,xs,rfl,ep,rs⟩:=hx.lstI
  exact sl_list pins s σ w.H _ v vl vu lo hi sl Q I rx hs pl pu ⟨p,xs,rfl,SqL.of ep,fun p' hp=>q _ (w.add p' _) (grow_add hp _) (Shd.newL hp (cutV_shds rs lo hi))⟩
 ·rename_i l
  cases hg
  obtain ⟨p,xs,rfl,ep,kp,rs⟩:=hx.tupI
  by_cases hw:HT.sIx xs.length 0 lo=0/\HT.sIx xs.length xs.length hi=xs.length
  ·refine sl_tup_all pins s σ w.H _ v vl vu lo hi sl Q I rx hs pl pu ⟨p,xs,rfl,SqT.of ep,hw.1,hw.2,q _ w (Grow.refl _) (.tup ep kp ?_)⟩
   have:cutD l lo hi=l:=by
    unfold cutD
    rw [<-rs.length,hw.1,hw.2,List.drop_zero,Nat.sub_zero,List.take_of_length_le (by rw [rs.length];exact Nat.le_refl _)]
   rw [this];exact rs
  ·exact sl_tup pins s σ w.H _ v vl vu lo hi sl Q I rx hs pl pu ⟨p,xs,rfl,SqT.of ep,hw,fun p' hp=>q _ (w.add p' _) (grow_add hp _) (Shd.newT hp (cutV_shds rs lo hi))⟩
 ·cases hg
def tOp'(cl:Cf)(E:St->XK)(o:Option Fe):TO:=match o with | none=>tNoPart | some f=>tPart (tH cl E f)
theorem se_sl{lo hi:Option Expr}{fl fh:Option Fe}{p2:Pos}(he:PE X e (tH cl E f))(hl:PO X lo (tOp' cl E fl))(hu:PO X hi (tOp' cl E fh)):PE X (.Subscript e (.Slice lo hi none p2) pos) (tE cl E (eSl f fl fh)):=by
 refine PE.imp (pe_slice (sd_sl (cl:=cl)) he hl hu) ?_
 rintro σ H Q ⟨B,w,ρ,S,rfl,R,q⟩
 refine ⟨B,w,ρ,S,rfl,R,?_⟩
 unfold eSl at q
 cases hf:f ρ S with
 | bad=>rw [hf] at q;exact q
 | exc c S1=>rw [hf] at q;exact q
 | ok d S1 =>
  rw [hf] at q
  intro v w1 R1 F1 h1
  dsimp only [Out.bind] at q
  have last:∀(l u:Option Int) (w3:Wd) (S3:Sto),Rel cl B σ w3 ρ S3->Fut w1 w3->(match Out.of (slD d l u) S3 with
    | .ok d S'=>∀v w',Rel cl B σ w' ρ S'->Fut w w'->Shd cl w' v d->Q v w'.H
    | .exc c S'=>∀w',Rel cl B σ w' ρ S'->Fut w w'->E σ (.ref (cl c)) none w'.H
    | .bad=>False)->∃w d r,w.H=w3.H/\TopV cl w v d/\slD d l u=some r/\∀v w',Grow w w'->Shd cl w' v r->Q v w'.H:=by
   intro l u w3 S3 R3 F3 q3
   cases hg:slD d l u with
   | none=>rw [hg] at q3;exact q3.elim
   | some r =>
    rw [hg] at q3
    exact ⟨w3,d,r,rfl,(h1.up F3).top R3,hg,fun v' w' gr sh=>q3 v' w' (R3.grow gr) (F1.trans (F3.trans gr.fut)) sh⟩
  have second:∀(l:Option Int) (w2:Wd) (S2:Sto),Rel cl B σ w2 ρ S2->Fut w1 w2->(match (evalO fh ρ S2).bind fun u S3=>Out.of (slD d l u) S3 with
    | .ok d S'=>∀v w',Rel cl B σ w' ρ S'->Fut w w'->Shd cl w' v d->Q v w'.H
    | .exc c S'=>∀w',Rel cl B σ w' ρ S'->Fut w w'->E σ (.ref (cl c)) none w'.H
    | .bad=>False)->tOp' cl E fh σ w2.H fun u H3=>∃w d r,w.H=H3/\TopV cl w v d/\slD d l u=some r/\∀v w',Grow w w'->Shd cl w' v r->Q v w'.H:=by
   intro l w2 S2 R2 F2 q2
   cases fh with
   | none=>exact last l none w2 S2 R2 F2 q2
   | some fh =>
    refine ⟨B,w2,ρ,S2,rfl,R2,?_⟩
    unfold evalO at q2
    dsimp only at q2
    cases hh:fh ρ S2 with
    | bad=>rw [hh] at q2;exact q2
    | exc c S3=>rw [hh] at q2;exact fun w3 R3 F3=>q2 w3 R3 (F1.trans (F2.trans F3))
    | ok dh S3 =>
     rw [hh] at q2
     intro y w3 R3 F3 h3
     dsimp only [Out.bind] at q2
     cases dh with
     | int i =>
      refine ⟨i,(h3.top R3).intI,?_⟩
      exact last l (some i) w3 S3 R3 (F2.trans F3) q2
     | _=>exact q2.elim
  cases fl with
  | none=>exact second none w1 S1 R1 (Fut.refl _) q
  | some fl =>
   refine ⟨B,w1,ρ,S1,rfl,R1,?_⟩
   unfold evalO at q
   dsimp only at q
   cases hh:fl ρ S1 with
   | bad=>rw [hh] at q;exact q
   | exc c S3=>rw [hh] at q;exact fun w3 R3 F3=>q w3 R3 (F1.trans F3)
   | ok dl S2 =>
    rw [hh] at q
    intro y w2 R2 F2 h2
    dsimp only [Out.bind] at q
    cases dl with
    | int i =>
     refine ⟨i,(h2.top R2).intI,?_⟩
     exact second (some i) w2 S2 R2 F2 q
    | _=>exact q.elim
def instD(T:String)(d:D):Option D :=
 if T = "int" then (match d with | .int _=>some (.bl true) | .bl _=>some (.bl true) | .non=>some (.bl false) | .str _=>some (.bl false) | .tup _=>some (.bl false) | .lst _=>some (.bl false) | _=>none)
 else if T = "bool" then (match d with | .int _=>some (.bl false) | .bl _=>some (.bl true) | .non=>some (.bl false) | .str _=>some (.bl false) | .tup _=>some (.bl false) | .lst _=>some (.bl false) | _=>none)
 else if T = "tuple" then (match d with | .int _=>some (.bl false) | .bl _=>some (.bl false) | .non=>some (.bl false) | .str _=>some (.bl false) | .tup _=>some (.bl true) | .lst _=>some (.bl false) | _=>none)
 else if T = "str" then (match d with | .int _=>some (.bl false) | .bl _=>some (.bl false) | .non=>some (.bl false) | .str _=>some (.bl true) | .tup _=>some (.bl false) | .lst _=>some (.bl false) | _=>none)
 else if T = "list" then (match d with | .int _=>some (.bl false) | .bl _=>some (.bl false) | .non=>some (.bl false) | .str _=>some (.bl false) | .tup _=>some (.bl false) | .lst _=>some (.bl true) | _=>none)
 else none
theorem inst_ty{K:PySem.W.Frag}{w:Wd}{v:V}{d r:D}{T:String}(h:TopV cl w v d)(hg:instD T d=some r):∃t b,TyOf K w.H v t/\PySem.W.kitOne K t (.type T)=some b/\r=.bl b:=by
 unfold instD at hg
 split at hg
 ·rename_i hT;subst hT
  split at hg<;>cases hg
  ·obtain rfl:=h.intI;exact ⟨_,_,.int _,by with_unfolding_all rfl,rfl⟩
  ·obtain rfl:=h.blI;exact ⟨_,_,.bl _,by with_unfolding_all rfl,rfl⟩
  ·obtain rfl:=h.nonI;exact ⟨_,_,.non,by with_unfolding_all rfl,rfl⟩
  ·obtain rfl:=h.strI;exact ⟨_,_,.str _,by with_unfolding_all rfl,rfl⟩
  ·obtain ⟨_,_,rfl,e,_⟩:=h.tupI;exact ⟨_,_,.tup e,by with_unfolding_all rfl,rfl⟩
  ·obtain ⟨_,_,rfl,e,_⟩:=h.lstI;exact ⟨_,_,.lst e,by with_unfolding_all rfl,rfl⟩
 split at hg
 ·rename_i hT;subst hT
  split at hg<;>cases hg
  ·obtain rfl:=h.intI;exact ⟨_,_,.int _,by with_unfolding_all rfl,rfl⟩
  ·obtain rfl:=h.blI;exact ⟨_,_,.bl _,by with_unfolding_all rfl,rfl⟩
  ·obtain rfl:=h.nonI;exact ⟨_,_,.non,by with_unfolding_all rfl,rfl⟩
  ·obtain rfl:=h.strI;exact ⟨_,_,.str _,by with_unfolding_all rfl,rfl⟩
  ·obtain ⟨_,_,rfl,e,_⟩:=h.tupI;exact ⟨_,_,.tup e,by with_unfolding_all rfl,rfl⟩
  ·obtain ⟨_,_,rfl,e,_⟩:=h.lstI;exact ⟨_,_,.lst e,by with_unfolding_all rfl,rfl⟩
 split at hg
 ·rename_i hT;subst hT
  split at hg<;>cases hg
  ·obtain rfl:=h.intI;exact ⟨_,_,.int _,by with_unfolding_all rfl,rfl⟩
  ·obtain rfl:=h.blI;exact ⟨_,_,.bl _,by with_unfolding_all rfl,rfl⟩
  ·obtain rfl:=h.nonI;exact ⟨_,_,.non,by with_unfolding_all rfl,rfl⟩
  ·obtain rfl:=h.strI;exact ⟨_,_,.str _,by with_unfolding_all rfl,rfl⟩
  ·obtain ⟨_,_,rfl,e,_⟩:=h.tupI;exact ⟨_,_,.tup e,by with_unfolding_all rfl,rfl⟩
  ·obtain ⟨_,_,rfl,e,_⟩:=h.lstI;exact ⟨_,_,.lst e,by with_unfolding_all rfl,rfl⟩
 split at hg
 ·rename_i hT;subst hT
  split at hg<;>cases hg
  ·obtain rfl:=h.intI;exact ⟨_,_,.int _,by with_unfolding_all rfl,rfl⟩
  ·obtain rfl:=h.blI;exact ⟨_,_,.bl _,by with_unfolding_all rfl,rfl⟩
  ·obtain rfl:=h.nonI;exact ⟨_,_,.non,by with_unfolding_all rfl,rfl⟩
  ·obtain rfl:=h.strI;exact ⟨_,_,.str _,by with_unfolding_all rfl,rfl⟩
  ·obtain ⟨_,_,rfl,e,_⟩:=h.tupI;exact ⟨_,_,.tup e,by with_unfolding_all rfl,rfl⟩
  ·obtain ⟨_,_,rfl,e,_⟩:=h.lstI;exact ⟨_,_,.lst e,by with_unfolding_all rfl,rfl⟩
 split at hg
 ·rename_i hT;subst hT
  split at hg<;>cases hg
  ·obtain rfl:=h.intI;exact ⟨_,_,.int _,by with_unfolding_all rfl,rfl⟩
  ·obtain rfl:=h.blI;exact ⟨_,_,.bl _,by with_unfolding_all rfl,rfl⟩
  ·obtain rfl:=h.nonI;exact ⟨_,_,.non,by with_unfolding_all rfl,rfl⟩
  ·obtain rfl:=h.strI;exact ⟨_,_,.str _,by with_unfolding_all rfl,rfl⟩
  ·obtain ⟨_,_,rfl,e,_⟩:=h.tupI;exact ⟨_,_,.tup e,by with_unfolding_all rfl,rfl⟩
  ·obtain ⟨_,_,rfl,e,_⟩:=h.lstI;exact ⟨_,_,.lst e,by with_unfolding_all rfl,rfl⟩
 ·cases hg
theorem boot_isin:bootBuiltins "isinstance" = some (.builtin "isinstance"):=by decide +kernel
theorem se_inst{T:String}{x:Str}{p p2:Pos}(hg:Gl X "isinstance")(hm:X.mg "isinstance" = none)(hgT:Gl X x)(hmT:X.mg x=none)(hvT:bootBuiltins x=some (.type T))(hn:x ≠ "__name__")(hdb:(x == ("__debug__":Str))=false)(hp:plainE e=true)(he:PE X e (tH cl E f)) :
  PE X (.Call (.Name "isinstance" p) [e,.Name x p2] [] pos) (tE cl E (eUn (instD T) f)):=by
 refine PE.imp (pe_callB call_isinst hg hm boot_isin (pa_cons he (pa_cons (pe_bltn (v:=.ty T) hgT hmT hvT rfl hn hdb) pa_nil rfl) (star1 hp)) (he:=star1 hp) (hpl:=rfl)) ?_
 rintro σ H Q ⟨B,w,ρ,S,rfl,R,q⟩
 refine ⟨B,w,ρ,S,rfl,R,?_⟩
 unfold eUn at q
 cases hf:f ρ S with
 | bad=>rw [hf] at q;exact q
 | exc c S1=>rw [hf] at q;exact q
 | ok d S1 =>
  rw [hf] at q
  intro v w1 R1 F1 h1
  dsimp only [Out.bind] at q
  cases hg:instD T d with
  | none=>rw [hg] at q;exact q.elim
  | some r =>
   rw [hg] at q
   obtain ⟨t,b,h2,h3,rfl⟩:=inst_ty (K:=X.K) (h1.top R1) hg
   exact ⟨v,t,T,b,rfl,h2,h3,q _ w1 R1 F1 (.bl _)⟩
def eItemsA(f:Fe):Fi:=fun ρ S=>(f ρ S).bind fun d S1=>match d with | .lst l=>.ok l S1 | .tup l=>.ok l S1 | _=>.bad
theorem si_any{tg:Expr}(he:PE X e (tE cl E f)):PI X tg e (tI cl E (eItemsA f)):=by
 intro pins s σ H R' I q
 obtain ⟨B,w,ρ,S,rfl,R,q⟩:=q
 unfold eItemsA at q
 cases hf:f ρ S with
 | bad=>rw [hf] at q;exact q.elim
 | exc c S1 =>
  refine si_list he pins s σ w.H R' I ⟨B,w,ρ,S,rfl,R,?_⟩
  unfold eItems
  rw [hf] at q ⊢;exact q
 | ok d S1 =>
  rw [hf] at q
  dsimp only [Out.bind] at q
  cases d with
  | lst l =>
   refine si_list he pins s σ w.H R' I ⟨B,w,ρ,S,rfl,R,?_⟩
   unfold eItems
   rw [hf];exact q
  | tup l =>
   refine si_tup he pins s σ w.H R' I ⟨B,w,ρ,S,rfl,R,?_⟩
   unfold eItemsT
   rw [hf];exact q
  | _=>exact q.elim
end
end S2
namespace L2
open PySem PySem.Spec PyProof.Rows
def IsSq(b:Bool)(h:Heap)(a:Addr)(vs:Array Value):Prop:=match b with | true=>h.IsList a vs | false=>h.IsTuple a vs
def IsIt(b:Bool)(h:Heap)(it a:Addr)(j:Nat):Prop:=match b with | true=>h.IsListIter it a j | false=>h.IsTupleIter it a j
def itN(b:Bool):String:=match b with | true=>"list_iterator" | false=>"tuple_iterator"
theorem IsSq.keep{b:Bool}{h h':Heap}{a:Addr}{vs:Array Value}(p:IsSq b h a vs)(k:∀o,h.get? a=some o->h'.get? a=some o):IsSq b h' a vs:=by
 cases b with
 | true=>exact Heap.IsList.at p k
 | false=>obtain ⟨o,ho,r⟩:=p;exact ⟨o,k o ho,r⟩
theorem IsIt.keep{b:Bool}{h h':Heap}{it a:Addr}{j:Nat}(p:IsIt b h it a j)(k:∀o,h.get? it=some o->h'.get? it=some o):IsIt b h' it a j:=by
 cases b with
 | true=>exact Heap.IsListIter.at p k
 | false=>exact Heap.IsTupleIter.at p k
theorem IsIt.live{b:Bool}{h:Heap}{it a:Addr}{j:Nat}(p:IsIt b h it a j):∃o,h.get? it=some o/\∀v,o.data≠.cell v:=by
 cases b with
 | true=>obtain ⟨o,ho,c,d⟩:=p;exact ⟨o,ho,fun v z=>by rw [d] at z;cases z⟩
 | false=>obtain ⟨o,ho,c,d⟩:=p;exact ⟨o,ho,fun v z=>by rw [d] at z;cases z⟩
section
variable{prog:Program}{w:World}{A:Around}{E:Z5}{s:Shared}
theorem draws_sq(hh:A.handled=none)(b:Bool)(it t:Addr)(ne:t≠it)(vs:Array Value):Draws prog w A it [it,t] vs.size (fun j v=>vs[j]?=some v) (fun j h=>IsIt b h it t j/\IsSq b h t vs):=by
 cases b with
 | false=>exact draws_tup hh it t ne vs
 | true =>
  exact {
   live:=fun _ _ st=>by obtain ⟨⟨o,ho,_⟩,_⟩:=st;exact ⟨o,ho⟩
   frame:=fun _ _ _ st hk=>⟨st.1.keep fun o e=>hk it (by simp) o e,st.2.keep fun o e=>hk t (by simp) o e⟩
   item:=fun j s Q E hj st hQ=>wpAny_nextOf_list_item (x:=vs[j]) st.1 st.2 (by simp [hj]) fun h' st' sb=>hQ _ h' s.toks (by simp [hj]) ⟨st',st.2.keep fun o e=>(sb.2 t ne).trans e⟩ sb
   done:=fun s Q E st hE=>wpAny_nextOf_list_end hh st.1 st.2 (by simp) fun h' e sb he=>hE h' e sb he }
theorem pyIter_sq{b:Bool}{l:Addr}{vs:Array Value}{Q:Z5}(p:IsSq b s.heap l vs)(h:Q (.ref s.heap.objs.size) { s with heap:=s.heap.push { cls:=.type (itN b),data:=.fields #[.ref l,.int 0 0] } }):wpAny (model prog w) A (pyIter (.ref l)) Q E s:=by
 cases b with
 | true=>exact wpAny_pyIter_list p h
 | false=>exact wpAny_pyIter_tuple p h
structure ZipD(z TI TO i1 i2:Addr)(f1 f2:List Addr):Prop where
 TIz:TI≠z
 TOz:TO≠z
 i1z:i1≠z
 i2z:i2≠z
 TITO:TI≠TO
 TIi1:TI≠i1
 TIi2:TI≠i2
 TOi1:TO≠i1
 TOi2:TO≠i2
 i12:i1≠i2
 z1:z ∉ f1
 z2:z ∉ f2
 O1:TO ∉ f1
 O2:TO ∉ f2
 i1f:i1 ∉ f2
 i2f:i2 ∉ f1
theorem nin{a:Addr}{f:List Addr}{b:Addr}(h:a ∉ f)(hb:b∈f):b≠a:=fun z=>h (z ▸ hb)
theorem zip_next_itemD{z TI TO i1 i2:Addr}{f1 f2:List Addr}{n1 n2:Nat}{P1 P2:Nat->Value->Prop}{S1 S2:Nat->Heap->Prop}{k1 k2:Nat}{a b:Value}{Q:Z5}(D:ZipD z TI TO i1 i2 f1 f2)
  (D1:Draws prog w A i1 f1 n1 P1 S1) (D2:Draws prog w A i2 f2 n2 P2 S2)
  (hz:IsZip s.heap z TI TO .none) (hTI:IsPair s.heap TI (.ref i1) (.ref i2)) (hTO:IsPair s.heap TO a b)
  (h1:S1 k1 s.heap) (h2:S2 k2 s.heap) (hx:k1<n1) (hy:k2<n2)
  (hQ:∀x y h' tk,P1 k1 x->P2 k2 y->IsZip h' z TI TO (rawInt s.heap.objs.size)->IsPair h' TO x y->S1 (k1+1) h'->S2 (k2+1) h'->IsPair h' s.heap.objs.size x y->h'.objs.size=s.heap.objs.size+1 →
   (∀c o,c≠z->c≠TO->c≠i1->c≠i2->s.heap.get? c=some o->h'.get? c=some o)->Q (.ref s.heap.objs.size) { s with heap:=h',toks:=tk }) :
  wpAny (model prog w) A (Builtin.«zip.__next__» ⟨[.ref z],[]⟩) (fun fin s'=>∃v,fin=.done (.ret v)/\Q v s') E s:=by
 show wpAny _ _ (field (.ref z) 2 >>= _) _ _ _
 refine wpAny_bind (wpAny_field hz rfl (x:=.bool false) rfl ?_)
 show wpAny _ _ (field (.ref z) 3 >>= _) _ _ _
 refine wpAny_bind (wpAny_field hz rfl (x:=.ref TI) rfl ?_)
 refine wpAny_bind (wpAny_seqItems hTI rfl ?_)
 show wpAny _ _ (Builtin.SmallTypes.ownedTupleIsFree (.ref z) >>= _) _ _ _
 refine wpAny_bind ?_
 unfold Builtin.SmallTypes.ownedTupleIsFree
 refine wpAny_bind (wpAny_field hz rfl (x:=.none) rfl (wpAny_pure ?_))
 simp only [if_true]
 refine wpAny_bind (wpAny_rule ?_)
 refine wpAny_bind (wpAny_field hz rfl (x:=.ref TO) rfl ?_)
 refine wpAny_bind (wpAny_setField_rec hz (by simp) fun h₁ hz₁ hs₁=>?_)
 replace hz₁:IsZip h₁ z TI TO .ellipsis:=hz₁
 refine wpAny_bind ?_
 simp only [List.zipIdx_cons,List.zipIdx_nil,List.forIn_cons,List.forIn_nil]
 refine wpAny_bind (wpAny_bind (wpAny_onRaise ?_))
 show wpAny _ _ (Builtin.SmallTypes.nextOf (.ref i1) >>= _) _ _ _
 refine wpAny_bind (D1.item k1 _ _ _ hx (D1.frame _ _ _ h1 fun c hc o e=>hs₁.extBut _ _ (nin D.z1 hc) e) fun x h₂ tk₂ px h1₂ hs₂=>wpAny_pure ?_)
 have hTO₂:IsPair h₂ TO a b:=hs₂.extBut _ _ D.TOi1 (hs₁.extBut _ _ D.TOz hTO)
 refine wpAny_bind (wpAny_seqItems hTO₂ rfl ?_)
 refine wpAny_bind (wpAny_updateSeq_pair hTO₂ fun h₃ hTO₃ hs₃=>?_)
 replace hTO₃:IsPair h₃ TO x b:=hTO₃
 refine wpAny_bind (wpAny_letGo (wpAny_pure ?_))
 refine wpAny_bind (wpAny_bind (wpAny_onRaise ?_))
 show wpAny _ _ (Builtin.SmallTypes.nextOf (.ref i2) >>= _) _ _ _
 refine wpAny_bind (D2.item k2 _ _ _ hy (D2.frame _ _ _ h2 fun c hc o e=>hs₃.extBut _ _ (nin D.O2 hc) (hs₂.extBut _ _ (nin D.i1f hc) (hs₁.extBut _ _ (nin D.z2 hc) e))) fun y h₄ tk₄ py h2₄ hs₄=>wpAny_pure ?_)
 have hTO₄:IsPair h₄ TO x b:=hs₄.extBut _ _ D.TOi2 hTO₃
 refine wpAny_bind (wpAny_seqItems hTO₄ rfl ?_)
 refine wpAny_bind (wpAny_updateSeq_pair hTO₄ fun h₅ hTO₅ hs₅=>?_)
 replace hTO₅:IsPair h₅ TO x y:=hTO₅
 refine wpAny_bind (wpAny_letGo (wpAny_pure (wpAny_pure ?_)))
 refine wpAny_bind (wpAny_seqItems hTO₅ rfl ?_)
 refine wpAny_bind (wpAny_newTuple ?_)
 have hsz:h₅.objs.size=s.heap.objs.size:=by rw [hs₅.1,hs₄.1,hs₃.1,hs₂.1,hs₁.1]
 have hz₅:IsZip h₅ z TI TO .ellipsis:=hs₅.extBut _ _ D.TOz.symm (hs₄.extBut _ _ D.i2z.symm (hs₃.extBut _ _ D.TOz.symm (hs₂.extBut _ _ D.i1z.symm hz₁)))
 have hk₅:∀c o,c≠z->c≠TO->c≠i1->c≠i2->s.heap.get? c=some o->h₅.get? c=some o:=fun c o c1 c2 c3 c4 e =>
  hs₅.extBut _ _ c2 (hs₄.extBut _ _ c4 (hs₃.extBut _ _ c2 (hs₂.extBut _ _ c3 (hs₁.extBut _ _ c1 e))))
 have h1₅:S1 (k1+1) h₅:=D1.frame _ _ _ h1₂ fun c hc o e=>hs₅.extBut _ _ (nin D.O1 hc) (hs₄.extBut _ _ (nin D.i2f hc) (hs₃.extBut _ _ (nin D.O1 hc) e))
 have h2₅:S2 (k2+1) h₅:=D2.frame _ _ _ h2₄ fun c hc o e=>hs₅.extBut _ _ (nin D.O2 hc) e
 have hzlt:z<h₅.objs.size:=Heap.lt_size hz₅
 have hTOlt:TO<h₅.objs.size:=Heap.lt_size hTO₅
 show wpAny _ _ (Builtin.SmallTypes.ownedTupleHandOut (.ref z) (.ref h₅.objs.size) >>= _) _ _ _
 refine wpAny_bind ?_
 unfold Builtin.SmallTypes.ownedTupleHandOut
 have hz₆:IsZip (h₅.push { cls:=.type "tuple",data:=.seq #[x,y] }) z TI TO .ellipsis:=Heap.get?_push_of_some _ hz₅
 refine wpAny_bind (wpAny_setField_rec hz₆ (by simp) fun h₇ hz₇ hs₇=>?_)
 replace hz₇:IsZip h₇ z TI TO (rawInt h₅.objs.size):=hz₇
 refine wpAny_setField_rec hz₇ (by simp) fun h₈ hz₈ hs₈=>?_
 replace hz₈:IsZip h₈ z TI TO (rawInt h₅.objs.size):=hz₈
 have up:∀c o,c≠z->h₅.get? c=some o->h₈.get? c=some o:=fun c o c1 e=>hs₈.extBut _ _ c1 (hs₇.extBut _ _ c1 (Heap.get?_push_of_some _ e))
 have hT₈:IsPair h₈ h₅.objs.size x y:=hs₈.extBut _ _ (Nat.ne_of_gt hzlt) (hs₇.extBut _ _ (Nat.ne_of_gt hzlt) (Heap.get?_push_size _ rfl))
 have hz8:h₈.objs.size=h₅.objs.size+1:=by rw [hs₈.1,hs₇.1,Heap.size_push]
 rw [hsz] at hz₈ hT₈ hz8
 refine wpAny_pure ⟨_,rfl,?_⟩
 show Q (.ref h₅.objs.size) _
 rw [hsz]
 exact hQ x y h₈ tk₄ px py hz₈ (up _ _ D.TOz hTO₅) (D1.frame _ _ _ h1₅ fun c hc o e=>up _ o (nin D.z1 hc) e) (D2.frame _ _ _ h2₅ fun c hc o e=>up _ o (nin D.z2 hc) e) hT₈ hz8 fun c o c1 c2 c3 c4 e=>up c o c1 (hk₅ c o c1 c2 c3 c4 e)
theorem zip_next_endD{z TI TO i1 i2:Addr}{f1 f2:List Addr}{n1 n2:Nat}{P1 P2:Nat->Value->Prop}{S1 S2:Nat->Heap->Prop}{k1 k2:Nat}{a b:Value}{Q:Fin->Shared->Prop}(D:ZipD z TI TO i1 i2 f1 f2)
  (D1:Draws prog w A i1 f1 n1 P1 S1) (D2:Draws prog w A i2 f2 n2 P2 S2)
  (hz:IsZip s.heap z TI TO .none) (hTI:IsPair s.heap TI (.ref i1) (.ref i2)) (hTO:IsPair s.heap TO a b)
  (h1:S1 k1 s.heap) (h2:S2 k2 s.heap) (hend:k1=n1\/(k1<n1/\k2=n2))
  (hE:∀h' e tk,(∀c o,c≠z->c≠TO->c≠i1->c≠i2->s.heap.get? c=some o->h'.get? c=some o)->(∃o,h'.get? e=some o/\o.cls=.type "StopIteration")->E (.ref e) { s with heap:=h',toks:=tk }) :
  wpAny (model prog w) A (Builtin.«zip.__next__» ⟨[.ref z],[]⟩) Q E s:=by
 show wpAny _ _ (field (.ref z) 2 >>= _) _ _ _
 refine wpAny_bind (wpAny_field hz rfl (x:=.bool false) rfl ?_)
 show wpAny _ _ (field (.ref z) 3 >>= _) _ _ _
 refine wpAny_bind (wpAny_field hz rfl (x:=.ref TI) rfl ?_)
 refine wpAny_bind (wpAny_seqItems hTI rfl ?_)
 show wpAny _ _ (Builtin.SmallTypes.ownedTupleIsFree (.ref z) >>= _) _ _ _
 refine wpAny_bind ?_
 unfold Builtin.SmallTypes.ownedTupleIsFree
 refine wpAny_bind (wpAny_field hz rfl (x:=.none) rfl (wpAny_pure ?_))
 simp only [if_true]
 refine wpAny_bind (wpAny_rule ?_)
 refine wpAny_bind (wpAny_field hz rfl (x:=.ref TO) rfl ?_)
 refine wpAny_bind (wpAny_setField_rec hz (by simp) fun h₁ hz₁ hs₁=>?_)
 replace hz₁:IsZip h₁ z TI TO .ellipsis:=hz₁
 refine wpAny_bind ?_
 simp only [List.zipIdx_cons,List.zipIdx_nil,List.forIn_cons,List.forIn_nil]
 refine wpAny_bind (wpAny_bind (wpAny_onRaise ?_))
 show wpAny _ _ (Builtin.SmallTypes.nextOf (.ref i1) >>= _) _ _ _
 have h1₁:S1 k1 h₁:=D1.frame _ _ _ h1 fun c hc o e=>hs₁.extBut _ _ (nin D.z1 hc) e
 rcases hend with rfl | ⟨hx,rfl⟩
 ·refine wpAny_bind (D1.done _ _ _ h1₁ fun h₂ e hs₂ he=>?_)
  obtain ⟨oe,hoe,hce⟩:=he
  have hz₂:IsZip h₂ z TI TO .ellipsis:=hs₂ _ _ D.i1z.symm hz₁
  have hez:e≠z:=fun x=>by subst x;rw [hz₂] at hoe;cases hoe;simp at hce
  refine wpAny_setField_rec hz₂ (by simp) fun h₃ _ hs₃=>hE h₃ e _ (fun c o c1 _ c3 _ x=>hs₃.extBut _ _ c1 (hs₂ _ _ c3 (hs₁.extBut _ _ c1 x))) ⟨oe,hs₃.extBut _ _ hez hoe,hce⟩
 ·refine wpAny_bind (D1.item k1 _ _ _ hx h1₁ fun x h₂ tk₂ px h1₂ hs₂=>wpAny_pure ?_)
  have hTO₂:IsPair h₂ TO a b:=hs₂.extBut _ _ D.TOi1 (hs₁.extBut _ _ D.TOz hTO)
  refine wpAny_bind (wpAny_seqItems hTO₂ rfl ?_)
  refine wpAny_bind (wpAny_updateSeq_pair hTO₂ fun h₃ hTO₃ hs₃=>?_)
  refine wpAny_bind (wpAny_letGo (wpAny_pure ?_))
  refine wpAny_bind (wpAny_bind (wpAny_onRaise ?_))
  show wpAny _ _ (Builtin.SmallTypes.nextOf (.ref i2) >>= _) _ _ _
  refine wpAny_bind (D2.done _ _ _ (D2.frame _ _ _ h2 fun c hc o e=>hs₃.extBut _ _ (nin D.O2 hc) (hs₂.extBut _ _ (nin D.i1f hc) (hs₁.extBut _ _ (nin D.z2 hc) e))) fun h₄ e hs₄ he=>?_)
  obtain ⟨oe,hoe,hce⟩:=he
  have hz₄:IsZip h₄ z TI TO .ellipsis:=hs₄ _ _ D.i2z.symm (hs₃.extBut _ _ D.TOz.symm (hs₂.extBut _ _ D.i1z.symm hz₁))
  have hez:e≠z:=fun x=>by subst x;rw [hz₄] at hoe;cases hoe;simp at hce
  refine wpAny_setField_rec hz₄ (by simp) fun h₅ _ hs₅=>hE h₅ e _ (fun c o c1 c2 c3 c4 x=>hs₅.extBut _ _ c1 (hs₄ _ _ c4 (hs₃.extBut _ _ c2 (hs₂.extBut _ _ c3 (hs₁.extBut _ _ c1 x))))) ⟨oe,hs₅.extBut _ _ hez hoe,hce⟩
abbrev zG1(b1:Bool)(h:Heap)(l1:Addr):Heap:=h.push { cls:=.type (itN b1),data:=.fields #[.ref l1,.int 0 0] }
abbrev zG2(b1 b2:Bool)(h:Heap)(l1 l2:Addr):Heap:=(zG1 b1 h l1).push { cls:=.type (itN b2),data:=.fields #[.ref l2,.int 0 0] }
abbrev zG3(b1 b2:Bool)(h:Heap)(l1 l2:Addr):Heap:=(zG2 b1 b2 h l1 l2).push { cls:=.type "tuple",data:=.seq #[.ref h.objs.size,.ref (zG1 b1 h l1).objs.size] }
abbrev zG4(b1 b2:Bool)(h:Heap)(l1 l2:Addr):Heap:=(zG3 b1 b2 h l1 l2).push { cls:=.type "tuple",data:=.seq #[.none,.none] }
abbrev zG5(b1 b2:Bool)(h:Heap)(l1 l2:Addr):Heap:=(zG4 b1 b2 h l1 l2).push { cls:=.type "zip",data:=.fields #[.none,.bool false,.bool false,.ref (zG2 b1 b2 h l1 l2).objs.size,.ref (zG3 b1 b2 h l1 l2).objs.size] }
theorem meets_zip_newD(b1 b2:Bool)(l1 l2:Addr)(xs ys:Array Value) :
  Meets (Builtin.«zip.__new__» ⟨[.type "zip",.ref l1,.ref l2],[]⟩) (fun _ R s=>IsSq b1 s.heap l1 xs/\IsSq b2 s.heap l2 ys ∧
   R (.ok (.ret (.ref (zG4 b1 b2 s.heap l1 l2).objs.size))) { s with heap:=zG5 b1 b2 s.heap l1 l2 }) :=
 .of_wp fun prog w A R s h=>by
  obtain ⟨hp,g,d,tk,os⟩:=s;obtain ⟨hl1,hl2,h⟩:=h
  have hsub:=sub_zip
  have hL1:IsSq b1 (Shared.heap ⟨hp,g,d,tk,os⟩) l1 xs:=hl1
  have hL2:IsSq b2 (Shared.heap ⟨hp.push { cls:=.type (itN b1),data:=.fields #[.ref l1,.int 0 0] },g,d,tk,os⟩) l2 ys:=hl2.keep fun o e=>Heap.get?_push_of_some _ e
  wp_walk using pyIter_sq hL1,pyIter_sq hL2
  exact ⟨_,rfl,h⟩
theorem it_new{b:Bool}{h:Heap}{it a:Addr}(g:h.get? it=some { cls:=.type (itN b),data:=.fields #[.ref a,.int 0 0] }):IsIt b h it a 0:=by
 cases b with
 | true=>exact ⟨_,g,rfl,rfl⟩
 | false=>exact ⟨_,g,rfl,rfl⟩
theorem call_zipD{b1 b2:Bool}{l1 l2:Addr}{xs ys:Array Value}{Q:Z5}(hl1:IsSq b1 s.heap l1 xs)(hl2:IsSq b2 s.heap l2 ys)
  (h:∀h',IsZip h' (s.heap.objs.size+4) (s.heap.objs.size+2) (s.heap.objs.size+3) .none->IsPair h' (s.heap.objs.size+2) (.ref s.heap.objs.size) (.ref (s.heap.objs.size+1)) →
   IsPair h' (s.heap.objs.size+3) .none .none->IsIt b1 h' s.heap.objs.size l1 0->IsIt b2 h' (s.heap.objs.size+1) l2 0->h'.objs.size=s.heap.objs.size+5 →
   (∀c o,s.heap.get? c=some o->h'.get? c=some o)->Q (.ref (s.heap.objs.size+4)) { s with heap:=h' }) :
  wpAny (model prog w) A (call (.type "zip") [.ref l1,.ref l2]) Q E s:=by
 refine callType_new F.called_zip (by decide) (F.typeCall_zip_2 _ _) (F.newCall_zip_2 _ _) (fun obj=>F.args_object_init_3 obj _ _) F.entry_zip_new
  (meets_zip_newD b1 b2 l1 l2 xs ys) ⟨hl1,hl2,?_⟩
 have z1:(zG1 b1 s.heap l1).objs.size=s.heap.objs.size+1:=Heap.size_push ..
 have z2:(zG2 b1 b2 s.heap l1 l2).objs.size=s.heap.objs.size+2:=by rw [Heap.size_push,z1]
 have z3:(zG3 b1 b2 s.heap l1 l2).objs.size=s.heap.objs.size+3:=by rw [Heap.size_push,z2]
 have z4:(zG4 b1 b2 s.heap l1 l2).objs.size=s.heap.objs.size+4:=by rw [Heap.size_push,z3]
 have z5:(zG5 b1 b2 s.heap l1 l2).objs.size=s.heap.objs.size+5:=by rw [Heap.size_push,z4]
 have g5:(zG5 b1 b2 s.heap l1 l2).get? (zG4 b1 b2 s.heap l1 l2).objs.size=some _:=Heap.get?_push_size _ rfl
 have g4:(zG5 b1 b2 s.heap l1 l2).get? (zG3 b1 b2 s.heap l1 l2).objs.size=some _:=Heap.get?_push_of_some _ (Heap.get?_push_size _ rfl)
 have g3:(zG5 b1 b2 s.heap l1 l2).get? (zG2 b1 b2 s.heap l1 l2).objs.size=some _:=Heap.get?_push_of_some _ (Heap.get?_push_of_some _ (Heap.get?_push_size _ rfl))
 have g2:(zG5 b1 b2 s.heap l1 l2).get? (zG1 b1 s.heap l1).objs.size=some { cls:=.type (itN b2),data:=.fields #[.ref l2,.int 0 0] }:=Heap.get?_push_of_some _ (Heap.get?_push_of_some _ (Heap.get?_push_of_some _ (Heap.get?_push_size _ rfl)))
 have g1:(zG5 b1 b2 s.heap l1 l2).get? s.heap.objs.size=some { cls:=.type (itN b1),data:=.fields #[.ref l1,.int 0 0] }:=Heap.get?_push_of_some _ (Heap.get?_push_of_some _ (Heap.get?_push_of_some _ (Heap.get?_push_of_some _ (Heap.get?_push_size _ rfl))))
 show _/\_
 rw [z2,z3,z4] at g5
 rw [z1,z2] at g3
 rw [z3] at g4
 rw [z1] at g2
 rw [z4]
 exact ⟨⟨_,g5,rfl⟩,h _ g5 g3 g4 (it_new g1) (it_new g2) z5 fun c o x =>
  Heap.get?_push_of_some _ (Heap.get?_push_of_some _ (Heap.get?_push_of_some _ (Heap.get?_push_of_some _ (Heap.get?_push_of_some _ x))))⟩
end
end L2
namespace L2
open PySem PySem.Spec PyProof.Rows
section
variable{X:Cx}{pins:Z3}{σ:St}{H:Hp}{s:Shared}
def SqB(b:Bool)(H:Hp)(a:Addr)(xs:List V):Prop:=match b with | true=>H a=some (.lst xs) | false=>H a=some (.tup xs)
theorem Inv.sq{b:Bool}{a:Addr}{xs:List V}(I:Inv X pins σ H s)(h:SqB b H a xs):∃its:List Value,Vals xs its/\IsSq b s.heap a its.toArray:=by
 cases b with
 | true=>obtain ⟨its,rv,p,_⟩:=I.list (SqL.of h);exact ⟨its,rv,p.isList⟩
 | false=>obtain ⟨its,rv,p,_⟩:=I.tuple (SqT.of h);exact ⟨its,rv,p⟩
theorem Inv.sq_inj{b:Bool}{a:Addr}{xs ys:List V}(I:Inv X pins σ H s)(h:SqB b H a xs)(h':SqB b H a ys):xs=ys:=by
 cases b with
 | true=>exact I.list_inj (SqL.of h) (SqL.of h')
 | false=>exact I.tuple_inj (SqT.of h) (SqT.of h')
def ItZ(b1 b2:Bool)(l1 l2:Addr):It :=
 ⟨fun i H=>∃xs ys x y,SqB b1 H l1 xs/\SqB b2 H l2 ys/\xs[i]?=some x/\ys[i]?=some y,
  fun i H v H'=>∃t x y,v=.ref t/\H t=none/\H'=upd H t (.tup [x,y])/\(∀xs,SqB b1 H l1 xs->xs[i]?=some x)/\∀ys,SqB b2 H l2 ys->ys[i]?=some y,
  fun i H=>∃xs ys,SqB b1 H l1 xs/\SqB b2 H l2 ys/\(i=xs.length\/(i<xs.length/\i=ys.length))⟩
theorem zip_out{z TI TO i1 i2 T:Addr}{h1 h2:Heap}{tk:Nat}{u1 u2:Value}{y1 y2:V}(I:Inv X pins σ H s)(hf:∀b∈[z,TI,TO,i1,i2],FpOk X pins H b)(hT:T=s.heap.objs.size)(te:h1.get? T=some { cls:=.type "tuple",data:=.seq #[u1,u2] })
  (k:∀b o,b≠z->b≠TO->b≠i1->b≠i2->s.heap.get? b=some o->h1.get? b=some o) (sb:Heap.SameBut z h1 h2) (ne:T≠z) (r1:RelV y1 u1) (r2:RelV y2 u2):Inv X pins σ (upd H T (.tup [y1,y2])) { s with heap:=h2,toks:=tk }/\H T=none:=by
 have fr:H T=none:=by rw [hT];exact I.hok.fresh (Nat.le_refl _)
 refine ⟨?_,fr⟩
 have I1:Inv X pins σ H { s with heap:=h2,toks:=tk }:=I.turnedL (ch:=[z,TI,TO,i1,i2]) (fun b o hb q=>by
  simp only [List.mem_cons,List.not_mem_nil,or_false,not_or] at hb
  exact (sb.2 b hb.1).trans (k b o hb.1 hb.2.2.1 hb.2.2.2.1 hb.2.2.2.2 q)) hf
 refine I1.track fr (by rw [hT];exact I.sz) (by rw [hT];exact Nat.ne_of_gt I.lt) (fun z c q=>?_) (fun p hp=>?_) ?_
 ·obtain ⟨v,cq⟩:=I.cell z c q
  rw [hT];exact Nat.ne_of_lt cq.lt
 ·rw [hT];exact Nat.ne_of_lt (Heap.lt_size (I.pin p hp).1)
 ·refine ⟨by show 2<=sizeLine;decide,[u1,u2],.cons r1 (.cons r2 .nil),?_⟩
  exact ⟨_,(sb.2 T ne).trans te,rfl,_,rfl⟩
structure ZipI(z TI TO i1 i2:Addr):Prop where
 TIz:TI≠z
 TOz:TO≠z
 i1z:i1≠z
 i2z:i2≠z
 TITO:TI≠TO
 TIi1:TI≠i1
 TIi2:TI≠i2
 TOi1:TO≠i1
 TOi2:TO≠i2
 i12:i1≠i2
theorem SqB.ne{b:Bool}{a c:Addr}{xs:List V}(h:SqB b H a xs)(n:H c=none):a≠c:=by
 rintro rfl
 cases b with
 | true=>rw [show H a=_ from h] at n;cases n
 | false=>rw [show H a=_ from h] at n;cases n
theorem turn_zip{P:Program}{w:World}{K:PySem.W.Frag}{elts:List Expr}{x1:Nat}{pos:Pos}(b1 b2:Bool)(l1 l2 z TI TO i1 i2:Addr)(D:ZipI z TI TO i1 i2):Turn P w K (.Tuple elts x1 pos) (ItZ b1 b2 l1 l2) [z,TI,TO,i1,i2] z (fun i h=>IsZip h z TI TO .none/\IsPair h TI (.ref i1) (.ref i2)/\(∃a b,IsPair h TO a b)/\IsIt b1 h i1 l1 i/\IsIt b2 h i2 l2 i) where
 mem:=by simp
 obj:=fun i h st b hb=>by
  obtain ⟨hz,hI,⟨a,c,hO⟩,h1,h2⟩:=st
  simp only [List.mem_cons,List.not_mem_nil,or_false] at hb
  rcases hb with rfl | rfl | rfl | rfl | rfl
  ·exact ⟨_,hz,fun v e=>by cases e⟩
  ·exact ⟨_,hI,fun v e=>by cases e⟩
  ·exact ⟨_,hO,fun v e=>by cases e⟩
  ·exact h1.live
  ·exact h2.live
 keep:=fun i h h' st k=>by
  obtain ⟨hz,hI,⟨a,c,hO⟩,h1,h2⟩:=st
  exact ⟨k _ (by simp) _ hz,k _ (by simp) _ hI,⟨a,c,k _ (by simp) _ hO⟩,h1.keep fun o e=>k _ (by simp) o e,h2.keep fun o e=>k _ (by simp) o e⟩
 item:=by
  intro X hP hw hK hc i pins s σ H E I hf st hg
  subst hP hw hK
  obtain ⟨xs,ys,x,y,q1,q2,e1,e2⟩:=hg
  obtain ⟨hz,hI,⟨a,c,hO⟩,h1,h2⟩:=st
  obtain ⟨its,rv1,p1⟩:=I.sq q1
  obtain ⟨jts,rv2,p2⟩:=I.sq q2
  obtain ⟨u1,hu1,ru1⟩:=rv1.get e1
  obtain ⟨u2,hu2,ru2⟩:=rv2.get e2
  have hlt1:i<its.toArray.size:=by simpa using (List.getElem?_eq_some_iff.mp hu1).1
  have hlt2:i<jts.toArray.size:=by simpa using (List.getElem?_eq_some_iff.mp hu2).1
  have n1:∀b∈[z,TI,TO,i1,i2],l1≠b:=fun b hb=>q1.ne (hf b hb).1
  have n2:∀b∈[z,TI,TO,i1,i2],l2≠b:=fun b hb=>q2.ne (hf b hb).1
  have D':ZipD z TI TO i1 i2 [i1,l1] [i2,l2]:=⟨D.TIz,D.TOz,D.i1z,D.i2z,D.TITO,D.TIi1,D.TIi2,D.TOi1,D.TOi2,D.i12,
   by simp [D.i1z.symm,(n1 z (by simp)).symm],by simp [D.i2z.symm,(n2 z (by simp)).symm],by simp [D.TOi1,(n1 TO (by simp)).symm],by simp [D.TOi2,(n2 TO (by simp)).symm],
   by simp [D.i12,(n2 i1 (by simp)).symm],by simp [D.i12.symm,(n1 i2 (by simp)).symm]⟩
  have hT:s.TypeIs (.ref z) "zip":=⟨_,hz,rfl⟩
  unfold pyNext
  refine wpAny_bind (wpAny_attempt (wpAny_callSpecial?_slot (name:=Str.ofString "__next__") hT F.slot_zip_next (wpAny_call_entry F.slot_zip_next hT F.entry_zip_next
   (zip_next_itemD D' (draws_sq (A:=X.A.in1) (I.ok.hd hc) b1 i1 l1 (n1 i1 (by simp)) its.toArray) (draws_sq (A:=X.A.in1) (I.ok.hd hc) b2 i2 l2 (n2 i2 (by simp)) jts.toArray) hz hI hO ⟨h1,p1⟩ ⟨h2,p2⟩ hlt1 hlt2 fun v1 v2 h' tk pv1 pv2 a1 a2 a3 a4 a5 a6 a7=>wpAny_pure ?_) (F.args_zip_next_1 _))))
  have ev1:v1=u1:=by
   have:its[i]?=some v1:=by simpa using pv1
   rw [hu1] at this;exact (Option.some.inj this).symm
  have ev2:v2=u2:=by
   have:jts[i]?=some v2:=by simpa using pv2
   rw [hu2] at this;exact (Option.some.inj this).symm
  subst ev1 ev2
  have neT:s.heap.objs.size≠z:=Nat.ne_of_gt (Heap.lt_size hz)
  refine ⟨_,rfl,wpAny_letOwnedTupleGo_zip a1 fun h2' hz2 sb=>?_⟩
  obtain ⟨I2,fr⟩:=zip_out (tk:=tk) (h2:=h2') I hf rfl a5 a7 sb neT ru1 ru2
  refine ⟨.ref s.heap.objs.size,_,I2,rfl,⟨_,x,y,rfl,fr,rfl,fun xs' hx'=>by rw [I.sq_inj hx' q1];exact e1,fun ys' hy'=>by rw [I.sq_inj hy' q2];exact e2⟩,⟨hz2,(sb.2 _ D.TIz).trans (a7 _ _ D.TIz D.TITO D.TIi1 D.TIi2 hI),⟨_,_,(sb.2 _ D.TOz).trans a2⟩,a3.1.keep fun o e=>(sb.2 _ D.i1z).trans e,a4.1.keep fun o e=>(sb.2 _ D.i2z).trans e⟩,fun b hb=>?_⟩
  rw [upd_ne]
  ·exact (hf b hb).1
  ·rintro rfl
   have hlive:∃o,s.heap.get? s.heap.objs.size=some o:=by
    simp only [List.mem_cons,List.not_mem_nil,or_false] at hb
    rcases hb with e | e | e | e | e
    ·exact absurd e neT
    ·rw [e];exact ⟨_,hI⟩
    ·rw [e];exact ⟨_,hO⟩
    ·rw [e];obtain ⟨o,q,_⟩:=h1.live;exact ⟨o,q⟩
    ·rw [e];obtain ⟨o,q,_⟩:=h2.live;exact ⟨o,q⟩
   obtain ⟨o,q⟩:=hlive
   exact absurd (Heap.lt_size q) (Nat.lt_irrefl _)
 done:=by
  intro X hP hw hK hc i pins s σ H E I hf st hg
  subst hP hw hK
  obtain ⟨xs,ys,q1,q2,he⟩:=hg
  obtain ⟨hz,hI,⟨a,c,hO⟩,h1,h2⟩:=st
  obtain ⟨its,rv1,p1⟩:=I.sq q1
  obtain ⟨jts,rv2,p2⟩:=I.sq q2
  have hl1:=rv1.length
  have hl2:=rv2.length
  have n1:∀b∈[z,TI,TO,i1,i2],l1≠b:=fun b hb=>q1.ne (hf b hb).1
  have n2:∀b∈[z,TI,TO,i1,i2],l2≠b:=fun b hb=>q2.ne (hf b hb).1
  have D':ZipD z TI TO i1 i2 [i1,l1] [i2,l2]:=⟨D.TIz,D.TOz,D.i1z,D.i2z,D.TITO,D.TIi1,D.TIi2,D.TOi1,D.TOi2,D.i12,
   by simp [D.i1z.symm,(n1 z (by simp)).symm],by simp [D.i2z.symm,(n2 z (by simp)).symm],by simp [D.TOi1,(n1 TO (by simp)).symm],by simp [D.TOi2,(n2 TO (by simp)).symm],
   by simp [D.i12,(n2 i1 (by simp)).symm],by simp [D.i12.symm,(n1 i2 (by simp)).symm]⟩
  have hT:s.TypeIs (.ref z) "zip":=⟨_,hz,rfl⟩
  unfold pyNext
  refine wpAny_bind (wpAny_attempt (wpAny_callSpecial?_slot (name:=Str.ofString "__next__") hT F.slot_zip_next (wpAny_call_entry F.slot_zip_next hT F.entry_zip_next
   (zip_next_endD D' (draws_sq (A:=X.A.in1) (I.ok.hd hc) b1 i1 l1 (n1 i1 (by simp)) its.toArray) (draws_sq (A:=X.A.in1) (I.ok.hd hc) b2 i2 l2 (n2 i2 (by simp)) jts.toArray) hz hI hO ⟨h1,p1⟩ ⟨h2,p2⟩ (by simp;omega) fun h' e tk hk he'=>?_) (F.args_zip_next_1 _))))
  obtain ⟨o,ho,hcl⟩:=he'
  refine wpAny_bind (wpAny_isInstance (T:="StopIteration") (b:=true) ⟨o,ho,hcl⟩ isSubtype_stop ?_)
  refine wpAny_pure ⟨rfl,I.turnedL (ch:=[z,TI,TO,i1,i2]) (fun b o hb q=>?_) hf⟩
  simp only [List.mem_cons,List.not_mem_nil,or_false,not_or] at hb
  exact hk b o hb.1 hb.2.2.1 hb.2.2.2.1 hb.2.2.2.2 q
 self:=fun _ _ _ _ _ st h=>wpAny_pyIter_zip st.1 h
theorem boot_zip:bootBuiltins "zip" = some (.type "zip"):=by decide +kernel
theorem zip_go{b1 b2:Bool}{elts:List Expr}{x1:Nat}{tp:Pos}{s1:Shared}{H1:Hp}{l1 l2:Addr}{xs ys:List V}{R:It->Hp->Prop}(I1:Inv X pins σ H1 s1)(q1:SqB b1 H1 l1 xs)(q2:SqB b2 H1 l2 ys)(q:R (ItZ b1 b2 l1 l2) H1) :
  wpAny (model X.prog X.w) X.A (call (.type "zip") [.ref l1,.ref l2]) (fun v s2=>wpAny (model X.prog X.w) X.A (pyIter v) (PIE X pins σ (.Tuple elts x1 tp) R) X.xe s2) X.xe s1:=by
 obtain ⟨its,rv1,p1⟩:=I1.sq q1
 obtain ⟨jts,rv2,p2⟩:=I1.sq q2
 refine call_zipD p1 p2 fun h' hz hI hO hi1 hi2 hsz hk=>wpAny_pyIter_zip hz ?_
 refine ⟨s1.heap.objs.size+4,[s1.heap.objs.size+4,s1.heap.objs.size+2,s1.heap.objs.size+3,s1.heap.objs.size,s1.heap.objs.size+1],_,_,H1,rfl,I1.kept (t':=s1.toks) hk,turn_zip b1 b2 l1 l2 _ _ _ _ _ ⟨?_,?_,?_,?_,?_,?_,?_,?_,?_,?_⟩,⟨hz,hI,⟨_,_,hO⟩,hi1,hi2⟩,fun c hb=>?_,q⟩
 all_goals try (first | omega | exact Nat.ne_of_lt (by omega) | exact Nat.ne_of_gt (by omega))
 simp only [List.mem_cons,List.not_mem_nil,or_false] at hb
 have hc:s1.heap.objs.size<=c:=by rcases hb with rfl | rfl | rfl | rfl | rfl<;>omega
 exact I1.fpOk hc (I1.hok.fresh hc)
end
end L2
namespace S2
open PySem PySem.Spec PyProof.Rows L2
section
variable{X:Cx}{cl:Cf}{E:St->XK}{e tg:Expr}{f:Fe}{own:Bool}{pos pos':Pos}
def minD:List D->Option D | [.int i,.int j]=>some (.int (if j<i then j else i)) | _=>none
def enumD(l:List D):List D:=l.zipIdx.map fun p=>.tup [.int p.2,p.1]
theorem enumD_len(l:List D):(enumD l).length=l.length:=by unfold enumD;rw [List.length_map,List.length_zipIdx]
theorem enumD_get{l:List D}{i:Nat}{d:D}(h:(enumD l)[i]?=some d):∃y,l[i]?=some y/\d=.tup [.int i,y]:=by
 unfold enumD at h
 rw [List.getElem?_map,List.getElem?_zipIdx] at h
 cases hl:l[i]? with
 | none=>rw [hl] at h;cases h
 | some y =>
  rw [hl] at h
  refine ⟨y,rfl,?_⟩
  have:=Option.some.inj h
  rw [<-this];simp
def eEnum(f:Fe):Fi:=fun ρ S=>(evalL [f] ρ S).bind fun ds S1=>match ds with | [.lst l]=>.ok (enumD l) S1 | [.tup l]=>.ok (enumD l) S1 | _=>.bad
theorem ite_ok{S:Hp->Addr->List V->Prop}{w:Wd}{a:Addr}{xs:List V}{l:List D}(hS:∀w',Fut w w'->S w'.H a xs)(r:Shds cl w xs l):ItOk cl w (ItE S a) (enumD l):=by
 have hl:=r.length
 have hel:=enumD_len l
 refine ⟨fun w1 F1 i hi=>⟨xs,xs[i]'(by omega),hS w1 F1,List.getElem?_eq_getElem (by omega)⟩,fun w1 F1=>⟨xs,hS w1 F1,by omega⟩,fun w1 F1 i d x H1 hd y=>?_⟩
 obtain ⟨t,v,rfl,ht,rfl,hy⟩:=y
 obtain ⟨z,hz,rfl⟩:=enumD_get hd
 have hv:=hy xs (hS w1 F1)
 obtain ⟨d',e1,e2⟩:=r.get hv
 rw [hz] at e1;cases e1
 exact ⟨w1.add t _,rfl,grow_add ht _,Shd.newT ht (.cons (.int _) (.cons (e2.up F1) .nil))⟩
theorem si_enum{es:List Expr}{kk:Nat}{tp p:Pos}(hg:Gl X "enumerate")(hm:X.mg "enumerate" = none)(ha:PA X [e] (tAs cl E [f]))(hs:starEach [e] X.env=[(false,eval e X.env)]):PI X (.Tuple es kk tp) (.Call (.Name "enumerate" p) [e] [] pos) (tI cl E (eEnum f)):=by
 intro pins s σ H R' I q
 obtain ⟨B,w,ρ,S,rfl,R,q⟩:=q
 unfold eEnum at q
 have L:=pi_enumL (elts:=es) (x1:=kk) (tp:=tp) (p:=p) (pos:=pos) hg hm ha rfl hs pins s σ w.H R' I
 have T:=pi_enumT (elts:=es) (x1:=kk) (tp:=tp) (p:=p) (pos:=pos) hg hm ha rfl hs pins s σ w.H R' I
 cases hf:evalL [f] ρ S with
 | bad=>rw [hf] at q;exact q.elim
 | exc c S1 =>
  refine L ⟨B,w,ρ,S,rfl,R,?_⟩
  rw [hf] at q ⊢;exact q
 | ok ds S1 =>
  rw [hf] at q
  dsimp only [Out.bind] at q
  split at q
  ·rename_i l' S' hm'
   split at hm'
   ·rename_i l
    cases hm'
    refine L ⟨B,w,ρ,S,rfl,R,?_⟩
    rw [hf]
    intro vs w' R2 F2 sh
    cases sh with
    | cons h1 h2 =>
     cases h2
     cases h1 with
     | lst ep k r=>exact ⟨_,rfl,⟨_,SqL.of ep⟩,q _ w' R2 F2 (ite_ok (fun w1 F1=>SqL.of (F1.keep _ _ ep k).1) r)⟩
   ·rename_i l
    cases hm'
    refine T ⟨B,w,ρ,S,rfl,R,?_⟩
    rw [hf]
    intro vs w' R2 F2 sh
    cases sh with
    | cons h1 h2 =>
     cases h2
     cases h1 with
     | tup ep k r=>exact ⟨_,rfl,⟨_,SqT.of ep⟩,q _ w' R2 F2 (ite_ok (fun w1 F1=>SqT.of (F1.keep _ _ ep k).1) r)⟩
   ·cases hm'
  ·rename_i hm';split at hm'<;>cases hm'
  ·exact q.elim
def zipD:List D->List D->List D
 | x::xs,y::ys=>.tup [x,y]::zipD xs ys
 | _,_=>[]
theorem zipD_len:∀(xs ys:List D),(zipD xs ys).length=min xs.length ys.length
 | [],_=>by simp [zipD]
 | _::_,[]=>by simp [zipD]
 | _::xs,_::ys=>by simp [zipD,zipD_len xs ys]
theorem zipD_get:∀{xs ys:List D} {i:Nat} {d:D},(zipD xs ys)[i]?=some d->∃x y,xs[i]?=some x/\ys[i]?=some y/\d=.tup [x,y]
 | [],_,_,_,h=>by simp [zipD] at h
 | _::_,[],_,_,h=>by simp [zipD] at h
 | x::xs,y::ys,0,d,h=>by
  simp only [zipD,List.getElem?_cons_zero,Option.some.injEq] at h
  exact ⟨x,y,rfl,rfl,h.symm⟩
 | x::xs,y::ys,i+1,d,h=>by
  simp only [zipD,List.getElem?_cons_succ] at h ⊢
  exact zipD_get h
def seqD:D->Option (List D) | .lst l=>some l | .tup l=>some l | _=>none
def eZip(f g:Fe):Fi:=fun ρ S=>(evalL [f,g] ρ S).bind fun ds S1=>match ds with | [x,y]=>(match seqD x,seqD y with | some l,some k=>.ok (zipD l k) S1 | _,_=>.bad) | _=>.bad
theorem itz_ok{b1 b2:Bool}{w:Wd}{l1 l2:Addr}{xs ys:List V}{ds es:List D}(h1:∀w',Fut w w'->SqB b1 w'.H l1 xs)(h2:∀w',Fut w w'->SqB b2 w'.H l2 ys)(r1:Shds cl w xs ds)(r2:Shds cl w ys es):ItOk cl w (ItZ b1 b2 l1 l2) (zipD ds es):=by
 have e1:=r1.length
 have e2:=r2.length
 have el:=zipD_len ds es
 refine ⟨fun w1 F1 i hi=>⟨xs,ys,xs[i]'(by omega),ys[i]'(by omega),h1 w1 F1,h2 w1 F1,List.getElem?_eq_getElem (by omega),List.getElem?_eq_getElem (by omega)⟩,fun w1 F1=>⟨xs,ys,h1 w1 F1,h2 w1 F1,by omega⟩,fun w1 F1 i d x H1 hd y=>?_⟩
 obtain ⟨t,v1,v2,rfl,ht,rfl,hx,hy⟩:=y
 obtain ⟨z1,z2,hz1,hz2,rfl⟩:=zipD_get hd
 obtain ⟨d1,q1,s1⟩:=r1.get (hx xs (h1 w1 F1))
 obtain ⟨d2,q2,s2⟩:=r2.get (hy ys (h2 w1 F1))
 rw [hz1] at q1;cases q1
 rw [hz2] at q2;cases q2
 exact ⟨w1.add t _,rfl,grow_add ht _,Shd.newT ht (.cons (s1.up F1) (.cons (s2.up F1) .nil))⟩
theorem seqD_shd{w:Wd}{v:V}{d:D}{l:List D}(h:Shd cl w v d)(e:seqD d=some l):∃(b:Bool) (a:Addr) (xs:List V),v=.ref a/\(∀w',Fut w w'->SqB b w'.H a xs)/\Shds cl w xs l:=by
 cases h with
 | lst ep k r=>cases e;exact ⟨true,_,_,rfl,fun w1 F1=>(F1.keep _ _ ep k).1,r⟩
 | tup ep k r=>cases e;exact ⟨false,_,_,rfl,fun w1 F1=>(F1.keep _ _ ep k).1,r⟩
 | _=>cases e
theorem si_zip{a:Expr}{fa:Fe}{es:List Expr}{kk:Nat}{tp p:Pos}(hg:Gl X "zip")(hm:X.mg "zip" = none)(ha:PA X [a,e] (tAs cl E [fa,f]))(hs:starEach [a,e] X.env=(false,eval a X.env)::starEach [e] X.env)(hs2:(backTo pos (starEach [e] X.env)).any (·.1)=false):PI X (.Tuple es kk tp) (.Call (.Name "zip" p) [a,e] [] pos) (tI cl E (eZip fa f)):=by
 have ha':PA X [a,e] (fun σ H R=>tAs cl E [fa,f] σ H R):=ha
 intro pins s σ H R' I q
 refine Call_ (ld_blt I hg hm L2.boot_zip (PyProof.Rows.callWith_type1 (thn (ha pos pins s σ H (fun vs H1=>∃b1 b2,∃l1 l2,vs=[.ref l1,.ref l2]/\(∃xs,SqB b1 H1 l1 xs)/\(∃ys,SqB b2 H1 l2 ys)/\R' (ItZ b1 b2 l1 l2) H1) I ?_) fun us s1 ⟨vs,H1,I1,r1,q1⟩=>?_) hs hs2))
 ·obtain ⟨B,w,ρ,S,rfl,R,q⟩:=q
  refine ⟨B,w,ρ,S,rfl,R,?_⟩
  unfold eZip at q
  cases hf:evalL [fa,f] ρ S with
  | bad=>rw [hf] at q;exact q.elim
  | exc c S1=>rw [hf] at q;exact q
  | ok ds S1 =>
   rw [hf] at q
   dsimp only [Out.bind] at q
   intro vs w' R2 F2 sh
   split at q
   ·rename_i l' S' hm'
    split at hm'
    ·rename_i x y
     split at hm'
     ·rename_i l k hl hk
      cases hm'
      cases sh with
      | cons h1 h2 =>
       cases h2 with
       | cons h2 h3 =>
        cases h3
        obtain ⟨b1,a1,xs,rfl,p1,r1⟩:=seqD_shd h1 hl
        obtain ⟨b2,a2,ys,rfl,p2,r2⟩:=seqD_shd h2 hk
        exact ⟨b1,b2,a1,a2,rfl,⟨xs,p1 _ (Fut.refl _)⟩,⟨ys,p2 _ (Fut.refl _)⟩,q _ w' R2 F2 (itz_ok p1 p2 r1 r2)⟩
     ·cases hm'
    ·cases hm'
   ·rename_i hm'
    split at hm'
    ·split at hm'<;>cases hm'
    ·cases hm'
   ·exact q.elim
 ·obtain ⟨b1,b2,l1,l2,e,⟨xs,q1⟩,⟨ys,q2⟩,q⟩:=q1
  subst e
  cases r1 with
  | cons r rr =>
   cases rr with
   | cons r' rr =>
    cases rr
    cases r
    cases r'
    exact zip_go I1 q1 q2 q
end
end S2
namespace S2
open PySem PySem.Spec PyProof.Rows L2
section
variable{X:Cx}{cl:Cf}{E:St->XK}{e:Expr}{f:Fe}{pos':Pos}
def countD(l:List D):D->Option D | .bl k=>(blsOf l).map fun bs=>.int ((bs.countP (· == k):Nat):Int) | _=>none
def indexD(l:List D):D->Option D | .bl k=>(blsOf l).bind fun bs=>if decide (bs.length<=1000)&&bs.contains k then some (.int (bs.idxOf k:Nat)) else none | _=>none
end
end S2
namespace S2
open PySem PySem.Spec PyProof.Rows L2
def isxD(g:Str->Str->Option Bool)(C:Str):D->Option D
 | .exc c=>(g c C).map .bl
 | _=>none
def clsV(cl:Cf)(C:Str):Value:=if C = "ValueError" then .type "ValueError" else .ref (cl C)
section
variable{X:Cx}{cl:Cf}{E:St->XK}{own:Bool}{e:Expr}{f fe:Fe}{pos pos':Pos}
theorem boot_value:bootBuiltins "ValueError" = some (.type "ValueError"):=by decide +kernel
def OpN(X:Cx)(cl:Cf)(op:Value->Value->Sem Value)(g:D->D->Option D):Prop:=OpR X op fun x y H Q=>∃w d e r,w.H=H/\TopV cl w x d/\TopV cl w y e/\g d e=some r/\∀p o w',Grow w w'->w'.H p=none->Top cl w' o r->Q (.ref p) (upd w'.H p o)
theorem twoN{a b:Expr}{h:Fe}{gg:D->D->Option D}{r2:R2}(hr:∀x y H Q,(∃w d e r,w.H=H/\TopV cl w x d/\TopV cl w y e/\gg d e=some r/\∀p o w',Grow w w'->w'.H p=none->Top cl w' o r->Q (.ref p) (upd w'.H p o))->r2 x y H Q)(σ:St)(H:Hp)(Q:VK)(q:tN cl E (eBin gg f h) σ H Q):tOp r2 (tH cl E f) (tH cl E h) σ H Q:=by
 obtain ⟨B,w,ρ,S,rfl,R,q⟩:=q
 refine ⟨B,w,ρ,S,rfl,R,?_⟩
 unfold eBin at q
 cases hf:f ρ S with
 | bad=>rw [hf] at q;exact q
 | exc c S1=>rw [hf] at q;exact q
 | ok d S1 =>
  rw [hf] at q
  intro v w1 R1 F1 h1
  refine ⟨B,w1,ρ,S1,rfl,R1,?_⟩
  dsimp only [Out.bind] at q
  cases hh:h ρ S1 with
  | bad=>rw [hh] at q;exact q
  | exc c S2=>rw [hh] at q;exact fun w2 R2 F2=>q w2 R2 (F1.trans F2)
  | ok e S2 =>
   rw [hh] at q
   intro y w2 R2 F2 h2
   dsimp only at q
   cases hg:gg d e with
   | none=>rw [hg] at q;exact q.elim
   | some r =>
    rw [hg] at q
    exact hr _ _ _ _ ⟨w2,d,e,r,rfl,(h1.up F2).top R2,h2.top R2,hg,fun p o w' gr hp t=>q p o w' (R2.grow gr) (F1.trans (F2.trans gr.fut)) hp t⟩
def mulLD:D->D->Option D
 | .lst a,.int j=>if decide (0<=j/\j<=1000/\a.length<=1000) then some (.lst (List.replicate j.toNat a).flatten) else none
 | _,_=>none
theorem on_mulL:OpN X cl (binaryOp .Mult) mulLD:=by
 intro pins s σ H x y v u Q I rx ry h
 obtain ⟨w,d,e,r,rfl,hx,hy,hg,q⟩:=h
 unfold mulLD at hg
 split at hg
 ·rename_i a j
  split at hg
  ·rename_i hz
   cases hg
   have hz':=of_decide_eq_true hz
   obtain ⟨p,xs,rfl,ep,rs⟩:=hx.lstI
   obtain rfl:=hy.intI
   have hl:=rs.length
   refine op_rep pins s σ w.H _ _ v u Q I rx ry ⟨p,j,xs,rfl,rfl,ep,by omega,by omega,?_,fun l hl=>q l _ w (Grow.refl _) hl (.lst (rs.flat _))⟩
   refine Nat.le_trans (Nat.mul_le_mul (show xs.length<=1000 by omega) (show j.toNat<=1000 by omega)) (by decide)
  ·cases hg
 ·cases hg
theorem se_mulL{a b:Expr}{h:Fe}(ha:PE X a (tH cl E f))(hb:PE X b (tH cl E h)):PE X (.BinOp a .Mult b pos) (tN cl E (eBin mulLD f h)) :=
 PE.imp (pe_op on_mulL ha hb) (twoN (a:=a) (b:=b) fun _ _ _ _ z=>z)
def isListE:Expr->Bool | .List _ _=>true | _=>false
def isMulO:Operator->Bool | .Mult=>true | _=>false
end
end S2
namespace PySem.F
end PySem.F
namespace PySem.F
end PySem.F
namespace L2
open PySem PySem.Spec PyProof.Rows
section
variable{prog:Program}{w:World}{A:Around}{E:Z5}{s:Shared}
end
end L2
namespace L2
open PySem PySem.Spec PyProof.Rows
section
variable{X:Cx}
end
end L2
namespace PySem.F
end PySem.F
namespace L2
open PySem PySem.Spec PyProof.Rows
section
variable{prog:Program}{w:World}{A:Around}{E:Z5}{s:Shared}
end
end L2
namespace L2
open PySem PySem.Spec PyProof.Rows
section
variable{X:Cx}
end
end L2
namespace S2
open PySem PySem.Spec PyProof.Rows L2
section
variable{X:Cx}{cl:Cf}{E:St->XK}{e tg:Expr}{f:Fe}{pos pos':Pos}
end
end S2
namespace S2
open PySem PySem.Spec PyProof.Rows L2
section
variable{X:Cx}{cl:Cf}{E:St->XK}{e:Expr}{f:Fe}{pos:Pos}
end
end S2
namespace S2
open PySem PySem.Spec PyProof.Rows L2
def putFd(f:Str)(o:Bool)(d:D):List (Str×Bool×D)->List (Str×Bool×D)
 | []=>[(f,o,d)]
 | (g,x)::r=>if g=f then (g,o,d)::r else (g,x)::putFd f o d r
def Ob.put(ob:Ob)(f:Str)(o:Bool)(d:D):Ob:=⟨ob.cls,putFd f o d ob.fs⟩
section
variable{cl:Cf}{w:Wd}{n:Nat}
theorem Flds.len{fs:List (Str×V)}{gs:List (Str×Bool×D)}(h:Flds cl w n fs gs):fs.length=gs.length:=Paired.length h
theorem Flds.look{fs:List (Str×V)}{gs:List (Str×Bool×D)}(h:Flds cl w n fs gs){f:Str}{o:Bool}{d:D}(e:gs.lookup f=some (o,d)):∃v,fs.lookup f=some v/\FRoot cl w (.fld n f) o v d:=by
 induction h with
 | nil=>cases e
 | @cons p q l1 l2 h t ih =>
  obtain ⟨h1,h2⟩:=h
  obtain ⟨g,v⟩:=p
  obtain ⟨g',o',d'⟩:=q
  have h1':g=g':=h1
  subst h1'
  rw [List.lookup_cons] at e ⊢
  cases hb:f == g with
  | true =>
   rw [hb] at e
   cases e
   have:=eq_of_beq hb
   subst this
   exact ⟨v,rfl,h2⟩
  | false =>
   rw [hb] at e
   exact ih e
theorem Flds.miss{fs:List (Str×V)}{gs:List (Str×Bool×D)}(h:Flds cl w n fs gs){f:Str}(e:gs.lookup f=none):fs.lookup f=none:=by
 induction h with
 | nil=>rfl
 | @cons p q l1 l2 h t ih =>
  obtain ⟨h1,h2⟩:=h
  obtain ⟨g,v⟩:=p
  obtain ⟨g',o',d'⟩:=q
  have h1':g=g':=h1
  subst h1'
  rw [List.lookup_cons] at e ⊢
  cases hb:f == g with
  | true=>rw [hb] at e;cases e
  | false=>rw [hb] at e;exact ih e
theorem Flds.put{fs:List (Str×V)}{gs:List (Str×Bool×D)}{f:Str}{o:Bool}{d:D}{y:V}(h:Flds cl w n fs gs)(hy:FRoot cl w (.fld n f) o y d):Flds cl w n (putF f y fs) (putFd f o d gs):=by
 induction h with
 | nil=>exact .cons ⟨rfl,hy⟩ .nil
 | @cons p q l1 l2 h t ih =>
  obtain ⟨h1,h2⟩:=h
  obtain ⟨g,v⟩:=p
  obtain ⟨g',o',d'⟩:=q
  have h1':g=g':=h1
  subst h1'
  show Flds cl w n (if g=f then (g,y)::l1 else (g,v)::putF f y l1) (if g=f then (g,o,d)::l2 else (g,o',d')::putFd f o d l2)
  by_cases hg:g=f
  ·subst hg
   rw [if_pos rfl,if_pos rfl]
   exact .cons ⟨rfl,hy⟩ t
  ·rw [if_neg hg,if_neg hg]
   exact .cons ⟨rfl,h2⟩ ih
theorem Flds.keepBut{w':Wd}(f:Fut w w'){x:Str}(k:∀a o g,g≠x->w.H a=some o->w.ow a=some (.fld n g)->w'.H a=some o/\w'.ow a=some (.fld n g)){fs:List (Str×V)}{gs:List (Str×Bool×D)}(h:Flds cl w n fs gs)(hn:∀q∈gs,q.1=x->q.2.1=false):Flds cl w' n fs gs:=by
 induction h with
 | nil=>exact .nil
 | @cons p q l1 l2 h t ih =>
  obtain ⟨h1,h2⟩:=h
  refine .cons ⟨h1,?_⟩ (ih fun q hq=>hn q (List.mem_cons_of_mem _ hq))
  by_cases hx:q.1=x
  ·have ho:=hn q List.mem_cons_self hx
   rw [ho] at h2 ⊢
   rcases h2 with ⟨_,h2⟩ | ⟨e,_⟩
   ·exact .inl ⟨rfl,Shd.up f h2⟩
   ·cases e
  ·exact h2.keep f fun a o ha hr=>k a o q.1 hx ha hr
theorem Flds.keepF{w':Wd}(f:Fut w w')(k:∀a o g,w.H a=some o->w.ow a=some (.fld n g)->w'.H a=some o/\w'.ow a=some (.fld n g)){fs:List (Str×V)}{gs:List (Str×Bool×D)}(h:Flds cl w n fs gs):Flds cl w' n fs gs:=by
 induction h with
 | nil=>exact .nil
 | @cons p q l1 l2 h t ih=>exact .cons ⟨h.1,h.2.keep f fun a o ha hr=>k a o q.1 ha hr⟩ ih
variable{B:Base}{σ:St}{ρ:Env}{S:Sto}
theorem World'.atObj(W:World' cl B w S){ob:Ob}(h:S[n]?=some ob){a:Addr}(e:w.mu[n]?=some a):ObAt cl w n a ob:=by
 obtain ⟨a',e',x⟩:=W.obj n ob h
 rw [e] at e';cases e'
 exact x
theorem get_set{S:Sto}{n m:Nat}{ob ob':Ob}(h:(S.set n ob)[m]?=some ob'):(m=n/\ob'=ob)\/(m≠n/\S[m]?=some ob'):=by
 by_cases e:n=m
 ·subst e
  have hlt:n<S.length:=by
   have:=(List.getElem?_eq_some_iff.mp h).1
   rw [List.length_set] at this;exact this
  rw [List.getElem?_set_self hlt] at h
  cases h
  exact .inl ⟨rfl,rfl⟩
 ·rw [List.getElem?_set_ne e] at h
  exact .inr ⟨fun z=>e z.symm,h⟩
theorem Rel.setf{a dx:Addr}{ob:Ob}{fs:List (Str×V)}{f:Str}{y:V}{d:D}(R:Rel cl B σ w ρ S)(hn:S[n]?=some ob)(hmu:w.mu[n]?=some a)(how:w.ow a=some (.obj n))(hH:w.H a=some (.ins (cl ob.cls) dx fs))(hF:Flds cl w n fs ob.fs)(hy:Shd cl w y d) :
  Rel cl B σ (w.mut a (.ins (cl ob.cls) dx (putF f y fs))) ρ (S.set n (ob.put f false d))/\Fut w (w.mut a (.ins (cl ob.cls) dx (putF f y fs))):=by
 have ff:=fut_mut (w:=w) (p:=a) (o:=.ins (cl ob.cls) dx (putF f y fs)) (by rw [how];exact Option.some_ne_none _)
 have kp:∀b u,w.H b=some u->w.ow b≠some (.obj n)->(w.mut a (.ins (cl ob.cls) dx (putF f y fs))).H b=some u/\(w.mut a (.ins (cl ob.cls) dx (putF f y fs))).ow b=w.ow b:=fun b u hb hne=>⟨by
  show upd w.H a _ b=_
  rw [upd_ne (fun z=>hne (by rw [z];exact how))];exact hb,rfl⟩
 have hB:B.Fr a=none:=(R.wd.own a _ how).elim (fun z=>by cases z) fun z=>z
 refine ⟨⟨⟨fun b u h=>?_,R.wd.own,by rw [List.length_set];exact R.wd.len,fun m ob' h=>?_⟩,R.len,fun i o e h=>?_⟩,ff⟩
 ·refine ⟨?_,(R.wd.fr b u h).2⟩
  show upd w.H a _ b=_
  rw [upd_ne (fun z=>by rw [z,hB] at h;cases h)]
  exact (R.wd.fr b u h).1
 ·rcases get_set h with ⟨rfl,rfl⟩ | ⟨hne,h⟩
  ·refine ⟨a,hmu,how,dx,_,upd_same,?_⟩
   exact Flds.put (hF.keepF ff fun b u g hb hg=>⟨(kp b u hb (by rw [hg];exact fun z=>by cases z)).1,hg⟩) (.inl ⟨rfl,hy.up ff⟩)
  ·obtain ⟨b,e,x⟩:=R.wd.obj m ob' h
   exact ⟨b,e,x.keep ff fun b u hb hm=>kp b u hb fun z=>by rw [z] at hm;exact hne hm.symm⟩
 ·obtain ⟨v,e1,x⟩:=R.slots i o e h
  exact ⟨v,e1,x.keep ff fun b u hb hr=>⟨(kp b u hb (by rw [hr];exact fun z=>by cases z)).1,hr⟩⟩
def Wd.addF(w:Wd)(p:Addr)(o:HO)(n:Nat)(f:Str):Wd:=⟨upd w.H p o,fun b=>if b=p then some (.fld n f) else w.ow b,w.mu⟩
theorem Rel.newf{a dx p:Addr}{ob:Ob}{fs:List (Str×V)}{f:Str}(R:Rel cl B σ w ρ S)(hn:S[n]?=some ob)(hmu:w.mu[n]?=some a)(how:w.ow a=some (.obj n))(hH:w.H a=some (.ins (cl ob.cls) dx fs))(hF:Flds cl w n fs ob.fs)(hp:w.H p=none) :
  Rel cl B σ ((w.addF p (.ext (DN cl.P cl.wo p [])) n f).mut a (.ins (cl ob.cls) dx (putF f (.ref p) fs))) ρ (S.set n (ob.put f true (.dic [])))/\Fut w ((w.addF p (.ext (DN cl.P cl.wo p [])) n f).mut a (.ins (cl ob.cls) dx (putF f (.ref p) fs))):=by
 have hap:a≠p:=ne_of_none hH hp
 have kp:∀b u,w.H b=some u->w.ow b≠some (.obj n)->((w.addF p (.ext (DN cl.P cl.wo p [])) n f).mut a (.ins (cl ob.cls) dx (putF f (.ref p) fs))).H b=some u/\((w.addF p (.ext (DN cl.P cl.wo p [])) n f).mut a (.ins (cl ob.cls) dx (putF f (.ref p) fs))).ow b=w.ow b:=fun b u hb hne=>by
  have hbp:b≠p:=ne_of_none hb hp
  refine ⟨?_,?_⟩
  ·show upd (upd w.H p _) a _ b=_
   rw [upd_ne (fun z=>hne (by rw [z];exact how)),upd_ne hbp];exact hb
  ·show (if b=p then _ else w.ow b)=_
   rw [if_neg hbp]
 have ff:Fut w ((w.addF p (.ext (DN cl.P cl.wo p [])) n f).mut a (.ins (cl ob.cls) dx (putF f (.ref p) fs))):=⟨fun b u hb hk=>by
  have:=kp b u hb (by rw [hk];exact fun z=>by cases z)
  exact ⟨this.1,this.2.trans hk⟩,fun _ _ h=>h⟩
 have hB:B.Fr a=none:=(R.wd.own a _ how).elim (fun z=>by cases z) fun z=>z
 have hBp:B.Fr p=none:=by
  cases z:B.Fr p with
  | none=>rfl
  | some u=>have:=(R.wd.fr p u z).1;rw [hp] at this;cases this
 have Hp:((w.addF p (.ext (DN cl.P cl.wo p [])) n f).mut a (.ins (cl ob.cls) dx (putF f (.ref p) fs))).H p=some (.ext (DN cl.P cl.wo p [])):=by
  show upd (upd w.H p _) a _ p=_
  rw [upd_ne hap.symm,upd_same]
 have owp:((w.addF p (.ext (DN cl.P cl.wo p [])) n f).mut a (.ins (cl ob.cls) dx (putF f (.ref p) fs))).ow p=some (.fld n f):=if_pos rfl
 have owa:((w.addF p (.ext (DN cl.P cl.wo p [])) n f).mut a (.ins (cl ob.cls) dx (putF f (.ref p) fs))).ow a=some (.obj n):=by
  show (if a=p then _ else w.ow a)=_
  rw [if_neg hap];exact how
 refine ⟨⟨⟨fun b u h=>?_,fun b r h=>?_,by rw [List.length_set];exact R.wd.len,fun m ob' h=>?_⟩,R.len,fun i o e h=>?_⟩,ff⟩
 ·have:=kp b u (R.wd.fr b u h).1 fun z=>by
   rcases R.wd.own b _ z with y | y
   ·cases y
   ·rw [h] at y;cases y
  exact ⟨this.1,this.2.trans (R.wd.fr b u h).2⟩
 ·have h':(if b=p then some (Root.fld n f) else w.ow b)=some r:=h
  split at h'
  ·rename_i z;rw [z];exact .inr hBp
  ·exact R.wd.own b r h'
 ·rcases get_set h with ⟨rfl,rfl⟩ | ⟨hne,h⟩
  ·refine ⟨a,hmu,owa,dx,_,upd_same,?_⟩
   refine Flds.put (hF.keepF ff fun b u g hb hg=>?_) (.inr ⟨rfl,p,[],[],[],rfl,owp,Hp,.nil,.nil,rfl⟩)
   have:=kp b u hb (by rw [hg];exact fun z=>by cases z)
   exact ⟨this.1,this.2.trans hg⟩
  ·obtain ⟨b,e,x⟩:=R.wd.obj m ob' h
   exact ⟨b,e,x.keep ff fun b u hb hm=>kp b u hb fun z=>by rw [z] at hm;exact hne hm.symm⟩
 ·obtain ⟨v,e1,x⟩:=R.slots i o e h
  exact ⟨v,e1,x.keep ff fun b u hb hr=>by
   have:=kp b u hb (by rw [hr];exact fun z=>by cases z)
   exact ⟨this.1,this.2.trans hr⟩⟩
def nodupF(ob:Ob):Bool:=decide (ob.fs.map (·.1)).Nodup
theorem Flds.dic{w':Wd}{a:Addr}{f:Str}{d:D}(ff:Fut w w')(k:∀b o g,g≠f->w.H b=some o->w.ow b=some (.fld n g)->w'.H b=some o/\w'.ow b=some (.fld n g))(hy:FRoot cl w' (.fld n f) true (.ref a) d):∀{fs:List (Str×V)} {gs:List (Str×Bool×D)},Flds cl w n fs gs->(gs.map (·.1)).Nodup->fs.lookup f=some (.ref a)->Flds cl w' n fs (putFd f true d gs):=by
 intro fs gs h
 induction h with
 | nil=>intro _ e;cases e
 | @cons p q l1 l2 h t ih =>
  intro nd e
  obtain ⟨h1,h2⟩:=h
  obtain ⟨g,v⟩:=p
  obtain ⟨g',o',d'⟩:=q
  have h1':g=g':=h1
  subst h1'
  rw [List.map_cons,List.nodup_cons] at nd
  show Flds cl w' n ((g,v)::l1) (if g=f then (g,true,d)::l2 else (g,o',d')::putFd f true d l2)
  rw [List.lookup_cons] at e
  by_cases hg:g=f
  ·subst hg
   rw [if_pos rfl]
   simp only [beq_self_eq_true] at e
   cases e
   refine .cons ⟨rfl,hy⟩ ?_
   have t':Flds cl w n l1 l2:=t
   exact t'.keepBut ff k fun q hq hx=>absurd (List.mem_map.mpr ⟨q,hq,hx⟩) nd.1
  ·rw [if_neg hg]
   have hb:(f == g)=false:=beq_eq_false_iff_ne.mpr fun z=>hg z.symm
   rw [hb] at e
   exact .cons ⟨rfl,h2.keep ff fun b o hb hr=>k b o g hg hb hr⟩ (ih nd.2 e)
theorem Rel.setd{a dx c:Addr}{ob:Ob}{fs:List (Str×V)}{f:Str}{xs:List (NK×Addr×Value)}{m:List (NK×V)}{ds:List (D×D)}{k:NK}{kb:Addr}{u:Value}{v:V}{d:D}(R:Rel cl B σ w ρ S)(hn:S[n]?=some ob)(hmu:w.mu[n]?=some a)(how:w.ow a=some (.obj n))(hH:w.H a=some (.ins (cl ob.cls) dx fs))(hF:Flds cl w n fs ob.fs)
  (hl:fs.lookup f=some (.ref c)) (hc:w.ow c=some (.fld n f)) (hcH:w.H c=some (.ext (DN cl.P cl.wo c xs))) (he:EntS w xs m) (hs:ShdN cl w m ds) (hk:KeyS w kb k) (rv:RelV v u) (hv:Shd cl w v d) (nd:nodupF ob=true) :
  Rel cl B σ (w.mut c (.ext (DN cl.P cl.wo c (xs++[(k,kb,u)])))) ρ (S.set n (ob.put f true (.dic (ds++[(nkD k,d)]))))/\Fut w (w.mut c (.ext (DN cl.P cl.wo c (xs++[(k,kb,u)])))):=by
 have ff:=fut_mut (w:=w) (p:=c) (o:=.ext (DN cl.P cl.wo c (xs++[(k,kb,u)]))) (by rw [hc];exact Option.some_ne_none _)
 have kp:∀b o,w.H b=some o->w.ow b≠some (.fld n f)->(w.mut c (.ext (DN cl.P cl.wo c (xs++[(k,kb,u)])))).H b=some o/\(w.mut c (.ext (DN cl.P cl.wo c (xs++[(k,kb,u)])))).ow b=w.ow b:=fun b o hb hne=>⟨by
  show upd w.H c _ b=_
  rw [upd_ne (fun z=>hne (by rw [z];exact hc))];exact hb,rfl⟩
 have hB:B.Fr c=none:=(R.wd.own c _ hc).elim (fun z=>by cases z) fun z=>z
 refine ⟨⟨⟨fun b o h=>?_,R.wd.own,by rw [List.length_set];exact R.wd.len,fun m' ob' h=>?_⟩,R.len,fun i o e h=>?_⟩,ff⟩
 ·refine ⟨?_,(R.wd.fr b o h).2⟩
  show upd w.H c _ b=_
  rw [upd_ne (fun z=>by rw [z,hB] at h;cases h)]
  exact (R.wd.fr b o h).1
 ·rcases get_set h with ⟨rfl,rfl⟩ | ⟨hne,h⟩
  ·refine ⟨a,hmu,how,dx,fs,?_,?_⟩
   ·exact (kp a _ hH (by rw [how];exact fun z=>by cases z)).1
   ·refine Flds.dic (a:=c) ff (fun b o g hg hb hr=>?_) (.inr ⟨rfl,c,_,m++[(k,v)],ds++[(nkD k,d)],rfl,hc,upd_same,?_,?_,rfl⟩) hF (of_decide_eq_true nd) hl
    ·exact ⟨(kp b o hb (by rw [hr];exact fun z=>hg (by cases z;rfl))).1,hr⟩
    ·exact (he.up ff).snoc ⟨rfl,hk.up ff,rv⟩
    ·exact (hs.up ff).snoc (hv.up ff)
  ·obtain ⟨b,e,x⟩:=R.wd.obj m' ob' h
   exact ⟨b,e,x.keep ff fun b o hb hm=>kp b o hb fun z=>by rw [z] at hm;exact hne hm.symm⟩
 ·obtain ⟨v',e1,x⟩:=R.slots i o e h
  exact ⟨v',e1,x.keep ff fun b o hb hr=>⟨(kp b o hb (by rw [hr];exact fun z=>by cases z)).1,hr⟩⟩
def Wd.addO(w:Wd)(x dx C:Addr)(n:Nat):Wd:=⟨upd (upd w.H dx (.own x)) x (.ins C dx []),fun b=>if b=x then some (.obj n) else if b=dx then none else w.ow b,w.mu++[x]⟩
theorem Rel.made{x dx:Addr}{c:Str}(R:Rel cl B σ w ρ S)(hx:w.H x=none)(hdx:w.H dx=none)(ne:dx≠x):Rel cl B σ (w.addO x dx (cl c) S.length) ρ (S++[⟨c,[]⟩])/\Fut w (w.addO x dx (cl c) S.length):=by
 have kp:∀b o,w.H b=some o->(w.addO x dx (cl c) S.length).H b=some o/\(w.addO x dx (cl c) S.length).ow b=w.ow b:=fun b o hb=>by
  have n1:b≠x:=ne_of_none hb hx
  have n2:b≠dx:=ne_of_none hb hdx
  refine ⟨?_,?_⟩
  ·show upd (upd w.H dx _) x _ b=_
   rw [upd_ne n1,upd_ne n2];exact hb
  ·show (if b=x then _ else if b=dx then _ else w.ow b)=_
   rw [if_neg n1,if_neg n2]
 have ff:Fut w (w.addO x dx (cl c) S.length):=⟨fun b o hb hk=>⟨(kp b o hb).1,(kp b o hb).2.trans hk⟩,fun n a h=>by
  show (w.mu++[x])[n]?=some a
  rw [List.getElem?_append_left (List.getElem?_eq_some_iff.mp h).1];exact h⟩
 have hBx:B.Fr x=none:=by
  cases z:B.Fr x with
  | none=>rfl
  | some u=>have:=(R.wd.fr x u z).1;rw [hx] at this;cases this
 refine ⟨⟨⟨fun b o h=>?_,fun b r h=>?_,by show (w.mu++[x]).length=_;rw [List.length_append,List.length_append,R.wd.len];rfl,fun m ob h=>?_⟩,R.len,fun i o e h=>?_⟩,ff⟩
 ·have:=kp b o (R.wd.fr b o h).1
  exact ⟨this.1,this.2.trans (R.wd.fr b o h).2⟩
 ·have h':(if b=x then some (Root.obj S.length) else if b=dx then none else w.ow b)=some r:=h
  split at h'
  ·rename_i z;rw [z];exact .inr hBx
  ·split at h'
   ·cases h'
   ·exact R.wd.own b r h'
 ·by_cases hm:m<S.length
  ·rw [List.getElem?_append_left hm] at h
   obtain ⟨b,e,y⟩:=R.wd.obj m ob h
   exact ⟨b,ff.mu _ _ e,y.keep ff fun b o hb _=>kp b o hb⟩
  ·have hm':m=S.length:=by
    have:=(List.getElem?_eq_some_iff.mp h).1
    rw [List.length_append,List.length_singleton] at this
    omega
   subst hm'
   rw [List.getElem?_append_right (Nat.le_refl _),Nat.sub_self] at h
   cases h
   refine ⟨x,?_,if_pos rfl,dx,[],upd_same,.nil⟩
   show (w.mu++[x])[S.length]?=some x
   rw [List.getElem?_append_right (by rw [R.wd.len];exact Nat.le_refl _),R.wd.len,Nat.sub_self];rfl
 ·obtain ⟨v,e1,y⟩:=R.slots i o e h
  exact ⟨v,e1,y.keep ff fun b o hb hr=>⟨(kp b o hb).1,(kp b o hb).2.trans hr⟩⟩
end
end S2
namespace S2
open PySem PySem.Spec PyProof.Rows L2
def optOf:D->Option (Option Int) | .non=>some none | .int i=>some (some i) | _=>none
def optsOf:List D->Option (List (Option Int))
 | []=>some []
 | d::r=>(optOf d).bind fun o=>(optsOf r).map (o::·)
def nkOf:D->Option NK
 | .tup [.int i,.tup l]=>(optsOf l).map fun os=>(i,os)
 | _=>none
def dlook(k:NK):List (D×D)->Option D
 | []=>none
 | (q,d)::r=>if nkOf q=some k then some d else dlook k r
theorem optOf_oDn(o:Option Int):optOf (oDn o)=some o:=by cases o<;>rfl
theorem optsOf_map:∀l:List (Option Int),optsOf (l.map oDn)=some l
 | []=>rfl
 | o::l=>by rw [List.map_cons];unfold optsOf;rw [optOf_oDn,optsOf_map l];rfl
theorem nkOf_nkD(k:NK):nkOf (nkD k)=some k:=by
 show (optsOf (k.2.map oDn)).map (fun os=>(k.1,os))=some k
 rw [optsOf_map];rfl
section
variable{cl:Cf}{w:Wd}
theorem opts_vs:∀{xs:List V} {ds:List D} {os:Z4},Shds cl w xs ds->optsOf ds=some os->xs=os.map oV
 | _,_,os,.nil,h=>by cases h;rfl
 | _,_,os,.cons (v:=v) (d:=d) (ds:=ds) r t,h=>by
  unfold optsOf at h
  cases h1:optOf d with
  | none=>rw [h1] at h;cases h
  | some o =>
   rw [h1] at h
   cases h2:optsOf ds with
   | none=>rw [h2] at h;cases h
   | some os' =>
    rw [h2] at h;cases h
    rw [List.map_cons,<-opts_vs t h2]
    cases d<;>simp [optOf] at h1<;>subst h1<;>cases r<;>rfl
theorem key_at{v:V}{d:D}{k:NK}(h:Shd cl w v d)(hk:nkOf d=some k):∃kb,v=.ref kb/\KeyS w kb k:=by
 unfold nkOf at hk
 split at hk
 ·rename_i i l
  cases ho:optsOf l with
  | none=>rw [ho] at hk;cases hk
  | some os =>
   rw [ho] at hk;cases hk
   cases h with
   | tup e o r =>
    cases r with
    | cons r1 t =>
     cases t with
     | cons r2 t =>
      cases t
      cases r1
      cases r2 with
      | tup e2 o2 r2=>exact ⟨_,rfl,_,⟨e,o⟩,by rw [<-opts_vs r2 ho];exact e2,o2⟩
 ·cases hk
theorem dl_at:∀{m:List (NK×V)} {ds:List (D×D)},ShdN cl w m ds->∀k:NK,(m.lookup k=none/\dlook k ds=none)\/∃v d,m.lookup k=some v/\dlook k ds=some d/\Shd cl w v d
 | _,_,.nil,k=>.inl ⟨rfl,rfl⟩
 | _,_,.cons (k:=k') (v:=v) (d:=d) r t,k=>by
  rw [List.lookup_cons]
  unfold dlook
  rw [nkOf_nkD]
  by_cases e:k'=k
  ·subst e
   rw [if_pos rfl,beq_self_eq_true]
   exact .inr ⟨v,d,rfl,rfl,r⟩
  ·rw [if_neg (fun z=>e (by cases z;rfl)),beq_eq_false_iff_ne.mpr (fun z=>e z.symm)]
   exact dl_at t k
theorem dl_len:∀{m:List (NK×V)} {ds:List (D×D)},ShdN cl w m ds->m.length=ds.length
 | _,_,.nil=>rfl
 | _,_,.cons r t=>by rw [List.length_cons,List.length_cons,dl_len t]
end
def fldD(cn f:Str)(d:D)(S:Sto):Option D:=match d with
 | .ref n=>(match S[n]? with
  | some ob=>if ob.cls=cn then (match ob.fs.lookup f with | some (false,d)=>some d | _=>none) else none
  | none=>none)
 | _=>none
def eFld(cn f:Str)(fe:Fe):Fe:=fun ρ S=>(fe ρ S).bind fun d S1=>match fldD cn f d S1 with | some r=>.ok r S1 | none=>.bad
def FkOk(cl:Cf)(cn f:Str):Prop:=Cls cl.K (cl cn)/\NoAttr cl.K (cl cn) f
def dicD(cn f:Str)(d:D)(S:Sto):Option (Nat×Ob×List (D×D)):=match d with
 | .ref n=>(match S[n]? with
  | some ob=>if ob.cls=cn then (match ob.fs.lookup f with | some (true,.dic ds)=>some (n,ob,ds) | _=>none) else none
  | none=>none)
 | _=>none
section
variable{cl:Cf}{cn:Str}{X:Cx}{E:St->XK}{e:Expr}{fe:Fe}{f:Str}{pos:Pos}{B:Base}{σ:St}{w:Wd}{ρ:Env}{S:Sto}
theorem at_ref{v:V}{n:Nat}{ob:Ob}(R:Rel cl B σ w ρ S)(hv:Shd cl w v (.ref n))(hn:S[n]?=some ob):∃a dx fs,v=.ref a/\w.mu[n]?=some a/\w.ow a=some (.obj n)/\w.H a=some (.ins (cl ob.cls) dx fs)/\Flds cl w n fs ob.fs:=by
 cases hv with
 | ref e =>
  obtain ⟨h1,dx,fs,h2,h3⟩:=R.wd.atObj hn e
  exact ⟨_,dx,fs,rfl,e,h1,h2,h3⟩
theorem at_fld{v:V}{d r:D}(hk:FkOk cl cn f)(R:Rel cl B σ w ρ S)(hv:Shd cl w v d)(hd:fldD cn f d S=some r):∃a C dx fs y,v=.ref a/\w.H a=some (.ins C dx fs)/\Cls cl.K C/\NoAttr cl.K C f/\fs.lookup f=some y/\Shd cl w y r:=by
 unfold fldD at hd
 cases d with
 | ref n =>
  dsimp only at hd
  cases hS:S[n]? with
  | none=>rw [hS] at hd;cases hd
  | some ob =>
   rw [hS] at hd
   dsimp only at hd
   split at hd
   ·rename_i hfk
    split at hd
    ·rename_i d hl
     cases hd
     obtain ⟨a,dx,fs,rfl,_,_,hH,hF⟩:=at_ref R hv hS
     obtain ⟨v,lv,fr⟩:=hF.look hl
     rcases fr with ⟨_,fr⟩ | ⟨z,_⟩
     ·exact ⟨a,_,dx,fs,v,rfl,hH,hfk ▸ hk.1,hfk ▸ hk.2,lv,fr⟩
     ·cases z
    ·cases hd
   ·cases hd
 | _=>cases hd
theorem se_fld(hk:FkOk cl cn f)(kk:X.K=cl.K)(he:PE X e (tE cl E fe))(hb:attributeBase e f X.env (eval e X.env)=eval e X.env):PE X (.Attribute e f pos) (tE cl E (eFld cn f fe)):=by
 refine PE.imp (pe_fld he hb) ?_
 rintro σ H Q ⟨B,w,ρ,S,rfl,R,q⟩
 refine ⟨B,w,ρ,S,rfl,R,?_⟩
 unfold eFld at q
 cases hf:fe ρ S with
 | bad=>rw [hf] at q;exact q
 | exc c S1=>rw [hf] at q;exact q
 | ok d S1 =>
  rw [hf] at q
  intro v w1 R1 F1 h1
  dsimp only [Out.bind] at q
  cases hd:fldD cn f d S1 with
  | none=>rw [hd] at q;exact q.elim
  | some r =>
   rw [hd] at q
   obtain ⟨a,C,dx,fs,y,rfl,e1,e2,e3,e4,e5⟩:=at_fld hk R1 h1 hd
   rw [kk]
   exact ⟨a,C,dx,fs,y,rfl,e1,e2,e3,e4,q y w1 R1 F1 e5⟩
theorem at_dic{v:V}{d:D}{n:Nat}{ob:Ob}{ds:List (D×D)}(hk:FkOk cl cn f)(R:Rel cl B σ w ρ S)(hv:Shd cl w v d)(hd:dicD cn f d S=some (n,ob,ds)) :
  ∃a dx fs c xs m,v=.ref a/\S[n]?=some ob/\w.mu[n]?=some a/\w.ow a=some (.obj n)/\w.H a=some (.ins (cl ob.cls) dx fs)/\Flds cl w n fs ob.fs/\Cls cl.K (cl ob.cls)/\NoAttr cl.K (cl ob.cls) f/\fs.lookup f=some (.ref c)/\w.ow c=some (.fld n f)/\w.H c=some (.ext (DN cl.P cl.wo c xs))/\EntS w xs m/\ShdN cl w m ds:=by
 unfold dicD at hd
 cases d with
 | ref n' =>
  dsimp only at hd
  cases hS:S[n']? with
  | none=>rw [hS] at hd;cases hd
  | some ob' =>
   rw [hS] at hd
   dsimp only at hd
   split at hd
   ·rename_i hfk
    split at hd
    ·rename_i ds' hl
     cases hd
     obtain ⟨a,dx,fs,rfl,hmu,how,hH,hF⟩:=at_ref R hv hS
     obtain ⟨v,lv,fr⟩:=hF.look hl
     rcases fr with ⟨z,_⟩ | ⟨_,c,xs,m,ds2,rfl,c1,c2,c3,c4,e⟩
     ·cases z
     ·cases e
      exact ⟨a,dx,fs,c,xs,m,rfl,hS,hmu,how,hH,hF,hfk ▸ hk.1,hfk ▸ hk.2,lv,c1,c2,c3,c4⟩
    ·cases hd
   ·cases hd
 | _=>cases hd
end
end S2
namespace L2
open PySem PySem.Spec PyProof.Rows
section
variable{X:Cx}
def tRng(ta:TA):TE:=fun σ H Q=>ta σ H fun vs H1=>∃j:Int,vs=[.int j]/\0<=j/\j<=1000/\∀p,H1 p=none->Q (.ref p) (upd H1 p (.rng 0 j))
theorem pe_rng{a:Expr}{ta:TA}{p pos:Pos}(hg:Gl X "range")(hm:X.mg "range" = none)(ha:PA X [a] ta)(hs:starEach [a] X.env=[(false,eval a X.env)]:=by rfl):PE X (.Call (.Name "range" p) [a] [] pos) (tRng ta):=by
 intro pins s σ H Q I h
 refine Call_ (ld_blt I hg hm boot_range (PyProof.Rows.callWith_type1 (thn (ha pos pins s σ H _ I h) fun us s1 ⟨vs,H1,I1,r1,q1⟩=>?_) hs rfl))
 obtain ⟨j,e,j0,j1,q⟩:=q1
 subst e
 cases r1 with
 | cons r rr =>
  cases rr
  obtain ⟨t,rfl⟩:=r
  refine call_range_1 ⟨.ref s1.heap.objs.size,_,I1.laid (a:=s1.heap.objs.size) (o:=.rng 0 j) (fun _ _ q=>Heap.get?_push_of_some _ q) (Nat.le_refl _) ⟨_,_,_,Heap.get?_push_size _ rfl⟩,rfl,q _ (I1.hok.fresh (Nat.le_refl _))⟩
theorem vals_range:∀(n:Nat) (its:List Value),its.length=n->(∀(i:Nat) (v:Value),its[i]?=some v->∃t,v=.int (i:Int) t)->Vals ((List.range n).map fun (i:Nat)=>V.int (i:Int)) its:=by
 intro n
 induction n with
 | zero =>
  intro its hl _
  have:its=[]:=List.eq_nil_of_length_eq_zero hl
  subst this
  exact .nil
 | succ n ih =>
  intro its hl h
  have e:its=its.take n++[its[n]]:=by
   have:=List.take_append_drop n its
   have h2:its.drop n=[its[n]]:=by
    rw [List.drop_eq_getElem_cons (by omega),List.drop_of_length_le (by omega)]
   rw [h2] at this
   exact this.symm
  rw [e,List.range_succ,List.map_append]
  refine (ih (its.take n) (by rw [List.length_take];omega) fun i v hv=>?_).append (.cons ?_ .nil)
  ·have hi:i<n:=by
    have:=(List.getElem?_eq_some_iff.mp hv).1
    rw [List.length_take] at this
    omega
   rw [List.getElem?_take,if_pos hi] at hv
   exact h i v hv
  ·exact h n its[n] (List.getElem?_eq_getElem (by omega))
theorem call_list_rng(hc:X.calm=true):CallR X (.type "list") (fun xs H Q=>∃(p:Addr) (n:Nat),xs=[.ref p]/\H p=some (.rng 0 (n:Int))/\n<=1000/\∀l,H l=none->Q (.ref l) (upd H l (.lst ((List.range n).map fun (i:Nat)=>V.int (i:Int))))):=by
 intro pins s σ H xs us Q I r h
 obtain ⟨p,n,rfl,hp,hn,q⟩:=h
 obtain ⟨u,rfl,rx⟩:=vals1 r
 cases rx
 obtain ⟨t,u,v,hr⟩:=I.hok p _ hp
 refine call_list_range (n:=n) (I.ok.hd hc) (show IsRange s.heap p 0 (n:Int) 1 t u v from hr) (small_one (by omega) (by omega) (by omega) (by omega)) (by rw [rangeSize_one];split<;>omega) (by omega) fun h' tk acc c' kp e hi=>?_
 refine ⟨.ref s.heap.objs.size,_,I.laid (t':=tk) kp (Nat.le_refl _) (show ObjOk X.prog X.w _ h' _ (.lst _) from ⟨?_,acc.toList,c',vals_range n acc.toList ?_ ?_,by simpa using e⟩),rfl,q _ (I.hok.fresh (Nat.le_refl _))⟩
 ·rw [List.length_map,List.length_range];exact Nat.le_trans hn (by decide)
 ·have:=hi.1
  simpa using this
 ·intro i v hv
  have:=hi.2 i v (by simpa using hv)
  simpa using this
end
end L2
namespace S2
open PySem PySem.Spec PyProof.Rows L2
def eNin(cn f:Str)(fa fo:Fe):Fe:=fun ρ S=>(fa ρ S).bind fun dk S1=>(fo ρ S1).bind fun d S2=>match nkOf dk,dicD cn f d S2 with
 | some k,some (_,_,ds)=>.ok (.bl (dlook k ds).isNone) S2
 | _,_=>.bad
def keyI(ρ:Env)(i:Nat):Option NK:=match ρ[i]? with | some (some (false,dk))=>nkOf dk | _=>none
def eGetK(cn f:Str)(fo:Fe)(i:Nat):Fe:=fun ρ S=>(fo ρ S).bind fun d S1=>match keyI ρ i,dicD cn f d S1 with
 | some k,some (_,_,ds)=>(match dlook k ds with | some r=>.ok r S1 | none=>.bad)
 | _,_=>.bad
def sPutK(cn f:Str)(fo:Fe)(i:Nat)(fe:Fe):Fs:=fun ρ S=>match fe ρ S with
 | .bad=>.bad
 | .exc c S1=>.ex c ρ S1
 | .ok r S1=>(match fo ρ S1 with
  | .bad=>.bad
  | .exc c S2=>.ex c ρ S2
  | .ok d S2=>(match keyI ρ i,dicD cn f d S2 with
   | some k,some (n,ob,ds)=>if (dlook k ds).isNone&&decide (ds.length<=1000000)&&nodupF ob then .nx ρ (S2.set n (ob.put f true (.dic (ds++[(nkD k,r)])))) else .bad
   | _,_=>.bad))
def sFldS(cn f:Str)(fo fe:Fe):Fs:=fun ρ S=>match fe ρ S with
 | .bad=>.bad
 | .exc c S1=>.ex c ρ S1
 | .ok r S1=>(match fo ρ S1 with
  | .bad=>.bad
  | .exc c S2=>.ex c ρ S2
  | .ok (.ref n) S2=>(match S2[n]? with
   | some ob=>if decide (ob.cls=cn)&&decide (ob.fs.length<1000) then .nx ρ (S2.set n (ob.put f false r)) else .bad
   | none=>.bad)
  | .ok _ _=>.bad)
def sFldD(cn f:Str)(i:Nat):Fs:=fun ρ S=>match ρ[i]? with
 | some (some (false,.ref n))=>(match S[n]? with
   | some ob=>if decide (ob.cls=cn)&&decide (ob.fs.length<1000) then .nx ρ (S.set n (ob.put f true (.dic []))) else .bad
   | none=>.bad)
 | _=>.bad
def methOk(c m:Str)(d:D)(S:Sto):Bool:=match d with
 | .ref n=>(match S[n]? with | some ob=>decide (ob.cls=c)&&(ob.fs.lookup m).isNone | none=>false)
 | _=>false
def eMeth(c m:Str)(G:List D->Sto->Out D)(fo:Fe)(fs:List Fe):Fe:=fun ρ S=>(fo ρ S).bind fun d S1=>if methOk c m d S1 then (evalL fs ρ S1).bind fun ds S2=>G (d::ds) S2 else .bad
def eMk(c:Str)(dds:List D)(G:List D->Sto->Out D)(fs:List Fe):Fe:=fun ρ S=>(evalL fs ρ S).bind fun ds S1=>(G (.ref S1.length::(ds++dds)) (S1++[⟨c,[]⟩])).bind fun r S2=>match r with | .non=>.ok (.ref S1.length) S2 | _=>.bad
structure Same'(cl:Cf)(X:Cx):Prop where
 kk:X.K=cl.K
 pp:X.prog=cl.P
 ww:X.w=cl.wo
section
variable{cl:Cf}{cn:Str}{X:Cx}{E:St->XK}{a o e:Expr}{fa fo fe:Fe}{f:Str}{pos apos:Pos}{own:Bool}
theorem nin_i(sm:Same' cl X)(hk:FkOk cl cn f)(σ:St)(H:Hp)(Q:VK)(q:tE cl E (eNin cn f fa fo) σ H Q) :
  tOp (fun x y H Q=>∃kb a k xs m,x=.ref kb/\y=.ref a/\KeyAt H kb k/\H a=some (.ext (DN X.prog X.w a xs))/\Ents H xs m/\Q (.bl (m.lookup k).isNone) H) (tE cl E fa) (tFld X.K (tE cl E fo) f) σ H Q:=by
 obtain ⟨B,w,ρ,S,rfl,R,q⟩:=q
 refine ⟨B,w,ρ,S,rfl,R,?_⟩
 unfold eNin at q
 cases hf:fa ρ S with
 | bad=>rw [hf] at q;exact q
 | exc c S1=>rw [hf] at q;exact q
 | ok dk S1 =>
  rw [hf] at q
  intro v w1 R1 F1 h1
  refine ⟨B,w1,ρ,S1,rfl,R1,?_⟩
  dsimp only [Out.bind] at q
  cases hh:fo ρ S1 with
  | bad=>rw [hh] at q;exact q
  | exc c S2=>rw [hh] at q;exact fun w2 R2 F2=>q w2 R2 (F1.trans F2)
  | ok d S2 =>
   rw [hh] at q
   intro y w2 R2 F2 h2
   dsimp only at q
   cases hn:nkOf dk with
   | none=>rw [hn] at q;exact q.elim
   | some k =>
    cases hd:dicD cn f d S2 with
    | none=>rw [hn,hd] at q;exact q.elim
    | some t =>
     obtain ⟨n,ob,ds⟩:=t
     rw [hn,hd] at q
     dsimp only at q
     obtain ⟨a,dx,fs,c,xs,m,rfl,_,_,_,hH,_,c1,c2,lv,_,hc,he,hs⟩:=at_dic hk R2 h2 hd
     obtain ⟨kb,rfl,ks⟩:=key_at (h1.up F2) hn
     rw [sm.kk]
     refine ⟨a,_,dx,fs,_,rfl,hH,c1,c2,lv,kb,c,k,xs,m,rfl,rfl,ks.at,by rw [sm.pp,sm.ww];exact hc,he.ents,?_⟩
     have:(m.lookup k).isNone=(dlook k ds).isNone:=by
      rcases dl_at hs k with ⟨e1,e2⟩ | ⟨_,_,e1,e2,_⟩<;>rw [e1,e2]<;>rfl
     rw [this]
     exact q _ w2 R2 (F1.trans F2) (.bl _)
theorem se_nin(hu:X.A.units+16<cLine)(sm:Same' cl X)(hk:FkOk cl cn f)(ha:PE X a (tE cl E fa))(ho:PE X o (tE cl E fo))(hb:attributeBase o f X.env (eval o X.env)=eval o X.env)(hm:behindInMarks .NotIn (.Attribute o f apos)=false):PE X (.Compare a [.NotIn] [.Attribute o f apos] pos) (tE cl E (eNin cn f fa fo)) :=
 PE.imp (pe_cmpR (op_nin hu) ha (pe_fld ho hb) hm) (nin_i sm hk)
theorem st_nin(hu:X.A.units+16<cLine)(sm:Same' cl X)(hk:FkOk cl cn f)(ha:PE X a (tE cl E fa))(ho:PE X o (tE cl E fo))(hb:attributeBase o f X.env (eval o X.env)=eval o X.env)(hm:behindInMarks .NotIn (.Attribute o f apos)=false):PT X (.Compare a [.NotIn] [.Attribute o f apos] pos) (tTr cl E (eNin cn f fa fo)) :=
 PT.imp (pt_cmpR (op_nin hu) ha (pe_fld ho hb) hm) fun _ _ _ q=>nin_i sm hk _ _ _ (tTr_tB q)
theorem keyI_at{B:Base}{σ:St}{w:Wd}{ρ:Env}{S:Sto}{i:Nat}{k:NK}(R:Rel cl B σ w ρ S)(h:keyI ρ i=some k):∃kb,σ[i]?=some (some (.ref kb))/\KeyS w kb k:=by
 unfold keyI at h
 split at h
 ·rename_i dk hi
  obtain ⟨v,e,r⟩:=R.slots i false dk hi
  obtain ⟨kb,rfl,ks⟩:=key_at r h
  exact ⟨kb,e,ks⟩
 ·cases h
theorem se_getK{i:Nat}{x:Str}{p:Pos}(hN:X.N[i]?=some x)(hv:Vis X.env.scope x)(hd:(x == ("__debug__":Str))=false)(hcd:(x == ("__classdict__":Str))=false)(hu:X.A.units+16<cLine)(sm:Same' cl X)(hk:FkOk cl cn f)(ho:PE X o (tE cl E fo))(hb:attributeBase o f X.env (eval o X.env)=eval o X.env)(hs:PlainIx (.Name x p)):PE X (.Subscript (.Attribute o f apos) (.Name x p) pos) (tE cl E (eGetK cn f fo i)):=by
 refine PE.imp (pe_ix (ix_get hu) (pe_fld ho hb) (pe_var hN hv hd hcd) hs) ?_
 rintro σ H Q ⟨B,w,ρ,S,rfl,R,q⟩
 refine ⟨B,w,ρ,S,rfl,R,?_⟩
 unfold eGetK at q
 cases hf:fo ρ S with
 | bad=>rw [hf] at q;exact q
 | exc c S1=>rw [hf] at q;exact q
 | ok d S1 =>
  rw [hf] at q
  intro v w1 R1 F1 h1
  dsimp only [Out.bind] at q
  cases hn:keyI ρ i with
  | none=>rw [hn] at q;exact q.elim
  | some k =>
   cases hd:dicD cn f d S1 with
   | none=>rw [hn,hd] at q;exact q.elim
   | some t =>
    obtain ⟨n,ob,ds⟩:=t
    rw [hn,hd] at q
    dsimp only at q
    obtain ⟨a,dx,fs,c,xs,m,rfl,_,_,_,hH,_,c1,c2,lv,_,hc,he,hs⟩:=at_dic hk R1 h1 hd
    obtain ⟨kb,eσ,ks⟩:=keyI_at R1 hn
    cases hl:dlook k ds with
    | none=>rw [hl] at q;exact q.elim
    | some r =>
     rw [hl] at q
     rcases dl_at hs k with ⟨_,e2⟩ | ⟨y,r',e1,e2,sh⟩
     ·rw [hl] at e2;cases e2
     ·rw [hl] at e2;cases e2
      rw [sm.kk]
      exact ⟨a,_,dx,fs,_,rfl,hH,c1,c2,lv,_,eσ,c,kb,k,xs,m,y,rfl,rfl,ks.at,by rw [sm.pp,sm.ww];exact hc,he.ents,e1,q _ w1 R1 F1 sh⟩
theorem ss_putK{i:Nat}{x:Str}{p p3:Pos}(hN:X.N[i]?=some x)(hv:Vis X.env.scope x)(hd:(x == ("__debug__":Str))=false)(hcd:(x == ("__classdict__":Str))=false)(hu:X.A.units+16<cLine)(sm:Same' cl X)(hk:FkOk cl cn f)(ho:PE X o (tE cl E fo))(hb:attributeBase o f X.env (eval o X.env)=eval o X.env)(he:PE X e (tE cl E fe))
  (sw1:swapsWithSole [.Subscript (.Attribute o f apos) (.Name x p) p3] e pos.line X.env=pure false) (sw2:swappedStores [.Subscript (.Attribute o f apos) (.Name x p) p3] e X.env=pure none)
  (ha:∀v,assign (.Subscript (.Attribute o f apos) (.Name x p) p3) X.env v=(do
   let ov ← holding [v] (eval (.Attribute o f apos) X.env)
   let iv ← holding [v,ov] (eval (.Name x p) X.env)
   standAt p3
   holding [v,ov,iv] (setItem ov iv v)
   release [v,ov,iv] [])):PS X (.Assign [.Subscript (.Attribute o f apos) (.Name x p) p3] e pos) (tS cl E own (sPutK cn f fo i fe)):=by
 refine PS.imp (ps_asg he (pg_sub (pe_fld ho hb) (pe_var hN hv hd hcd) (set_put hu) ha) sw1 sw2 rfl) ?_
 rintro De σ H ⟨B,w,ρ,S,rfl,R,q⟩
 refine ⟨B,w,ρ,S,rfl,R,?_⟩
 unfold sPutK at q
 cases hf:fe ρ S with
 | bad=>rw [hf] at q;exact q
 | exc c S1=>rw [hf] at q;exact fun w' R' F'=>q σ w' R' F'
 | ok r S1 =>
  rw [hf] at q
  intro v w1 R1 F1 h1
  dsimp only at q
  refine ⟨B,w1,ρ,S1,rfl,R1,?_⟩
  cases hfo:fo ρ S1 with
  | bad=>rw [hfo] at q;exact q
  | exc c S2=>rw [hfo] at q;exact fun w' R' F'=>q σ w' R' (F1.trans F')
  | ok d S2 =>
   rw [hfo] at q
   intro y w2 R2 F2 h2
   dsimp only at q
   cases hn:keyI ρ i with
   | none=>rw [hn] at q;exact q.elim
   | some k =>
    cases hd:dicD cn f d S2 with
    | none=>rw [hn,hd] at q;exact q.elim
    | some t =>
     obtain ⟨n,ob,ds⟩:=t
     rw [hn,hd] at q
     dsimp only at q
     split at q
     ·rename_i hc0
      rw [Bool.and_eq_true,Bool.and_eq_true] at hc0
      obtain ⟨⟨z1,z2⟩,z3⟩:=hc0
      obtain ⟨a,dx,fs,c,xs,m,rfl,hS,hmu,how,hH,hF,c1,c2,lv,oc,hc,he,hs⟩:=at_dic hk R2 h2 hd
      obtain ⟨kb,eσ,ks⟩:=keyI_at R2 hn
      have hno:m.lookup k=none:=by
       rcases dl_at hs k with ⟨e1,_⟩ | ⟨_,_,_,e2,_⟩
       ·exact e1
       ·rw [e2] at z1;cases z1
      rw [sm.kk]
      refine ⟨a,_,dx,fs,_,rfl,hH,c1,c2,lv,_,eσ,c,kb,k,xs,m,rfl,rfl,ks.at,by rw [sm.pp,sm.ww];exact hc,he.ents,hno,by rw [dl_len hs];exact of_decide_eq_true z2,fun u ru=>?_⟩
      obtain ⟨R3,F3⟩:=R2.setd hS hmu how hH hF lv oc hc he hs ks ru (h1.up F2) z3
      rw [sm.pp,sm.ww]
      exact q σ _ R3 (F1.trans (F2.trans F3))
     ·exact q.elim
theorem ss_fldS(sm:Same' cl X)(hk:FkOk cl cn f)(ho:PE X o (tE cl E fo))(he:PE X e (tE cl E fe))(hs:swapsWith e (some (.Attribute o f apos)) pos.line X.env=pure false):PS X (.Assign [.Attribute o f apos] e pos) (tS cl E own (sFldS cn f fo fe)):=by
 refine PS.imp (ps_fld ho he hs) ?_
 rintro De σ H ⟨B,w,ρ,S,rfl,R,q⟩
 refine ⟨B,w,ρ,S,rfl,R,?_⟩
 unfold sFldS at q
 cases hf:fe ρ S with
 | bad=>rw [hf] at q;exact q
 | exc c S1=>rw [hf] at q;exact fun w' R' F'=>q σ w' R' F'
 | ok r S1 =>
  rw [hf] at q
  intro v w1 R1 F1 h1
  dsimp only at q
  refine ⟨B,w1,ρ,S1,rfl,R1,?_⟩
  cases hfo:fo ρ S1 with
  | bad=>rw [hfo] at q;exact q
  | exc c S2=>rw [hfo] at q;exact fun w' R' F'=>q σ w' R' (F1.trans F')
  | ok d S2 =>
   rw [hfo] at q
   intro y w2 R2 F2 h2
   cases d with
   | ref n =>
    dsimp only at q
    cases hS:S2[n]? with
    | none=>rw [hS] at q;exact q.elim
    | some ob =>
     rw [hS] at q
     dsimp only at q
     split at q
     ·rename_i hc0
      rw [Bool.and_eq_true] at hc0
      obtain ⟨a,dx,fs,rfl,hmu,how,hH,hF⟩:=at_ref R2 h2 hS
      rw [sm.kk]
      refine ⟨a,_,dx,fs,rfl,hH,of_decide_eq_true hc0.1 ▸ hk.1,of_decide_eq_true hc0.1 ▸ hk.2,by rw [hF.len];exact of_decide_eq_true hc0.2,?_⟩
      obtain ⟨R3,F3⟩:=R2.setf (f:=f) hS hmu how hH hF (h1.up F2)
      exact q σ _ R3 (F1.trans (F2.trans F3))
     ·exact q.elim
   | _=>exact q.elim
theorem ss_fldD{i:Nat}{x:Str}{p p2:Pos}(hN:X.N[i]?=some x)(hv:Vis X.env.scope x)(hd:(x == ("__debug__":Str))=false)(hcd:(x == ("__classdict__":Str))=false)(sm:Same' cl X)(hk:FkOk cl cn f)(hs:swapsWith (.Dict [] [] p) (some (.Attribute (.Name x p2) f apos)) pos.line X.env=pure false):PS X (.Assign [.Attribute (.Name x p2) f apos] (.Dict [] [] p) pos) (tS cl E own (sFldD cn f i)):=by
 refine PS.imp (ps_fld (pe_var hN hv hd hcd) pe_dnew hs) ?_
 rintro De σ H ⟨B,w,ρ,S,rfl,R,q⟩
 intro pd hpd
 unfold sFldD at q
 split at q
 ·rename_i n hi
  obtain ⟨v,ev,rv⟩:=R.slots i false _ hi
  cases hS:S[n]? with
  | none=>rw [hS] at q;exact q.elim
  | some ob =>
   rw [hS] at q
   dsimp only at q
   split at q
   ·rename_i hc0
    rw [Bool.and_eq_true] at hc0
    obtain ⟨a,dx,fs,rfl,hmu,how,hH,hF⟩:=at_ref R rv hS
    rw [sm.kk]
    refine ⟨_,ev,a,_,dx,fs,rfl,?_,of_decide_eq_true hc0.1 ▸ hk.1,of_decide_eq_true hc0.1 ▸ hk.2,by rw [hF.len];exact of_decide_eq_true hc0.2,?_⟩
    ·rw [upd_ne (ne_of_none hH hpd)];exact hH
    ·obtain ⟨R3,F3⟩:=R.newf (f:=f) hS hmu how hH hF hpd
     rw [sm.pp,sm.ww]
     exact q σ _ R3 F3
   ·exact q.elim
 ·exact q.elim
end
def tMethS(C:Addr)(m:Str)(sp:Sp)(dvs:List V)(E:St->XK)(ta:TE)(t:TA):TE:=fun σ H Q=>ta σ H fun x H1=>∃a dx fs,x=.ref a/\H1 a=some (.ins C dx fs)/\fs.lookup m=none ∧
 t σ H1 fun vs H2=>sp (x::(vs++dvs)) H2 Q (E σ)
def tMakeS(C:Addr)(sp:Sp)(dvs:List V)(E:St->XK)(t:TA):TE:=fun σ H Q=>t σ H fun vs H1=>∀x dx,H1 x=none->H1 dx=none->dx≠x →
 sp (.ref x::(vs++dvs)) (upd (upd H1 dx (.own x)) x (.ins C dx [])) (fun v H2=>v=.non/\Q (.ref x) H2) (E σ)
section
variable{X:Cx}{CX:CXT}{k:Nat}{f C:Addr}{fd:FuncData}{ps:List Str}{sp:Sp}{dvs:List V}{ds:List Value}{E:St->XK}{x m:Str}{p pos apos:Pos}{e o:Expr}{es:List Expr}{ta:TE}{t:TA}
theorem pe_methS{pl:Sem Bool}(he:PE X o ta)(c:Cls X.K C)(hm:Meth X.K C m f)(F:FnOk X.prog X.w X.K X.mg X.base CX k f fd ps sp)(hr:Room k X.A)(hb:Binds X.K fd ps ds)(hd:Vals dvs ds)(hx:PassesS CX X E)(ha:PA X (e::es) t)
  (hst:starEach (e::es) X.env=(false,eval e X.env)::starEach es X.env) (hpl:(backTo pos (starEach es X.env)).any (·.1)=false)
  (ht:eval (.Call (.Attribute o m apos) (e::es) [] pos) X.env=(do
   let ov ← eval o X.env
   standAt apos.atName
   let (f,first) ← holding [ov] (getMethod ov m pl)
   callWith pos f first (backTo pos (starEach (e::es) X.env)) (backToKw pos (keywordEach [] X.env)))) :
  PE X (.Call (.Attribute o m apos) (e::es) [] pos) (tMethS C m sp dvs E ta t):=by
 intro pins s σ H Q I h
 refine PySem.W.methodCall_KW (pl:=pl) (thn (he pins s σ H _ I h) fun u s1 ⟨x,H1,I1,rx,a,dx,fs,ex,ea,l,q⟩=>?_) ht
 subst ex
 obtain rfl:u=Value.ref a:=rx
 refine getmeth_ok I1 ea c hm l ?_
 refine PySem.W.callWith_K (first:=[.ref a]) (h₀:=X.base) I.ok.mod.kin hm.kp (thn (ha pos pins s1 σ H1 _ I1 q) fun us s2 ⟨vs,H2,I2,r,q2⟩=>⟨I2.kIn,?_⟩) hst hpl
 exact run_fnS (us:=.ref a::us) (vs:=.ref a::vs) F hr hb hd hx I2 (.cons rfl r) q2
theorem pe_meth0S{pl:Sem Bool}(he:PE X o ta)(c:Cls X.K C)(hm:Meth X.K C m f)(F:FnOk X.prog X.w X.K X.mg X.base CX k f fd ps sp)(hr:Room k X.A)(hb:Binds X.K fd ps ds)(hd:Vals dvs ds)(hx:PassesS CX X E)
  (ht:eval (.Call (.Attribute o m apos) [] [] pos) X.env=(do
   let ov ← eval o X.env
   standAt apos.atName
   let (f,first) ← holding [ov] (getMethod ov m pl)
   callWith pos f first (backTo pos (starEach [] X.env)) (backToKw pos (keywordEach [] X.env)))) :
  PE X (.Call (.Attribute o m apos) [] [] pos) (tMethS C m sp dvs E ta tNil):=by
 intro pins s σ H Q I h
 refine PySem.W.methodCall_KW (pl:=pl) (thn (he pins s σ H _ I h) fun u s1 ⟨x,H1,I1,rx,a,dx,fs,ex,ea,l,q⟩=>?_) ht
 subst ex
 obtain rfl:u=Value.ref a:=rx
 refine getmeth_ok I1 ea c hm l ?_
 exact PySem.W.callWith_K0 (first:=[.ref a]) I1.kIn hm.kp (run_fnS (us:=[.ref a]) (vs:=[.ref a]) F hr hb hd hx I1 (.cons rfl .nil) q)
theorem run_makeS{pins:Z3}{σ:St}{H:Hp}{s:Shared}{Q:VK}{us:List Value}{vs:List V}(M:Mk X.K C f)(F:FnOk X.prog X.w X.K X.mg X.base CX k f fd ps sp)(hr:Room (k+1) X.A)(hb:Binds X.K fd ps ds)(hd:Vals dvs ds)
  (hx:PassesS CX X E) (I:Inv X pins σ H s) (r:Vals vs us)
  (h:∀x dx,H x=none->H dx=none->dx≠x->sp (.ref x::(vs++dvs)) (upd (upd H dx (.own x)) x (.ins C dx [])) (fun v H2=>v=.non/\Q (.ref x) H2) (E σ)) :
  wpAny (model X.prog X.w) X.A (call (.ref C) us) (EP X pins σ Q) X.xe s:=by
 have hq:=h (s.heap.objs.size+1) s.heap.objs.size (I.hok.fresh (Nat.le_succ _)) (I.hok.fresh (Nat.le_refl _)) (Nat.ne_of_lt (Nat.lt_succ_self _))
 have I2:=Inv.made (C:=C) I
 have r2:Vals (V.ref (s.heap.objs.size+1)::(vs++dvs)) (Value.ref (s.heap.objs.size+1)::(us++ds)):=.cons rfl (r.append hd)
 have hl:(Value.ref (s.heap.objs.size+1)::us++ds).length=ps.length:=by
  have e:=r2.length
  rw [F.len _ _ _ _ hq] at e
  exact e.symm
 refine wpAny_call (make_map (f:=f) I.kIn M.makes M.init (beq_iff_eq.mp M.fn) (codeAny_mono (F.run _ X.stack _ _ ⟨Value.ref (s.heap.objs.size+1)::us,[]⟩ (Value.ref (s.heap.objs.size+1)::(us++ds)) _ _ (E σ) (hr.make C us [])
  (I2.env0.make C us []) (hb _ (Value.ref (s.heap.objs.size+1)::us) I2.kIn hl) r2 hq) fun r s' hq'=>?_))
 cases r with
 | error e=>exact hx pins σ _ _ e s' I2 hq'
 | ok fl =>
  cases fl with
  | ret u =>
   obtain ⟨v,H',I3,rv,ev,q3⟩:=I2.after hq'
   subst ev
   exact ⟨rv,⟨V.ref (s.heap.objs.size+1),H',I3,rfl,q3⟩⟩
  | next=>exact False.elim hq'
  | brk=>exact False.elim hq'
  | cont=>exact False.elim hq'
theorem pe_makeS(M:Mk X.K C f)(F:FnOk X.prog X.w X.K X.mg X.base CX k f fd ps sp)(hr:Room (k+1) X.A)(hg:Gl X x)(hm:X.mg x=some (.ref C))(hb:Binds X.K fd ps ds)(hd:Vals dvs ds)(hx:PassesS CX X E)
  (ha:PA X (e::es) t) (hdb:(x == ("__debug__":Str))=false) (he:starEach (e::es) X.env=(false,eval e X.env)::starEach es X.env) (hpl:(backTo pos (starEach es X.env)).any (·.1)=false) :
  PE X (.Call (.Name x p) (e::es) [] pos) (tMakeS C sp dvs E t):=by
 intro pins s σ H Q I h
 refine wpAny_Call_Name_kw (ld_glob I hg hm ?_ hdb)
 refine PySem.W.callWith_K (h₀:=X.base) I.ok.mod.kin M.kp (thn (ha pos pins s σ H _ I h) fun us s1 ⟨vs,H1,I1,r,q⟩=>⟨I1.kIn,?_⟩) he hpl
 exact run_makeS M F hr hb hd hx I1 r q
end
section
variable{cl:Cf}{E:St->XK}{fs:List Fe}{fo:Fe}{G:List D->Sto->Out D}{σ:St}{H:Hp}{Q:VK}{n:Nat}{c m:Str}{ρ:Env}
theorem evalL_len:∀{fs:List Fe} {S S1:Sto} {ds:List D},evalL fs ρ S=.ok ds S1->ds.length=fs.length
 | [],S,S1,ds,h=>by cases h;rfl
 | f::fs,S,S1,ds,h=>by
  unfold evalL at h
  cases h1:f ρ S with
  | bad=>rw [h1] at h;cases h
  | exc c S2=>rw [h1] at h;cases h
  | ok d S2 =>
   rw [h1] at h
   dsimp only [Out.bind] at h
   cases h2:evalL fs ρ S2 with
   | bad=>rw [h2] at h;cases h
   | exc c S3=>rw [h2] at h;cases h
   | ok es S3=>rw [h2] at h;cases h;rw [List.length_cons,List.length_cons,evalL_len h2]
theorem meth_at{B:Base}{w:Wd}{S:Sto}{v:V}{d:D}(R:Rel cl B σ w ρ S)(hv:Shd cl w v d)(h:methOk c m d S=true):∃a dx fs,v=.ref a/\w.H a=some (.ins (cl c) dx fs)/\fs.lookup m=none:=by
 unfold methOk at h
 cases d with
 | ref n =>
  dsimp only at h
  cases hS:S[n]? with
  | none=>rw [hS] at h;cases h
  | some ob =>
   rw [hS] at h
   dsimp only at h
   rw [Bool.and_eq_true] at h
   obtain ⟨a,dx,fs,rfl,_,_,hH,hF⟩:=at_ref R hv hS
   have e:=of_decide_eq_true h.1
   subst e
   exact ⟨a,dx,fs,rfl,hH,hF.miss (by simpa using h.2)⟩
 | _=>cases h
theorem meth_E(q:tE cl E (eMeth c m G fo fs) σ H Q)(hn:fs.length+1=n):tMethS (cl c) m (spOf cl n false G) [] E (tE cl E fo) (tAs cl E fs) σ H Q:=by
 obtain ⟨B,w,ρ,S,rfl,R,q⟩:=q
 refine ⟨B,w,ρ,S,rfl,R,?_⟩
 unfold eMeth at q
 cases hfo:fo ρ S with
 | bad=>rw [hfo] at q;exact q
 | exc c S1=>rw [hfo] at q;exact q
 | ok d S0 =>
 rw [hfo] at q
 intro v w0 R0 F0 h0
 dsimp only [Out.bind] at q
 cases hok:methOk c m d S0 with
 | false=>rw [hok] at q;exact q.elim
 | true =>
 rw [hok,if_pos rfl] at q
 obtain ⟨a,dx,fs',rfl,hH,hm⟩:=meth_at R0 h0 hok
 refine ⟨a,dx,fs',rfl,hH,hm,B,w0,ρ,S0,rfl,R0,?_⟩
 cases hf:evalL fs ρ S0 with
 | bad=>rw [hf] at q;exact q
 | exc c S1=>rw [hf] at q;exact fun w1 R1 F1=>q w1 R1 (F0.trans F1)
 | ok ds S1 =>
  rw [hf] at q
  intro vs w1 R1 F1 h1
  dsimp only at q
  refine ⟨?_,w1.base,w1.inn,d::ds,S1,rfl,R1.wd.enter,?_,?_⟩
  ·rw [List.append_nil,List.length_cons,h1.length,evalL_len hf];exact hn
  ·rw [List.append_nil];exact .cons ((h0.up F1).up (fut_inn w1)) (h1.up (fut_inn w1))
  cases hg:G (d::ds) S1 with
  | bad=>rw [hg] at q;exact q
  | exc c S2 =>
   rw [hg] at q
   intro w2 W2 F2
   obtain ⟨R3,F3⟩:=R1.leave W2 F2
   exact q (w1.back w2) R3 (F0.trans (F1.trans F3))
  | ok r S2 =>
   rw [hg] at q
   intro v w2 W2 F2 r2
   obtain ⟨R3,F3⟩:=R1.leave W2 F2
   exact q v (w1.back w2) R3 (F0.trans (F1.trans F3)) (Shd.up (fut_back W2) r2)
theorem meth_N(q:tN cl E (eMeth c m G fo fs) σ H Q)(hn:fs.length+1=n):tMethS (cl c) m (spOf cl n true G) [] E (tE cl E fo) (tAs cl E fs) σ H Q:=by
 obtain ⟨B,w,ρ,S,rfl,R,q⟩:=q
 refine ⟨B,w,ρ,S,rfl,R,?_⟩
 unfold eMeth at q
 cases hfo:fo ρ S with
 | bad=>rw [hfo] at q;exact q
 | exc c S1=>rw [hfo] at q;exact q
 | ok d S0 =>
 rw [hfo] at q
 intro v w0 R0 F0 h0
 dsimp only [Out.bind] at q
 cases hok:methOk c m d S0 with
 | false=>rw [hok] at q;exact q.elim
 | true =>
 rw [hok,if_pos rfl] at q
 obtain ⟨a,dx,fs',rfl,hH,hm⟩:=meth_at R0 h0 hok
 refine ⟨a,dx,fs',rfl,hH,hm,B,w0,ρ,S0,rfl,R0,?_⟩
 cases hf:evalL fs ρ S0 with
 | bad=>rw [hf] at q;exact q
 | exc c S1=>rw [hf] at q;exact fun w1 R1 F1=>q w1 R1 (F0.trans F1)
 | ok ds S1 =>
  rw [hf] at q
  intro vs w1 R1 F1 h1
  dsimp only at q
  refine ⟨?_,w1.base,w1.inn,d::ds,S1,rfl,R1.wd.enter,?_,?_⟩
  ·rw [List.append_nil,List.length_cons,h1.length,evalL_len hf];exact hn
  ·rw [List.append_nil];exact .cons ((h0.up F1).up (fut_inn w1)) (h1.up (fut_inn w1))
  cases hg:G (d::ds) S1 with
  | bad=>rw [hg] at q;exact q
  | exc c S2 =>
   rw [hg] at q
   intro w2 W2 F2
   obtain ⟨R3,F3⟩:=R1.leave W2 F2
   exact q (w1.back w2) R3 (F0.trans (F1.trans F3))
  | ok r S2 =>
   rw [hg] at q
   intro v w2 W2 F2 r2
   obtain ⟨R3,F3⟩:=R1.leave W2 F2
   obtain ⟨a,o,i,rfl,k1,k2,t⟩:=r2
   have hfr:w1.base.Fr a=none:=(W2.own a _ k1).elim (fun z=>by cases z) fun z=>z
   have k3:(w1.back w2).ow a=some .far:=by
    show (if (w1.base.Fr a).isSome=true then w1.ow a else Root.out (w2.ow a))=_
    rw [hfr,k1];rfl
   have hb:B.Fr a=none:=by
    cases z:B.Fr a with
    | none=>rfl
    | some u=>rw [base_of R1.wd z] at hfr;cases hfr
   have hd:=fut_del (w:=w1.back w2) (a:=a) (by rw [k3];exact Option.some_ne_none _)
   have:=q a o ((w1.back w2).del a) (R3.del k3 hb) (F0.trans (F1.trans (F3.trans hd))) (if_pos rfl) ((t.up (fut_back W2)).up hd)
   rw [upd_del (w:=w1.back w2) k2] at this
   exact this
theorem mk_E{dds:List D}{dvs:List V}(hdv:∀w,Shds cl w dvs dds)(q:tE cl E (eMk c dds G fs) σ H Q)(hn:fs.length+dds.length+1=n):tMakeS (cl c) (spOf cl n false G) dvs E (tAs cl E fs) σ H Q:=by
 obtain ⟨B,w,ρ,S,rfl,R,q⟩:=q
 refine ⟨B,w,ρ,S,rfl,R,?_⟩
 unfold eMk at q
 cases hf:evalL fs ρ S with
 | bad=>rw [hf] at q;exact q
 | exc c S1=>rw [hf] at q;exact q
 | ok ds S1 =>
  rw [hf] at q
  intro vs w1 R1 F1 h1
  dsimp only [Out.bind] at q
  intro x dx hx hdx ne
  obtain ⟨R2,F2⟩:=R1.made (c:=c) hx hdx ne
  have hmu:(w1.addO x dx (cl c) S1.length).mu[S1.length]?=some x:=by
   show (w1.mu++[x])[S1.length]?=some x
   rw [List.getElem?_append_right (by rw [R1.wd.len];exact Nat.le_refl _),R1.wd.len,Nat.sub_self];rfl
  refine ⟨?_,(w1.addO x dx (cl c) S1.length).base,(w1.addO x dx (cl c) S1.length).inn,.ref S1.length::(ds++dds),S1++[⟨c,[]⟩],rfl,R2.wd.enter,?_,?_⟩
  ·rw [List.length_cons,List.length_append,h1.length,evalL_len hf,(hdv w1).length];exact hn
  ·exact .cons (.ref hmu) (((h1.up F2).up (fut_inn _)).append (hdv _))
  cases hg:G (.ref S1.length::(ds++dds)) (S1++[⟨c,[]⟩]) with
  | bad=>rw [hg] at q;exact q
  | exc c S2 =>
   rw [hg] at q
   intro w2 W2 F3
   obtain ⟨R3,F4⟩:=R2.leave W2 F3
   exact q ((w1.addO x dx _ S1.length).back w2) R3 (F1.trans (F2.trans F4))
  | ok r S2 =>
   rw [hg] at q
   intro v w2 W2 F3 r2
   cases r with
   | non =>
    obtain ⟨R3,F4⟩:=R2.leave W2 F3
    refine ⟨by cases r2;rfl,q (.ref x) ((w1.addO x dx _ S1.length).back w2) R3 (F1.trans (F2.trans F4)) (.ref (F4.mu _ _ hmu))⟩
   | _=>exact q.elim
end
end S2
namespace L2
open PySem PySem.Spec PyProof.Rows
section
variable{X:Cx}
def bestI(ns:List Int):Nat:=argBest (fun i j=>decide (ns.getD i 0<ns.getD j 0)) (ns.length-1)
def minI(ns:List Int):Int:=ns.getD (bestI ns) 0
end
end L2
namespace S2
open PySem PySem.Spec PyProof.Rows L2
def augI:Operator->Option (Int->Int->Int) | .Add=>some (·+·) | .Sub=>some (· - ·) | _=>none
def sAug(i:Nat)(g:Int->Int->Int)(fe:Fe):Fs:=fun ρ S=>match ρ[i]? with
 | some (some (false,.int a))=>(match fe ρ S with
  | .ok (.int b) S1=>.nx (ρ.set i (some (false,.int (g a b)))) S1
  | .ok _ _=>.bad
  | .exc c S1=>.ex c ρ S1
  | .bad=>.bad)
 | _=>.bad
def lrD:D->Option D | .int n=>if decide (0<=n/\n<=1000) then some (.lst ((List.range n.toNat).map fun (i:Nat)=>D.int (i:Int))) else none | _=>none
section
variable{cl:Cf}{X:Cx}{E:St->XK}{e:Expr}{fe f:Fe}{pos:Pos}{own:Bool}
theorem ss_aug{i:Nat}{x:Str}{op:Operator}{g:Int->Int->Int}{p:Pos}(hop:augI op=some g)(hN:X.N.Nodup)(hi:X.N[i]?=some x)(hx:Loc X.env.scope x)(he:PE X e (tE cl E fe))(hf:X.fn x=true\/X.env.scope.names.lookup x=some .local):PS X (.AugAssign (.Name x p) op e pos) (tS cl E own (sAug i g fe)):=by
 have main:∀ti:TIp,PIp X op ti->(∀a b H Q,Q (.int (g a b)) H->ti (.int a) (.int b) H Q)->PS X (.AugAssign (.Name x p) op e pos) (tS cl E own (sAug i g fe)):=by
  intro ti ho hti
  refine PS.imp (ps_aug hN hi hx he ho hf) ?_
  rintro De σ H ⟨B,w,ρ,S,rfl,R,q⟩
  unfold sAug at q
  split at q
  ·rename_i a ha
   obtain ⟨v,ev,rv⟩:=R.slots i false _ ha
   have rv':Shd cl w v (.int a):=rv
   cases rv'
   refine ⟨_,ev,B,w,ρ,S,rfl,R,?_⟩
   cases hfe:fe ρ S with
   | bad=>rw [hfe] at q;exact q
   | exc c S1=>rw [hfe] at q;exact fun w' R' F'=>q σ w' R' F'
   | ok d S1 =>
    rw [hfe] at q
    intro y w1 R1 F1 h1
    cases d with
    | int b =>
     cases h1
     exact hti a b _ _ (q _ w1 (R1.put (.int _)) F1)
    | _=>exact q.elim
  ·exact q.elim
 cases op<;>simp [augI] at hop<;>subst hop
 ·exact main rAdd in_add fun a b H Q q=>⟨a,b,rfl,rfl,q⟩
 ·exact main rSub in_sub fun a b H Q q=>⟨a,b,rfl,rfl,q⟩
theorem ints_shds{w:Wd}:∀l:List Nat,Shds cl w (l.map fun (i:Nat)=>V.int (i:Int)) (l.map fun (i:Nat)=>D.int (i:Int))
 | []=>.nil
 | a::l=>.cons (.int _) (ints_shds l)
theorem boot_listW:bootBuiltins "list" = some (.type "list"):=by decide +kernel
theorem se_lr{p p2 pos2:Pos}(hc:X.calm=true)(hg:Gl X "list")(hm:X.mg "list" = none)(hg2:Gl X "range")(hm2:X.mg "range" = none)(he:PE X e (tE cl E f))(hs:starEach [e] X.env=[(false,eval e X.env)]) :
  PE X (.Call (.Name "list" p) [.Call (.Name "range" p2) [e] [] pos2] [] pos) (tN cl E (eUn lrD f)):=by
 refine PE.imp (pe_callTy (call_list_rng hc) hg hm boot_listW (pa_cons (pe_rng hg2 hm2 (sa_cons he sa_nil hs) hs) pa_nil)) ?_
 rintro σ H Q ⟨B,w,ρ,S,rfl,R,q⟩
 refine ⟨B,w,ρ,S,rfl,R,?_⟩
 unfold eUn at q
 cases hf:f ρ S with
 | bad=>rw [hf] at q;exact q.elim
 | exc c S1=>rw [hf] at q;simp only [evalL,hf,Out.bind];exact q
 | ok d S1 =>
  rw [hf] at q
  simp only [evalL,hf,Out.bind]
  intro vs w1 R1 F1 sh
  dsimp only [Out.bind] at q
  cases hl:lrD d with
  | none=>rw [hl] at q;exact q.elim
  | some r =>
   rw [hl] at q
   unfold lrD at hl
   split at hl
   ·rename_i n
    split at hl
    ·rename_i hz
     cases hl
     have hz':=of_decide_eq_true hz
     cases sh with
     | cons h1 hn =>
      cases hn
      cases h1
      refine ⟨n,rfl,hz'.1,hz'.2,fun pr hpr=>⟨pr,n.toNat,rfl,?_,by omega,fun l hl=>?_⟩⟩
      ·rw [show ((n.toNat:Nat):Int)=n by omega];exact upd_same
      ·exact q l _ (w1.add pr (.rng 0 n)) (R1.grow (grow_add hpr _)) (F1.trans (grow_add hpr _).fut) hl (.lst (ints_shds _))
    ·cases hl
   ·cases hl
theorem op_is_bl:OpR X (compareOp .Is) (fun x y H Q=>∃i j,x=.bl i/\y=.bl j/\Q (.bl (decide (i=j))) H):=by
 intro pins s σ H x y v u Q I rx ry h
 obtain ⟨i,j,rfl,rfl,q⟩:=h
 cases rx
 cases ry
 refine wpAny_is_plain (by rfl) ?_
 refine ⟨.bl (decide (i=j)),H,I,?_,q⟩
 show _=Value.bool _
 congr 1
 cases i<;>cases j<;>rfl
def isbD:D->D->Option D | .bl a,.bl b=>some (.bl (decide (a=b))) | _,_=>none
theorem od_isb:OpD X cl (compareOp .Is) isbD:=by
 intro pins s σ H x y v u Q I rx ry h
 obtain ⟨w,d,e,r,rfl,hx,hy,hg,q⟩:=h
 unfold isbD at hg
 split at hg
 ·cases hg
  obtain rfl:=hx.blI
  obtain rfl:=hy.blI
  exact op_is_bl pins s σ w.H _ _ v u Q I rx ry ⟨_,_,rfl,rfl,q _ w (Grow.refl _) (.bl _)⟩
 ·cases hg
def minLD:List D->Option D
 | [.lst l]=>(intsOf l).bind fun ns=>if ns.isEmpty then none else some (.int (minI ns))
 | ds=>minD ds
end
end S2
namespace S2
open PySem PySem.Spec PyProof.Rows L2
structure FnI where
 ar:Nat
 own:Bool
 run:List D->Sto->Out D
structure ObE where
 cur:Str
 fk:Str->Str->Bool
 df:Str->Bool
 mt:Str->Option (Str×FnI)
 mks:Str->Option (List D×FnI)
structure Genv where
 con:Str->Option D
 fn:Str->Option FnI
 blt:Str->Bool
 exc:Str->Bool
 und:Str->Str->Bool
 isx:Str->Str->Option Bool
 ob:ObE
abbrev bmV:List Value:=[.type "ValueError",.type "Exception",.type "BaseException",.type "object"]
structure GOk(cl:Cf)(G:Genv)(P:Program)(wo:PySem.World)(K:PySem.W.Frag)(mg:Z6)(base:Heap)(k:Nat):Prop where
 con:∀x d,G.con x=some d->∃v u,mg x=some u/\RelV v u/\∀w,Shd cl w v d
 fn:∀x fi,G.fn x=some fi->∃f fd ps,mg x=some (.ref f)/\PySem.W.keepIn K (.ref f)=true/\Binds K fd ps []/\FnOk P wo K mg base (CXE P wo) k f fd ps (spOf cl fi.ar fi.own fi.run)
 blt:∀x,G.blt x=true->mg x=none
 exc:∀c,G.exc c=true->mg c=some (.ref (cl c))/\PySem.W.excIn K (cl c) bmV "ValueError.__new__" = true
 und:∀c C,G.und c C=true->L2.Under K (cl c) (cl C)
 isx:∀c C b,G.isx c C=some b->PySem.W.ExcCls K (cl c)/\PySem.W.kitOne K (.ref (cl c)) (clsV cl C)=some b
 fk:∀c f,G.ob.fk c f=true->FkOk cl c f
 mt:∀m c fi,G.ob.mt m=some (c,fi)->∃f fd ps,Cls K (cl c)/\Meth K (cl c) m f/\Binds K fd ps []/\FnOk P wo K mg base (CXE P wo) k f fd ps (spOf cl fi.ar fi.own fi.run)
 mks:∀c dds fi,G.ob.mks c=some (dds,fi)->∃f fd ps dvs ds k',k'+1<=k/\mg c=some (.ref (cl c))/\Mk K (cl c) f/\Binds K fd ps []/\Binds K fd ps ds/\Vals dvs ds/\(∀w,Shds cl w dvs dds)/\FnOk P wo K mg base (CXE P wo) k' f fd ps (spOf cl fi.ar false fi.run)
abbrev Names:=List (Str×NameKind)
structure Gx(cl:Cf)(G:Genv)(k:Nat)(X:Cx)(nm:Names)(N:List Str)(E:St->XK):Prop where
 gok:GOk cl G X.prog X.w X.K X.mg X.base k
 room:Room k X.A
 calm:X.calm=true
 pass:PassesS (CXE X.prog X.w) X E
 eN:X.N=N
 kk:X.K=cl.K
 pp:X.prog=cl.P
 ww:X.w=cl.wo
 nd:N.Nodup
 vis:∀x kd,nm.lookup x=some kd->∃kd',X.env.scope.names.lookup x=some kd'/\(kd'=kd\/(kd=.free/\kd'=.cell))
 fnx:∀x,nm.lookup x=some .local->X.env.scope.names.lookup x=some .local
def idx:List Str->Str->Option Nat
 | [],_=>none
 | y::l,x=>if y=x then some 0 else (idx l x).map (·+1)
theorem idx_get:∀{N:List Str} {x:Str} {i:Nat},idx N x=some i->N[i]?=some x
 | y::l,x,i,h=>by
  unfold idx at h
  split at h
  ·rename_i e;cases h;rw [e];rfl
  ·cases hr:idx l x with
   | none=>rw [hr] at h;cases h
   | some j=>rw [hr] at h;cases h;simpa using idx_get hr
def okName(x:Str):Bool:=!(x == ("__debug__":Str))&&!(x == ("__classdict__":Str))&&!decide (x = "__name__")
theorem okName_ok{x:Str}(h:okName x=true):(x == ("__debug__":Str))=false/\(x == ("__classdict__":Str))=false/\x ≠ "__name__":=by
 unfold okName at h
 simp only [Bool.and_eq_true,Bool.not_eq_true',decide_eq_false_iff_not] at h
 exact ⟨h.1.1,h.1.2,h.2⟩
def isVis:Option NameKind->Bool | some .local=>true | some .cell=>true | some .free=>true | _=>false
def slotOf(nm:Names)(N:List Str)(x:Str):Option Nat:=if isVis (nm.lookup x)&&okName x then idx N x else none
def isGlob(nm:Names)(x:Str):Bool:=decide (nm.lookup x=some .globalImplicit)&&okName x
section
variable{cl:Cf}{G:Genv}{k:Nat}{X:Cx}{nm:Names}{N:List Str}{E:St->XK}
theorem Gx.slot(g:Gx cl G k X nm N E){x:Str}{i:Nat}(h:slotOf nm N x=some i):X.N[i]?=some x/\Vis X.env.scope x/\(x == ("__debug__":Str))=false/\(x == ("__classdict__":Str))=false:=by
 unfold slotOf at h
 split at h
 ·rename_i hv
  rw [Bool.and_eq_true] at hv
  obtain ⟨h1,h2,_⟩:=okName_ok hv.2
  refine ⟨by rw [g.eN];exact idx_get h,?_,h1,h2⟩
  cases hk:nm.lookup x with
  | none=>rw [hk] at hv;exact absurd hv.1 (by decide)
  | some kd =>
   obtain ⟨kd',e,z⟩:=g.vis x kd hk
   rw [hk] at hv
   unfold Vis
   rw [e]
   rcases z with rfl | ⟨_,rfl⟩
   ·cases kd'<;>first | exact .inl rfl | exact .inr (.inl rfl) | exact .inr (.inr rfl) | exact absurd hv.1 (by decide)
   ·exact .inr (.inl rfl)
 ·cases h
theorem Gx.glob(g:Gx cl G k X nm N E){x:Str}(h:isGlob nm x=true):Gl X x/\(x == ("__debug__":Str))=false/\x ≠ "__name__":=by
 unfold isGlob at h
 rw [Bool.and_eq_true] at h
 obtain ⟨h1,_,h3⟩:=okName_ok h.2
 obtain ⟨kd',e,z⟩:=g.vis x _ (of_decide_eq_true h.1)
 rcases z with rfl | ⟨z,_⟩
 ·exact ⟨e,h1,h3⟩
 ·cases z
end
abbrev Rec:=Names->List Str->Expr->Option (Bool×Fe)
def okE:Expr->Bool | .Starred _ _=>false | .Set _ _ _=>false | _=>true
theorem okE_plain{e:Expr}(h:okE e=true):plainE e=true:=by cases e<;>first | rfl | cases h
theorem okE_marks{e:Expr}{op:CmpOp}(h:okE e=true):behindInMarks op e=false:=by cases e<;>first | rfl | cases h
theorem okE_fold{e:Expr}{env:PySem.Env}(h:okE e=true)(v:Value):foldedSetIterable e env v=pure v:=by cases e<;>first | rfl | cases h
def testable:Expr->Bool | .IfExp _ _ _ _=>false | _=>true
def Sound(cl:Cf)(G:Genv)(k:Nat)(rc:Rec):Prop:=∀(X:Cx) (nm:Names) (N:List Str) (E:St->XK),Gx cl G k X nm N E->∀(e:Expr) (o:Bool) (f:Fe),rc nm N e=some (o,f) →
 (o=true->PE X e (tN cl E f))/\PE X e (tE cl E f)/\(testable e=true->PT X e (tTr cl E f))/\okE e=true
def shE(rc:Rec)(nm:Names)(N:List Str)(e:Expr):Option Fe:=(rc nm N e).map (·.2)
def opE(rc:Rec)(nm:Names)(N:List Str)(e:Expr):Option Fe:=match e with
 | .Name x _=>(match slotOf nm N x with | some i=>some (eBor i) | none=>shE rc nm N e)
 | _=>shE rc nm N e
def shL(rc:Rec)(nm:Names)(N:List Str):List Expr->Option (List Fe)
 | []=>some []
 | e::es=>(shE rc nm N e).bind fun f=>(shL rc nm N es).bind fun fs=>some (f::fs)
def opL(rc:Rec)(nm:Names)(N:List Str):List Expr->Option (List Fe)
 | []=>some []
 | e::es=>(opE rc nm N e).bind fun f=>(opL rc nm N es).bind fun fs=>some (f::fs)
section
variable{cl:Cf}{G:Genv}{k:Nat}{rc:Rec}{X:Cx}{nm:Names}{N:List Str}{E:St->XK}
theorem sh_ok(hs:Sound cl G k rc)(g:Gx cl G k X nm N E){e:Expr}{f:Fe}(h:shE rc nm N e=some f):PE X e (tE cl E f)/\(testable e=true->PT X e (tTr cl E f))/\okE e=true:=by
 unfold shE at h
 cases hr:rc nm N e with
 | none=>rw [hr] at h;cases h
 | some p =>
  obtain ⟨o,f'⟩:=p
  rw [hr] at h;cases h
  obtain ⟨_,h2,h3,h4⟩:=hs X nm N E g e o _ hr
  exact ⟨h2,h3,h4⟩
theorem op_ok(hs:Sound cl G k rc)(g:Gx cl G k X nm N E){e:Expr}{f:Fe}(h:opE rc nm N e=some f):PE X e (tH cl E f)/\okE e=true:=by
 unfold opE at h
 split at h
 ·rename_i x pos
  split at h
  ·rename_i i hi
   cases h
   obtain ⟨h1,h2,h3,h4⟩:=g.slot hi
   exact ⟨se_bor h1 h2 h3 h4,rfl⟩
  ·obtain ⟨h1,_,h3⟩:=sh_ok hs g h
   exact ⟨se_hold h1,h3⟩
 ·obtain ⟨h1,_,h3⟩:=sh_ok hs g h
  exact ⟨se_hold h1,h3⟩
theorem shL_ok(hs:Sound cl G k rc)(g:Gx cl G k X nm N E):∀{es:List Expr} {fs:List Fe},shL rc nm N es=some fs->PA X es (tAs cl E fs)/\es.all plainE=true/\fs.length=es.length
 | [],fs,h=>by cases h;exact ⟨sa_nil,rfl,rfl⟩
 | e::es,fs,h=>by
  unfold shL at h
  cases h1:shE rc nm N e with
  | none=>rw [h1] at h;cases h
  | some f =>
   rw [h1] at h
   cases h2:shL rc nm N es with
   | none=>rw [h2] at h;cases h
   | some fs' =>
    rw [h2] at h;cases h
    obtain ⟨a1,_,a3⟩:=sh_ok hs g h1
    obtain ⟨b1,b2,b3⟩:=shL_ok hs g h2
    exact ⟨sa_cons a1 b1 (star1 (okE_plain a3)),by rw [List.all_cons,okE_plain a3,b2];rfl,by rw [List.length_cons,List.length_cons,b3]⟩
theorem opL_ok(hs:Sound cl G k rc)(g:Gx cl G k X nm N E):∀{es:List Expr} {fs:List Fe},opL rc nm N es=some fs->PA X es (tHs cl E fs)/\es.all plainE=true/\fs.length=es.length
 | [],fs,h=>by cases h;exact ⟨sh_nil,rfl,rfl⟩
 | e::es,fs,h=>by
  unfold opL at h
  cases h1:opE rc nm N e with
  | none=>rw [h1] at h;cases h
  | some f =>
   rw [h1] at h
   cases h2:opL rc nm N es with
   | none=>rw [h2] at h;cases h
   | some fs' =>
    rw [h2] at h;cases h
    obtain ⟨a1,a3⟩:=op_ok hs g h1
    obtain ⟨b1,b2,b3⟩:=opL_ok hs g h2
    exact ⟨sh_cons a1 b1 (star1 (okE_plain a3)),by rw [List.all_cons,okE_plain a3,b2];rfl,by rw [List.length_cons,List.length_cons,b3]⟩
end
def conD:Const->Option D
 | .int i=>some (.int i)
 | .bool b=>some (.bl b)
 | .none=>some .non
 | .str x=>some (.str x)
 | _=>none
def binG:Operator->Option (D->D->Option D)
 | .Add=>some addD | .Sub=>some subD | .Mult=>some mulD | .Mod=>some modD | .FloorDiv=>some divD | _=>none
def isNoneE:Expr->Bool | .Constant .none _ _=>true | _=>false
def isBoolE:Expr->Bool | .Constant (.bool _) _ _=>true | _=>false
def ltD:=cmpI fun i j=>decide (i<j)
def leD:=cmpI fun i j=>decide (i<=j)
def gtD:=cmpI fun i j=>decide (j<i)
def geD:=cmpI fun i j=>decide (j<=i)
def cmpG:CmpOp->Expr->Option (D->D->Option D)
 | .Eq,_=>some eqD | .NotEq,_=>some neD | .Lt,_=>some ltD | .LtE,_=>some leD | .Gt,_=>some gtD | .GtE,_=>some geD | .In,_=>some inD | .NotIn,_=>some ninD
 | .Is,b=>if isNoneE b then some isnD else if isBoolE b then some isbD else none
 | .IsNot,b=>if isNoneE b then some notnD else if isBoolE b then some notbD else none
def boolG(rc:Rec)(nm:Names)(N:List Str)(op:BoolOp):List Expr->Option Fe
 | []=>none
 | [a]=>if testable a then shE rc nm N a else none
 | a::b::r=>if testable a then (shE rc nm N a).bind fun f=>(boolG rc nm N op (b::r)).bind fun h=>some (match op with | .And=>eAnd f h | .Or=>eOr f h) else none
structure BI where
 g:List D->Option D
 nw:Bool
def bltOf(x:Str):Option BI :=
 if x = "len" then some ⟨lenD,false⟩
 else if x = "all" then some ⟨allD,false⟩
 else if x = "sum" then some ⟨sumD,false⟩
 else if x = "tuple" then some ⟨tupleD,false⟩
 else if x = "list" then some ⟨listD,true⟩
 else none
def tyOf(x:Str):Option String:=if x = "int" then some "int" else if x = "bool" then some "bool" else if x = "tuple" then some "tuple" else if x = "str" then some "str" else if x = "list" then some "list" else none
def callG(G:Genv)(rc:Rec)(nm:Names)(N:List Str)(x:Str)(args:List Expr):Option (Bool×Fe) :=
 if isGlob nm x then
  match G.fn x with
  | some fi=>if args.length=fi.ar then (shL rc nm N args).bind fun fs=>some (fi.own,eFn fi.run fs) else none
  | none=>if G.blt x then
    (if x = "isinstance" then (match args with
     | [a,.Name t _]=>if isGlob nm t&&G.blt t&&(tyOf t).isSome then (tyOf t).bind fun T=>(opE rc nm N a).bind fun f=>some (false,eUn (instD T) f)
      else none
     | _=>none)
    else match args with
     | []=>none
     | _::_=>(bltOf x).bind fun bi=>(opL rc nm N args).bind fun fs=>some (bi.nw,eCall bi.g fs)) else none
 else none
def isTupE:Expr->Bool | .Tuple _ _ _=>true | _=>false
def iterG(G:Genv)(rc:Rec)(nm:Names)(N:List Str)(tg e:Expr):Option Fi:=match e with
 | .Call (.Name x p) args [] pos=>if x = "range" then (if isGlob nm x&&G.blt x then (match args with
   | [a]=>(shE rc nm N a).bind fun f=>some (eRng1 f)
   | [a,b]=>(shE rc nm N a).bind fun f=>(shE rc nm N b).bind fun h=>some (eRng2 f h)
   | _=>none) else none)
  else if x = "enumerate" then (if isGlob nm x&&G.blt x&&isTupE tg then (match args with
   | [a]=>(shE rc nm N a).bind fun f=>some (eEnum f)
   | _=>none) else none)
  else if x = "zip" then (if isGlob nm x&&G.blt x&&isTupE tg then (match args with
   | [a,b]=>(shE rc nm N a).bind fun f=>(shE rc nm N b).bind fun h=>some (eZip f h)
   | _=>none) else none)
  else (shE rc nm N e).map eItemsA
 | _=>(shE rc nm N e).map eItemsA
def spA1:Expr->Option (Str×Expr×Pos×Pos) | .Call (.Name y p) [a] [] q=>some (y,a,p,q) | _=>none
def spA:List Expr->Option (Str×Expr×Pos×Pos) | [e]=>spA1 e | _=>none
theorem spA_eq{args:List Expr}{c:Str×Expr×Pos×Pos}(h:spA args=some c):args=[.Call (.Name c.1 c.2.2.1) [c.2.1] [] c.2.2.2]:=by
 match args,h with
 | [e],h =>
  have h':spA1 e=some c:=h
  unfold spA1 at h'
  split at h'
  ·cases h';rfl
  ·cases h'
def spG(G:Genv)(rc:Rec)(nm:Names)(N:List Str)(x:Str)(args:List Expr):Option (Bool×Fe):=(spA args).bind fun c =>
 if decide (x = "list")&&decide (c.1 = "range")&&isGlob nm "list" && G.blt "list" && isGlob nm "range" && G.blt "range" then (shE rc nm N c.2.1).map fun f=>(true,eUn lrD f)
 else none
section
variable{cl:Cf}{G:Genv}{k:Nat}{rc:Rec}{X:Cx}{nm:Names}{N:List Str}{E:St->XK}
theorem Gx.units(g:Gx cl G k X nm N E):X.A.units+64<cLine:=g.room.units
theorem bin_ok{op:Operator}{gg:D->D->Option D}(h:binG op=some gg):OpD X cl (binaryOp op) gg:=by
 cases op<;>simp [binG] at h<;>subst h
 ·exact od_add
 ·exact od_sub
 ·exact od_mul
 ·exact od_mod
 ·exact od_div
theorem cmp_ok(g:Gx cl G k X nm N E){op:CmpOp}{b:Expr}{gg:D->D->Option D}(h:cmpG op b=some gg):OpD X cl (compareOp op) gg:=by
 cases op<;>simp only [cmpG] at h
 ·cases h;exact od_eq g.kk g.units
 ·cases h;exact od_ne g.kk g.units
 ·cases h;exact od_cmpI op_lt
 ·cases h;exact od_cmpI op_le
 ·cases h;exact od_cmpI op_gt
 ·cases h;exact od_cmpI op_ge
 ·split at h
  ·cases h;exact od_isn
  ·split at h
   ·cases h;exact od_isb
   ·cases h
 ·split at h
  ·cases h;exact od_notn
  ·split at h
   ·cases h;exact od_notb
   ·cases h
 ·cases h;exact od_in g.kk g.units
 ·cases h;exact od_nin g.kk g.units
theorem bool_ok(hs:Sound cl G k rc)(g:Gx cl G k X nm N E){op:BoolOp}{pos:Pos}:∀{es:List Expr} {f:Fe},boolG rc nm N op es=some f->PE X (.BoolOp op es pos) (tE cl E f)/\PW X (.BoolOp op es pos) (tTr cl E f)
 | [],f,h=>by cases h
 | [a],f,h=>by
  unfold boolG at h
  split at h
  ·rename_i ht
   obtain ⟨h1,h2,_⟩:=sh_ok hs g h
   refine ⟨pe_one h1,?_⟩
   cases op with
   | And=>exact pw_and1 (h2 ht)
   | Or=>exact pw_or1 (h2 ht)
  ·cases h
 | a::b::r,f,h=>by
  unfold boolG at h
  split at h
  ·rename_i ht
   cases h1:shE rc nm N a with
   | none=>rw [h1] at h;cases h
   | some fa =>
    rw [h1] at h
    cases h2:boolG rc nm N op (b::r) with
    | none=>rw [h2] at h;cases h
    | some fb =>
     rw [h2] at h
     obtain ⟨a1,a2,_⟩:=sh_ok hs g h1
     obtain ⟨b1,b2⟩:=bool_ok hs g (pos:=pos) h2
     cases op with
     | And=>cases h;exact ⟨se_and a1 b1,sw_and (a2 ht) b2⟩
     | Or=>cases h;exact ⟨se_or a1 b1,sw_or (a2 ht) b2⟩
  ·cases h
theorem boot_all:bootBuiltins "all" = some (.builtin "all"):=by decide +kernel
theorem boot_tuple:bootBuiltins "tuple" = some (.type "tuple"):=by decide +kernel
theorem boot_list:bootBuiltins "list" = some (.type "list"):=by decide +kernel
theorem boot_int:bootBuiltins "int" = some (.type "int"):=by decide +kernel
theorem boot_bool:bootBuiltins "bool" = some (.type "bool"):=by decide +kernel
theorem boot_max:bootBuiltins "max" = some (.builtin "max"):=by decide +kernel
theorem boot_min:bootBuiltins "min" = some (.builtin "min"):=by decide +kernel
theorem boot_abs:bootBuiltins "abs" = some (.builtin "abs"):=by decide +kernel
theorem boot_str:bootBuiltins "str" = some (.type "str"):=by decide +kernel
theorem blt_ok(g:Gx cl G k X nm N E){x:Str}{bi:BI}{e:Expr}{es:List Expr}{fs:List Fe}{p pos:Pos}(h:bltOf x=some bi)(hg:isGlob nm x=true)(hb:G.blt x=true)(ha:PA X (e::es) (tHs cl E fs))(hp:(e::es).all plainE=true) :
  (bi.nw=true->PE X (.Call (.Name x p) (e::es) [] pos) (tN cl E (eCall bi.g fs)))/\PE X (.Call (.Name x p) (e::es) [] pos) (tE cl E (eCall bi.g fs)):=by
 obtain ⟨g1,g2,g3⟩:=g.glob hg
 have m:=g.gok.blt x hb
 rw [List.all_cons,Bool.and_eq_true] at hp
 have st:=star1 (es:=es) (env:=X.env) hp.1
 have pl:=plain_any (pos:=pos) (env:=X.env) hp.2
 have D1:∀{id:String} {gg:List D->Option D},CallD X cl (.builtin id) gg->bootBuiltins x=some (.builtin id)->PE X (.Call (.Name x p) (e::es) [] pos) (tE cl E (eCall gg fs)):=fun hc hv =>
  PE.imp (pe_callB hc g1 m hv ha g3 g2 st pl) fun _ _ _ q=>tCB_D (fun _ _ _ z=>z) q
 have D2:∀{T:String} {gg:List D->Option D},CallD X cl (.type T) gg->bootBuiltins x=some (.type T)->PE X (.Call (.Name x p) (e::es) [] pos) (tE cl E (eCall gg fs)):=fun hc hv =>
  PE.imp (pe_callTy hc g1 m hv ha g3 g2 st pl) fun _ _ _ q=>tCB_D (fun _ _ _ z=>z) q
 have N2:∀{T:String} {gg:List D->Option D},CallN X cl (.type T) gg->bootBuiltins x=some (.type T)->PE X (.Call (.Name x p) (e::es) [] pos) (tN cl E (eCall gg fs)):=fun hc hv =>
  PE.imp (pe_callTy hc g1 m hv ha g3 g2 st pl) fun _ _ _ q=>tCB_N (fun _ _ _ z=>z) q
 unfold bltOf at h
 split at h
 ·rename_i e';cases h;exact ⟨(fun z=>absurd z (by decide)),D1 (cd_len g.kk) (by rw [e'];exact PySem.boot_len)⟩
 split at h
 ·rename_i e';cases h;exact ⟨(fun z=>absurd z (by decide)),D1 (cd_all g.calm) (by rw [e'];exact boot_all)⟩
 split at h
 ·rename_i e';cases h;exact ⟨(fun z=>absurd z (by decide)),D1 (cd_sum g.calm) (by rw [e'];exact PyProof.Rows.boot_sum)⟩
 split at h
 ·rename_i e';cases h;exact ⟨(fun z=>absurd z (by decide)),D2 cd_tuple (by rw [e'];exact boot_tuple)⟩
 split at h
 ·rename_i e';cases h
  have n:=N2 cn_list (by rw [e'];exact boot_list)
  exact ⟨fun _=>n,se_new n⟩
 ·cases h
theorem ty_ok{t:Str}{T:String}(h:tyOf t=some T):bootBuiltins t=some (.type T):=by
 unfold tyOf at h
 split at h
 ·rename_i e;cases h;rw [e];exact boot_int
 split at h
 ·rename_i e;cases h;rw [e];exact boot_bool
 split at h
 ·rename_i e;cases h;rw [e];exact boot_tuple
 split at h
 ·rename_i e;cases h;rw [e];exact boot_str
 split at h
 ·rename_i e;cases h;rw [e];exact boot_list
 ·cases h
theorem call_ok(hs:Sound cl G k rc)(g:Gx cl G k X nm N E){x:Str}{args:List Expr}{o:Bool}{f:Fe}{p pos:Pos}(h:callG G rc nm N x args=some (o,f)) :
  (o=true->PE X (.Call (.Name x p) args [] pos) (tN cl E f))/\PE X (.Call (.Name x p) args [] pos) (tE cl E f):=by
 unfold callG at h
 split at h
 ·rename_i hg
  obtain ⟨g1,g2,g3⟩:=g.glob hg
  split at h
  ·rename_i fi hfi
   split at h
   ·rename_i hl
    obtain ⟨fa,fd,ps,m1,m2,m3,m4⟩:=g.gok.fn x fi hfi
    cases h1:shL rc nm N args with
    | none=>rw [h1] at h;cases h
    | some fs =>
     rw [h1] at h;cases h
     obtain ⟨a1,a2,a3⟩:=shL_ok hs g h1
     have hlen:fs.length=fi.ar:=a3.trans hl
     have main:PE X (.Call (.Name x p) args [] pos) (tCallS (spOf cl fi.ar fi.own fi.run) [] E (tAs cl E fs)):=by
      cases args with
      | nil =>
       cases h1
       refine PE.imp (pe_call0S m4 g.room g1 m1 m2 m3 .nil g.pass g2) ?_
       rintro σ H Q ⟨B,w,ρ,S,rfl,R,q⟩
       exact q [] w R (Fut.refl _) .nil
      | cons e es =>
       rw [List.all_cons,Bool.and_eq_true] at a2
       exact pe_callS m4 g.room g1 m1 m2 m3 .nil g.pass a1 g2 (star1 a2.1) (plain_any a2.2)
     cases ho:fi.own with
     | false =>
      rw [ho] at main
      exact ⟨(fun z=>by cases z),PE.imp main fun _ _ _ q=>call_E q hlen⟩
     | true =>
      rw [ho] at main
      have n:PE X (.Call (.Name x p) args [] pos) (tN cl E (eFn fi.run fs)):=PE.imp main fun _ _ _ q=>call_N q hlen
      exact ⟨fun _=>n,se_new n⟩
   ·cases h
  ·split at h
   ·rename_i hb
    split at h
    ·rename_i hx
     subst hx
     split at h
     ·rename_i a t p2
      split at h
      ·rename_i ht
       rw [Bool.and_eq_true,Bool.and_eq_true] at ht
       replace ht:=ht.1
       cases hT:tyOf t with
       | none=>rw [hT] at h;cases h
       | some T =>
        rw [hT] at h
        cases h1:opE rc nm N a with
        | none=>rw [h1] at h;cases h
        | some fa =>
         rw [h1] at h;cases h
         obtain ⟨t1,t2,t3⟩:=g.glob ht.1
         obtain ⟨a1,a2⟩:=op_ok hs g h1
         exact ⟨(fun z=>by cases z),se_inst g1 (g.gok.blt _ hb) t1 (g.gok.blt _ ht.2) (ty_ok hT) t3 t2 (okE_plain a2) a1⟩
      ·cases h
     ·cases h
    ·split at h
     ·cases h
     ·rename_i e es
      cases h2:bltOf x with
      | none=>rw [h2] at h;cases h
      | some bi =>
       rw [h2] at h
       cases h1:opL rc nm N (e::es) with
       | none=>rw [h1] at h;cases h
       | some fs =>
        rw [h1] at h;cases h
        obtain ⟨a1,a2,_⟩:=opL_ok hs g h1
        exact blt_ok g h2 hg hb a1 a2
   ·cases h
 ·cases h
theorem iter_ok(hs:Sound cl G k rc)(g:Gx cl G k X nm N E){e tg:Expr}{fi:Fi}(h:iterG G rc nm N tg e=some fi):PI X tg e (tI cl E fi)/\okE e=true:=by
 have gen:∀{e:Expr},(shE rc nm N e).map eItemsA=some fi->PI X tg e (tI cl E fi)/\okE e=true:=fun {e} h=>by
  cases h1:shE rc nm N e with
  | none=>rw [h1] at h;cases h
  | some f =>
   rw [h1] at h;cases h
   obtain ⟨a1,_,a3⟩:=sh_ok hs g h1
   exact ⟨si_any a1,a3⟩
 unfold iterG at h
 split at h
 ·rename_i x p args pos
  split at h
  ·rename_i hx
   subst hx
   split at h
   ·rename_i hb
    rw [Bool.and_eq_true] at hb
    obtain ⟨g1,_,_⟩:=g.glob hb.1
    have m:=g.gok.blt _ hb.2
    split at h
    ·rename_i a
     cases h1:shE rc nm N a with
     | none=>rw [h1] at h;cases h
     | some f =>
      rw [h1] at h;cases h
      obtain ⟨a1,_,a3⟩:=sh_ok hs g h1
      exact ⟨si_rng1 g1 m (sa_cons a1 sa_nil (star1 (okE_plain a3))) (star1 (okE_plain a3)),rfl⟩
    ·rename_i a b
     cases h1:shE rc nm N a with
     | none=>rw [h1] at h;cases h
     | some f =>
      rw [h1] at h
      cases h2:shE rc nm N b with
      | none=>rw [h2] at h;cases h
      | some f2 =>
       rw [h2] at h;cases h
       obtain ⟨a1,_,a3⟩:=sh_ok hs g h1
       obtain ⟨b1,_,b3⟩:=sh_ok hs g h2
       have s1:=star1 (es:=[b]) (env:=X.env) (okE_plain a3)
       have s2:=star1 (es:=[]) (env:=X.env) (okE_plain b3)
       exact ⟨si_rng2 g1 m (sa_cons a1 (sa_cons b1 sa_nil s2) s1) (by rw [s1,s2];rfl) s2,rfl⟩
    ·cases h
   ·cases h
  split at h
  ·rename_i hx
   subst hx
   split at h
   ·rename_i hb
    rw [Bool.and_eq_true,Bool.and_eq_true] at hb
    obtain ⟨g1,_,_⟩:=g.glob hb.1.1
    have m:=g.gok.blt _ hb.1.2
    split at h
    ·rename_i a
     cases h1:shE rc nm N a with
     | none=>rw [h1] at h;cases h
     | some f =>
      rw [h1] at h;cases h
      obtain ⟨a1,_,a3⟩:=sh_ok hs g h1
      cases tg with
      | Tuple es kk tp=>exact ⟨si_enum g1 m (sa_cons a1 sa_nil (star1 (okE_plain a3))) (star1 (okE_plain a3)),rfl⟩
      | _=>cases hb.2
    ·cases h
   ·cases h
  split at h
  ·rename_i hx
   subst hx
   split at h
   ·rename_i hb
    rw [Bool.and_eq_true,Bool.and_eq_true] at hb
    obtain ⟨g1,_,_⟩:=g.glob hb.1.1
    have m:=g.gok.blt _ hb.1.2
    split at h
    ·rename_i a b
     cases h1:shE rc nm N a with
     | none=>rw [h1] at h;cases h
     | some f =>
      rw [h1] at h
      cases h2:shE rc nm N b with
      | none=>rw [h2] at h;cases h
      | some f2 =>
       rw [h2] at h;cases h
       obtain ⟨a1,_,a3⟩:=sh_ok hs g h1
       obtain ⟨b1,_,b3⟩:=sh_ok hs g h2
       have s1:=star1 (es:=[b]) (env:=X.env) (okE_plain a3)
       have s2:=star1 (es:=[]) (env:=X.env) (okE_plain b3)
       cases tg with
       | Tuple es kk tp=>exact ⟨si_zip g1 m (sa_cons a1 (sa_cons b1 sa_nil s2) s1) s1 (plain_any (by simp [okE_plain b3])),rfl⟩
       | _=>cases hb.2
    ·cases h
   ·cases h
  ·exact gen h
 ·exact gen h
theorem sp_ok(hs:Sound cl G k rc)(g:Gx cl G k X nm N E){x:Str}{args:List Expr}{p pos:Pos}{o:Bool}{f:Fe}(h:spG G rc nm N x args=some (o,f)):(o=true->PE X (.Call (.Name x p) args [] pos) (tN cl E f))/\PE X (.Call (.Name x p) args [] pos) (tE cl E f):=by
 unfold spG at h
 cases hc:spA args with
 | none=>rw [hc] at h;cases h
 | some c =>
 rw [hc] at h
 obtain rfl:=spA_eq hc
 obtain ⟨y,a,p2,pos2⟩:=c
 dsimp only [Option.bind] at h ⊢
 clear hc
 split at h
 ·rename_i hb
  simp only [Bool.and_eq_true,decide_eq_true_eq] at hb
  obtain ⟨⟨⟨⟨⟨rfl,rfl⟩,b1⟩,b2⟩,b3⟩,b4⟩:=hb
  obtain ⟨g1,_,_⟩:=g.glob b1
  obtain ⟨g2,_,_⟩:=g.glob b3
  cases h1:shE rc nm N a with
  | none=>rw [h1] at h;cases h
  | some fa =>
   rw [h1] at h;cases h
   obtain ⟨a1,_,a3⟩:=sh_ok hs g h1
   have n:=se_lr (p:=p) (p2:=p2) (pos:=pos) (pos2:=pos2) g.calm g1 (g.gok.blt _ b2) g2 (g.gok.blt _ b4) a1 (star1 (okE_plain a3))
   exact ⟨fun _=>n,se_new n⟩
 ·cases h
def recvOk:Expr->Bool | .Name _ _=>true | .Call (.Name _ _) (_::_) _ _=>true | .Attribute (.Name _ _) _ _=>true | _=>false
def methG(G:Genv)(rc:Rec)(nm:Names)(N:List Str)(o:Expr)(m:Str)(ap cp:Pos)(args:List Expr)(kws:List Keyword):Option (Bool×Fe) :=
 if kws.isEmpty&&recvOk o&&(ap.endLine == cp.line)&&decide (args.length<30) then (G.ob.mt m).bind fun c=>if args.length+1=c.2.ar then (shE rc nm N o).bind fun fo=>(shL rc nm N args).bind fun fs=>some (c.2.own,eMeth c.1 m c.2.run fo fs) else none else none
def mkG(G:Genv)(rc:Rec)(nm:Names)(N:List Str)(x:Str)(args:List Expr):Option (Bool×Fe) :=
 if isGlob nm x&&!args.isEmpty then (G.ob.mks x).bind fun c=>(shL rc nm N args).bind fun fs =>
  if args.length+1=c.2.ar then some (false,eMk x [] c.2.run fs) else if args.length+c.1.length+1=c.2.ar then some (false,eMk x c.1 c.2.run fs) else none
 else none
def isNameE:Expr->Bool | .Name _ _=>true | _=>false
def fldG(G:Genv)(rc:Rec)(nm:Names)(N:List Str)(o:Expr)(f:Str):Option (Bool×Fe):=if isNameE o&&!G.ob.df f&&G.ob.fk G.ob.cur f then (shE rc nm N o).map fun fo=>(false,eFld G.ob.cur f fo) else none
def attF:Expr->Option (Expr×Str×Pos) | .Attribute o m p=>some (o,m,p) | _=>none
theorem attF_eq{e:Expr}{x:Expr×Str×Pos}(h:attF e=some x):e=.Attribute x.1 x.2.1 x.2.2:=by cases e<;>first | (cases h;done) | (cases h;rfl)
def nmF:Expr->Option (Str×Pos) | .Name x p=>some (x,p) | _=>none
theorem nmF_eq{e:Expr}{x:Str×Pos}(h:nmF e=some x):e=.Name x.1 x.2:=by cases e<;>first | (cases h;done) | (cases h;rfl)
def isNinO:List CmpOp->Bool | [.NotIn]=>true | _=>false
def oneE:List Expr->Option Expr | [a]=>some a | _=>none
def ninG(G:Genv)(rc:Rec)(nm:Names)(N:List Str)(a:Expr)(ops:List CmpOp)(bs:List Expr):Option (Bool×Fe) :=
 if isNinO ops then (oneE bs).bind fun b=>(attF b).bind fun t=>if isNameE t.1&&G.ob.df t.2.1&&G.ob.fk G.ob.cur t.2.1 then (shE rc nm N a).bind fun fa=>(shE rc nm N t.1).bind fun fo=>some (false,eNin G.ob.cur t.2.1 fa fo) else none else none
def getG(G:Genv)(rc:Rec)(nm:Names)(N:List Str)(a i:Expr):Option (Bool×Fe) :=
 (attF a).bind fun t=>if isNameE t.1&&G.ob.df t.2.1&&G.ob.fk G.ob.cur t.2.1 then (nmF i).bind fun x=>(slotOf nm N x.1).bind fun j=>(shE rc nm N t.1).bind fun fo=>some (false,eGetK G.ob.cur t.2.1 fo j) else none
theorem Gx.same(g:Gx cl G k X nm N E):Same' cl X:=⟨g.kk,g.pp,g.ww⟩
theorem Gx.u16(g:Gx cl G k X nm N E):X.A.units+16<cLine:=Nat.lt_of_le_of_lt (Nat.add_le_add_left (by decide) _) g.units
theorem bind_some'{α β:Type}{o:Option α}{f:α->Option β}{b:β}(h:o.bind f=some b):∃a,o=some a/\f a=some b:=by
 cases o with
 | none=>cases h
 | some a=>exact ⟨a,rfl,h⟩
theorem fld_ok(hs:Sound cl G k rc)(g:Gx cl G k X nm N E){o:Expr}{f:Str}{pos:Pos}{w:Bool}{fe:Fe}(h:fldG G rc nm N o f=some (w,fe)):w=false/\PE X (.Attribute o f pos) (tE cl E fe):=by
 unfold fldG at h
 split at h
 ·rename_i hc
  rw [Bool.and_eq_true,Bool.and_eq_true] at hc
  cases h1:shE rc nm N o with
  | none=>rw [h1] at h;cases h
  | some fo =>
   rw [h1] at h;cases h
   refine ⟨rfl,se_fld (g.gok.fk _ _ hc.2) g.kk (sh_ok hs g h1).1 ?_⟩
   cases o<;>first | rfl | cases hc.1.1
 ·cases h
theorem nin_ok(hs:Sound cl G k rc)(g:Gx cl G k X nm N E){a:Expr}{ops:List CmpOp}{bs:List Expr}{pos:Pos}{w:Bool}{fe:Fe}(h:ninG G rc nm N a ops bs=some (w,fe)):w=false/\PE X (.Compare a ops bs pos) (tE cl E fe)/\PT X (.Compare a ops bs pos) (tTr cl E fe):=by
 unfold ninG at h
 split at h
 ·rename_i hn
  have eo:ops=[.NotIn]:=by
   unfold isNinO at hn
   split at hn
   ·rfl
   ·cases hn
  subst eo
  obtain ⟨b,h1,hz⟩:=bind_some' h
  obtain ⟨t,h2,hy⟩:=bind_some' hz
  have eb:bs=[b]:=by
   unfold oneE at h1
   split at h1
   ·cases h1;rfl
   ·cases h1
  have e2:=attF_eq h2
  clear h hz h1 h2
  subst eb;subst e2
  obtain ⟨o,f,ap⟩:=t
  dsimp only at hy ⊢
  split at hy
  ·rename_i hc
   rw [Bool.and_eq_true,Bool.and_eq_true] at hc
   obtain ⟨fa,h3,hy⟩:=bind_some' hy
   obtain ⟨fo,h4,hy⟩:=bind_some' hy
   cases hy
   have hb:attributeBase o f X.env (eval o X.env)=eval o X.env:=by cases o<;>first | rfl | cases hc.1.1
   exact ⟨rfl,se_nin g.u16 g.same (g.gok.fk _ _ hc.2) (sh_ok hs g h3).1 (sh_ok hs g h4).1 hb rfl,st_nin g.u16 g.same (g.gok.fk _ _ hc.2) (sh_ok hs g h3).1 (sh_ok hs g h4).1 hb rfl⟩
  ·cases hy
 ·cases h
theorem get_ok(hs:Sound cl G k rc)(g:Gx cl G k X nm N E){a i:Expr}{pos:Pos}{w:Bool}{fe:Fe}(h:getG G rc nm N a i=some (w,fe)):w=false/\PE X (.Subscript a i pos) (tE cl E fe):=by
 unfold getG at h
 obtain ⟨t,h2,hz⟩:=bind_some' h
 have e2:=attF_eq h2
 clear h h2
 subst e2
 obtain ⟨o,f,ap⟩:=t
 dsimp only at hz ⊢
 split at hz
 ·rename_i hc
  rw [Bool.and_eq_true,Bool.and_eq_true] at hc
  obtain ⟨x,h3,hz⟩:=bind_some' hz
  obtain ⟨j,h4,hz⟩:=bind_some' hz
  obtain ⟨fo,h5,hz⟩:=bind_some' hz
  cases hz
  have e3:=nmF_eq h3
  clear h3
  subst e3
  obtain ⟨s1,s2,s3,s4⟩:=g.slot h4
  refine ⟨rfl,se_getK s1 s2 s3 s4 g.u16 g.same (g.gok.fk _ _ hc.2) (sh_ok hs g h5).1 ?_ (fun _ _=>rfl)⟩
  cases o<;>first | rfl | cases hc.1.1
 ·cases hz
theorem fewM{pos:Pos}{env:PySem.Env}{args:List Expr}(hp:args.all plainE=true)(hl:args.length<30):methodCallForm (args.length+0) (backTo pos (starEach args env)) (backToKw pos (keywordEach [] env))=true:=by
 have h:=plain_any (pos:=pos) (env:=env) hp
 unfold methodCallForm
 have h1:(backTo pos (starEach args env)).all (!·.1)=true:=by
  rw [List.all_eq_not_any_not]
  simpa using h
 rw [h1]
 show (true&&true&&decide (args.length+0+0<30))=true
 rw [decide_eq_true (by omega)];rfl
theorem meth_tree{o:Expr}{m:Str}{ap pos:Pos}{env:PySem.Env}{args:List Expr}(hb:attributeBase o m env (eval o env)=eval o env)(hf:methodCallForm (args.length+0) (backTo pos (starEach args env)) (backToKw pos (keywordEach [] env))=true)(hp:(ap.endLine == pos.line)=true) :
  eval (.Call (.Attribute o m ap) args [] pos) env=(do
   let ov ← eval o env
   standAt ap.atName
   let (f,first) ← holding [ov] (getMethod ov m (do return (← importBound o env).getD true))
   callWith pos f first (backTo pos (starEach args env)) (backToKw pos (keywordEach [] env))):=by
 show (do
  let ov ← attributeBase o m env (eval o env)
  standAt ap.atName
  methodCall o m ap pos env ov (args.length+0) (backTo pos (starEach args env)) (backToKw pos (keywordEach [] env)))=_
 rw [hb]
 have e:∀ov,methodCall o m ap pos env ov (args.length+0) (backTo pos (starEach args env)) (backToKw pos (keywordEach [] env))=(do
   let (f,first) ← holding [ov] (getMethod ov m (do return (← importBound o env).getD true))
   callWith pos f first (backTo pos (starEach args env)) (backToKw pos (keywordEach [] env))):=fun ov=>by
  unfold methodCall calleeOf methodCallPos
  rw [hf,hp]
  rfl
 simp only [e]
theorem meth_ok(hs:Sound cl G k rc)(g:Gx cl G k X nm N E){o:Expr}{m:Str}{args:List Expr}{kws:List Keyword}{ap pos:Pos}{w:Bool}{fe:Fe}(h:methG G rc nm N o m ap pos args kws=some (w,fe)):(w=true->PE X (.Call (.Attribute o m ap) args kws pos) (tN cl E fe))/\PE X (.Call (.Attribute o m ap) args kws pos) (tE cl E fe):=by
 unfold methG at h
 split at h
 ·rename_i hc
  simp only [Bool.and_eq_true,decide_eq_true_eq] at hc
  obtain ⟨⟨⟨z1,z2⟩,z3⟩,z4⟩:=hc
  obtain rfl:=List.isEmpty_iff.mp z1
  obtain ⟨⟨c,fi⟩,h1,h⟩:=bind_some' h
  dsimp only at h
  split at h
  ·rename_i hl
   obtain ⟨fo,h2,h⟩:=bind_some' h
   obtain ⟨fs,h3,h⟩:=bind_some' h
   cases h
   obtain ⟨f,fd,ps,c1,c2,c3,c4⟩:=g.gok.mt m c fi h1
   obtain ⟨a1,a2,a3⟩:=shL_ok hs g h3
   have hlen:fs.length+1=fi.ar:=by rw [a3];exact hl
   have hb:attributeBase o m X.env (eval o X.env)=eval o X.env:=by
    unfold recvOk at z2
    split at z2<;>first | rfl | cases z2
   have ht:=meth_tree (ap:=ap) hb (fewM (pos:=pos) a2 z4) z3
   have main:PE X (.Call (.Attribute o m ap) args [] pos) (tMethS (cl c) m (spOf cl fi.ar fi.own fi.run) [] E (tE cl E fo) (tAs cl E fs)):=by
    cases args with
    | nil =>
     cases h3
     refine PE.imp (pe_meth0S (sh_ok hs g h2).1 c1 c2 c4 g.room c3 .nil g.pass ht) ?_
     rintro σ H Q ⟨B,w,ρ,S,rfl,R,q⟩
     refine ⟨B,w,ρ,S,rfl,R,?_⟩
     cases hfo:fo ρ S with
     | bad=>rw [hfo] at q;exact q
     | exc c S1=>rw [hfo] at q;exact q
     | ok d S1 =>
      rw [hfo] at q
      intro v w1 R1 F1 sh
      obtain ⟨a,dx,fs,e1,e2,e3,B',w',ρ',S',e4,R',q⟩:=q v w1 R1 F1 sh
      refine ⟨a,dx,fs,e1,e2,e3,?_⟩
      have:=q [] w' R' (Fut.refl _) .nil
      rw [e4] at this
      exact this
    | cons e es =>
     rw [List.all_cons,Bool.and_eq_true] at a2
     exact pe_methS (sh_ok hs g h2).1 c1 c2 c4 g.room c3 .nil g.pass a1 (star1 a2.1) (plain_any a2.2) ht
   cases ho:fi.own with
   | false =>
    rw [ho] at main
    exact ⟨(fun z=>by cases z),PE.imp main fun _ _ _ q=>meth_E q hlen⟩
   | true =>
    rw [ho] at main
    have n:=PE.imp main fun _ _ _ q=>meth_N q hlen
    exact ⟨fun _=>n,se_new n⟩
  ·cases h
 ·cases h
theorem mk_ok(hs:Sound cl G k rc)(g:Gx cl G k X nm N E){x:Str}{args:List Expr}{p pos:Pos}{w:Bool}{fe:Fe}(h:mkG G rc nm N x args=some (w,fe)):w=false/\PE X (.Call (.Name x p) args [] pos) (tE cl E fe):=by
 unfold mkG at h
 split at h
 ·rename_i hc
  rw [Bool.and_eq_true] at hc
  obtain ⟨⟨dds,fi⟩,h1,h⟩:=bind_some' h
  obtain ⟨fs,h2,h⟩:=bind_some' h
  dsimp only at h
  obtain ⟨f,fd,ps,dvs,ds,k',hk,mC,M,B0,BD,vd,sd,F⟩:=g.gok.mks x dds fi h1
  obtain ⟨a1,a2,a3⟩:=shL_ok hs g h2
  obtain ⟨g1,g2,g3⟩:=g.glob hc.1
  cases args with
  | nil=>cases hc.2
  | cons e es =>
   rw [List.all_cons,Bool.and_eq_true] at a2
   have hr:Room (k'+1) X.A:=g.room.mono hk
   split at h
   ·rename_i hl
    cases h
    exact ⟨rfl,PE.imp (pe_makeS M F hr g1 mC B0 .nil g.pass a1 g2 (star1 a2.1) (plain_any a2.2)) fun _ _ _ q=>mk_E (dds:=[]) (fun _=>.nil) q (by rw [a3];exact hl)⟩
   ·split at h
    ·rename_i hl
     cases h
     exact ⟨rfl,PE.imp (pe_makeS M F hr g1 mC BD vd g.pass a1 g2 (star1 a2.1) (plain_any a2.2)) fun _ _ _ q=>mk_E sd q (by rw [a3];exact hl)⟩
    ·cases h
 ·cases h
end
end S2
namespace S2
open PySem PySem.Spec PyProof.Rows L2
def nameOf:Expr->Option Str | .Name x _=>some x | _=>none
def isLoc(df:Bool):Option NameKind->Bool | some .local=>true | some .cell=>df | _=>false
def tgI(df:Bool)(nm:Names)(N:List Str)(n:Nat)(x:Str):Option Nat:=if isLoc df (nm.lookup x) then (idx N x).bind fun i=>if i<n then some i else none else none
def tgIs(df:Bool)(nm:Names)(N:List Str)(n:Nat):List Expr->Option (List Nat)
 | []=>some []
 | .Name x _::es=>(tgI df nm N n x).bind fun i=>(tgIs df nm N n es).bind fun is=>some (i::is)
 | _::_=>none
def tgG(df:Bool)(nm:Names)(N:List Str)(n:Nat):Expr->Option Tg
 | .Name x _=>(tgI df nm N n x).map .one
 | .Tuple es _ _=>(tgIs df nm N n es).map .tup
 | _=>none
structure Sto'(X:Cx)(df:Bool):Prop where
 fn:df=true->∀x,X.fn x=true
section
variable{cl:Cf}{G:Genv}{k:Nat}{X:Cx}{nm:Names}{N:List Str}{E:St->XK}{df:Bool}{n:Nat}
theorem tgI_ok(g:Gx cl G k X nm N E)(sd:Sto' X df){x:Str}{i:Nat}(h:tgI df nm N n x=some i):i<n/\X.N.Nodup/\X.N[i]?=some x/\Loc X.env.scope x/\(X.fn x=true\/X.env.scope.names.lookup x=some .local):=by
 unfold tgI at h
 split at h
 ·rename_i hl
  cases hi:idx N x with
  | none=>rw [hi] at h;cases h
  | some j =>
   rw [hi] at h
   dsimp only [Option.bind] at h
   split at h
   ·rename_i hn
    cases h
    refine ⟨hn,by rw [g.eN];exact g.nd,by rw [g.eN];exact idx_get hi,?_,?_⟩
    ·cases hk:nm.lookup x with
     | none=>rw [hk] at hl;cases hl
     | some kd =>
      obtain ⟨kd',e,z⟩:=g.vis x kd hk
      rw [hk] at hl
      unfold L2.Loc
      rw [e]
      rcases z with rfl | ⟨rfl,_⟩
      ·cases kd'<;>first | exact .inl rfl | exact .inr rfl | cases hl
      ·cases hl
    ·cases hk:nm.lookup x with
     | none=>rw [hk] at hl;cases hl
     | some kd =>
      rw [hk] at hl
      cases kd<;>first | exact .inr (g.fnx x hk) | exact .inl (sd.fn hl x) | cases hl
   ·cases h
 ·cases h
theorem tgIs_ok(g:Gx cl G k X nm N E)(sd:Sto' X df):∀{es:List Expr} {is:List Nat},tgIs df nm N n es=some is->PGs X es (tGs cl n is)/\(assignEach es X.env).length=is.length/\(assignEach es X.env).findIdx? (·.1)=none
 | [],is,h=>by cases h;exact ⟨sgs_nil,rfl,rfl⟩
 | e::es,is,h=>by
  cases e with
  | Name x pos =>
   unfold tgIs at h
   cases h1:tgI df nm N n x with
   | none=>rw [h1] at h;cases h
   | some i =>
    rw [h1] at h
    cases h2:tgIs df nm N n es with
    | none=>rw [h2] at h;cases h
    | some is' =>
     rw [h2] at h;cases h
     obtain ⟨a1,a2,a3,a4,a5⟩:=tgI_ok g sd h1
     obtain ⟨b1,b2,b3⟩:=tgIs_ok g sd h2
     refine ⟨sgs_cons a1 a2 a3 a4 a5 b1,?_,?_⟩
     ·show (assignEach es X.env).length+1=_
      rw [b2];rfl
     ·show ((false,assign (.Name x pos) X.env)::assignEach es X.env).findIdx? (·.1)=none
      rw [List.findIdx?_cons]
      simp [b3]
  | _=>cases h
theorem tg_ok(g:Gx cl G k X nm N E)(sd:Sto' X df){tg:Expr}{t:Tg}(h:tgG df nm N n tg=some t):PG X tg (tG cl n t):=by
 unfold tgG at h
 split at h
 ·rename_i x pos
  cases h1:tgI df nm N n x with
  | none=>rw [h1] at h;cases h
  | some i =>
   rw [h1] at h;cases h
   obtain ⟨a1,a2,a3,a4,a5⟩:=tgI_ok g sd h1
   exact sg_one a1 a2 a3 a4 a5
 ·rename_i es kk pos
  cases h1:tgIs df nm N n es with
  | none=>rw [h1] at h;cases h
  | some is =>
   rw [h1] at h;cases h
   obtain ⟨b1,b2,b3⟩:=tgIs_ok g sd h1
   exact sg_tup g.calm b1 b2 b3
 ·cases h
end
def tgNames:Expr->List Str
 | .Name x _=>[x]
 | .Tuple es _ _=>es.filterMap nameOf
 | _=>[]
def capsOf(names:Names)(N:List Str):List (Str×Nat):=names.filterMap fun p=>if p.2=.free then (idx N p.1).map fun i=>(p.1,i) else none
def isCF:Option NameKind->Bool | some .cell=>true | some .free=>true | _=>false
def compOk(nm:Names)(scope:Scope)(xs:List Str)(caps:List (Str×Nat)):Bool :=
 decide (scope.kind=.function)&&scope.names.all (fun y=>decide (y.2≠.cell))&&scope.names.all (fun y=>!decide (y.2=.local)||decide (scope.names.lookup y.1=some .local))
 && scope.names.all (fun y=>!decide (y.2=.free)||isCF (nm.lookup y.1))&&caps.all (fun p=>scope.names.all fun z=>!decide (z.1=p.1)||decide (z.2=.free))&&decide ((xs++caps.map (·.1)).Nodup)
def condG(rc:Rec)(nm:Names)(N:List Str):List Expr->Option Fe
 | []=>some fYes
 | [c]=>if testable c then shE rc nm N c else none
 | _=>none
def compG(G:Genv)(rc:Rec)(nm:Names)(N:List Str)(elt:Expr)(g:Comprehension)(scope:Scope):Option Fe :=
 if decide (g.is_async=0)&&compOk nm scope (tgNames g.target) (capsOf scope.names N) then
  (iterG G rc nm N g.target g.iter).bind fun it =>
  (tgG false scope.names (tgNames g.target++(capsOf scope.names N).map (·.1)) (tgNames g.target).length g.target).bind fun t =>
  (condG rc scope.names (tgNames g.target++(capsOf scope.names N).map (·.1)) g.ifs).bind fun c =>
  (shE rc scope.names (tgNames g.target++(capsOf scope.names N).map (·.1)) elt).bind fun el =>
  some (eComp (tgNames g.target).length t it c el ((capsOf scope.names N).map (·.2)))
 else none
theorem relabel_vis{scope:Scope}{env:PySem.Env}:∀{names:Names} {x:Str} {kd:NameKind},names.lookup x=some kd →
  ∃kd',(names.map fun (n,k)=>if (k == NameKind.free&&env.scope.kind == .function&&env.kindOf n == some .cell) then (n,NameKind.cell) else (n,k)).lookup x=some kd'/\(kd'=kd\/(kd=.free/\kd'=.cell))
 | [],_,_,h=>by cases h
 | (n,k0)::r,x,kd,h=>by
  rw [List.lookup_cons] at h
  rw [List.map_cons]
  dsimp only
  by_cases hc:(k0 == NameKind.free&&env.scope.kind == .function&&env.kindOf n == some .cell)=true
  ·rw [if_pos hc,List.lookup_cons]
   cases hx:x == n with
   | true =>
    rw [hx] at h
    cases h
    simp only [Bool.and_eq_true,beq_iff_eq] at hc
    exact ⟨_,rfl,.inr ⟨hc.1.1,rfl⟩⟩
   | false=>rw [hx] at h;exact relabel_vis (scope:=scope) h
  ·rw [if_neg hc,List.lookup_cons]
   cases hx:x == n with
   | true=>rw [hx] at h;cases h;exact ⟨_,rfl,.inl rfl⟩
   | false=>rw [hx] at h;exact relabel_vis (scope:=scope) h
section
variable{cl:Cf}{G:Genv}{k:Nat}{rc:Rec}{X:Cx}{nm:Names}{N:List Str}{E:St->XK}
theorem comp_scope(g:Gx cl G k X nm N E){scope:Scope}{xs:List Str}(h:compOk nm scope xs (capsOf scope.names N)=true):CompScopeG X.env.scope scope X.N xs (capsOf scope.names N)/\(xs++(capsOf scope.names N).map (·.1)).Nodup:=by
 unfold compOk at h
 simp only [Bool.and_eq_true,List.all_eq_true,decide_eq_true_eq,Bool.or_eq_true,Bool.not_eq_true',decide_eq_false_iff_not] at h
 obtain ⟨⟨⟨⟨⟨h1,h2⟩,h3⟩,h4⟩,h5⟩,h6⟩:=h
 have fr:∀y∈scope.names,y.2=.free->X.env.scope.names.lookup y.1=some .cell\/X.env.scope.names.lookup y.1=some .free:=fun y hy hf=>by
  rcases h4 y hy with z | z
  ·exact absurd hf z
  ·cases hk:nm.lookup y.1 with
   | none=>rw [hk] at z;cases z
   | some kd =>
    obtain ⟨kd',e,zz⟩:=g.vis y.1 kd hk
    rw [hk] at z
    rw [e]
    rcases zz with rfl | ⟨_,rfl⟩
    ·cases kd'<;>first | exact .inl rfl | exact .inr rfl | cases z
    ·exact .inl rfl
 refine ⟨⟨h2,h1,fun y hy hl=>(h3 y hy).elim (fun z=>absurd hl z) fun z=>z,fr,fun p hp=>?_,fun p hp z hz e=>(h5 p hp z hz).elim (fun w=>absurd e w) fun w=>w⟩,h6⟩
 unfold capsOf at hp
 obtain ⟨q,hq,e⟩:=List.mem_filterMap.mp hp
 split at e
 ·rename_i hf
  cases hi:idx N q.1 with
  | none=>rw [hi] at e;cases e
  | some i =>
   rw [hi] at e
   have e':(q.1,i)=p:=Option.some.inj e
   subst e'
   refine ⟨by rw [g.eN];exact idx_get hi,by rw [<-hf];exact hq,?_⟩
   rcases fr q hq hf with z | z<;>rw [z]<;>exact fun w=>by cases w
 ·cases e
theorem inner_gx(g:Gx cl G k X nm N E){scope:Scope}{xs:List Str}(hn:(xs++(capsOf scope.names N).map (·.1)).Nodup)(cl':List (Str×Addr))(C:Addr)(s:Shared)(H:Hp)(fp:List Addr) :
  Gx cl G k (compCxG X xs (capsOf scope.names N) scope cl' C s H fp) scope.names (xs++(capsOf scope.names N).map (·.1)) noE where
 gok:=g.gok
 room:=g.room
 calm:=g.calm
 pass:=fun pins σ H s e s' I q=>by
  obtain ⟨a,cls,a0,H',B,_,_,_,_,_,_,_,_,_,z⟩:=q
  exact z.elim
 eN:=rfl
 kk:=g.kk
 pp:=g.pp
 ww:=g.ww
 nd:=hn
 vis:=fun x kd h=>relabel_vis (scope:=scope) h
 fnx:=fun x h=>lookup_relabel_local h
theorem cond_ok(hs:Sound cl G k rc)(g:Gx cl G k X nm N noE){ifs:List Expr}{c:Fe}(h:condG rc nm N ifs=some c):PIf X ifs (tTr cl noE c):=by
 unfold condG at h
 split at h
 ·cases h
  intro pins s σ H Q I q
  obtain ⟨B,w,ρ,S,rfl,R,q⟩:=q
  exact pif_nil pins s σ w.H Q I (q w R (Fut.refl _))
 ·split at h
  ·rename_i c ht
   obtain ⟨_,a2,_⟩:=sh_ok hs g h
   exact pif_one (a2 ht)
  ·cases h
 ·cases h
theorem comp_parts(hs:Sound cl G k rc)(g:Gx cl G k X nm N E){elt:Expr}{gg:Comprehension}{scope:Scope}{f:Fe}(h:compG G rc nm N elt gg scope=some f) :
  ∃it t c el,f=eComp (tgNames gg.target).length t it c el ((capsOf scope.names N).map (·.2))/\gg=⟨gg.target,gg.iter,gg.ifs,0⟩/\CompScopeG X.env.scope scope X.N (tgNames gg.target) (capsOf scope.names N)/\PI X gg.target gg.iter (tI cl E it)/\okE gg.iter=true ∧
   (∀cl' C s H fp,PG (compCxG X (tgNames gg.target) (capsOf scope.names N) scope cl' C s H fp) gg.target (tG cl (tgNames gg.target).length t)) ∧
   (∀cl' C s H fp,PIf (compCxG X (tgNames gg.target) (capsOf scope.names N) scope cl' C s H fp) gg.ifs (tTr cl noE c)) ∧
   ∀cl' C s H fp,PE (compCxG X (tgNames gg.target) (capsOf scope.names N) scope cl' C s H fp) elt (tE cl noE el):=by
 unfold compG at h
 split at h
 ·rename_i hc
  rw [Bool.and_eq_true] at hc
  obtain ⟨S,hn⟩:=comp_scope g hc.2
  cases h1:iterG G rc nm N gg.target gg.iter with
  | none=>rw [h1] at h;cases h
  | some it =>
   rw [h1] at h
   dsimp only [Option.bind] at h
   cases h2:tgG false scope.names (tgNames gg.target++(capsOf scope.names N).map (·.1)) (tgNames gg.target).length gg.target with
   | none=>rw [h2] at h;cases h
   | some t =>
    rw [h2] at h
    dsimp only at h
    cases h3:condG rc scope.names (tgNames gg.target++(capsOf scope.names N).map (·.1)) gg.ifs with
    | none=>rw [h3] at h;cases h
    | some c =>
     rw [h3] at h
     dsimp only at h
     cases h4:shE rc scope.names (tgNames gg.target++(capsOf scope.names N).map (·.1)) elt with
     | none=>rw [h4] at h;cases h
     | some el =>
      rw [h4] at h
      cases h
      obtain ⟨i1,i2⟩:=iter_ok hs g (tg:=gg.target) h1
      refine ⟨it,t,c,el,rfl,?_,S,i1,i2,fun cl' C s H fp=>tg_ok (inner_gx g hn cl' C s H fp) ⟨fun z=>by cases z⟩ h2,fun cl' C s H fp=>cond_ok hs (inner_gx g hn cl' C s H fp) h3,fun cl' C s H fp=>(sh_ok hs (inner_gx g hn cl' C s H fp) h4).1⟩
      have:=of_decide_eq_true hc.1
      cases gg
      simp only at this
      rw [this]
 ·cases h
theorem comp_ok(hs:Sound cl G k rc)(g:Gx cl G k X nm N E){elt:Expr}{gg:Comprehension}{scope:Scope}{f:Fe}{pos:Pos}(h:compG G rc nm N elt gg scope=some f):PE X (.ListComp elt [gg] scope pos) (tN cl E f):=by
 obtain ⟨it,t,c,el,rfl,eg,S,i1,i2,i3,i4,i5⟩:=comp_parts hs g h
 rw [eg]
 exact PE.imp (pe_compG g.calm S i1 i3 i4 i5 (okE_fold i2)) fun _ _ _ q=>comp_N q
end
def ixOk:Expr->Bool | .Slice _ _ _ _=>false | _=>true
def optG(rc:Rec)(nm:Names)(N:List Str):Option Expr->Option (Option Fe)
 | none=>some none
 | some e=>(opE rc nm N e).map some
theorem count_bl:∀(l:List D) (d r:D),countD l d=some r->∃k n,d=.bl k/\r=.int n:=by
 intro l d r h
 unfold countD at h
 split at h
 ·cases hb:blsOf l with
  | none=>rw [hb] at h;cases h
  | some bs=>rw [hb] at h;cases h;exact ⟨_,_,rfl,rfl⟩
 ·cases h
theorem index_bl:∀(l:List D) (d r:D),indexD l d=some r->∃k n,d=.bl k/\r=.int n:=by
 intro l d r h
 unfold indexD at h
 split at h
 ·cases hb:blsOf l with
  | none=>rw [hb] at h;cases h
  | some bs =>
   rw [hb] at h
   dsimp only [Option.bind] at h
   split at h
   ·cases h;exact ⟨_,_,rfl,rfl⟩
   ·cases h
 ·cases h
def unG(rc:Rec)(nm:Names)(N:List Str)(a:Expr):UnaryOp->Option (Bool×Fe)
 | .Not=>if testable a then (shE rc nm N a).map fun f=>(false,eUn notD f) else none
 | .USub=>(opE rc nm N a).map fun f=>(false,eUn negD f)
 | _=>none
def cmpsG(rc:Rec)(nm:Names)(N:List Str)(a:Expr):List CmpOp->List Expr->Option (Bool×Fe)
 | [op],[b]=>(cmpG op b).bind fun g=>(opE rc nm N a).bind fun f=>(opE rc nm N b).bind fun h=>some (false,eBin g f h)
 | [op,op'],[b,c]=>(cmpG op b).bind fun g=>(cmpG op' c).bind fun g'=>(opE rc nm N a).bind fun f=>(opE rc nm N b).bind fun h=>(opE rc nm N c).bind fun k=>some (false,eChain g g' f h k)
 | _,_=>none
def subG(rc:Rec)(nm:Names)(N:List Str)(a:Expr):Expr->Option (Bool×Fe)
 | .Slice lo hi none _=>(opE rc nm N a).bind fun f=>(optG rc nm N lo).bind fun l=>(optG rc nm N hi).bind fun u=>some (false,eSl f l u)
 | i=>if ixOk i then (opE rc nm N a).bind fun f=>(opE rc nm N i).bind fun h=>some (false,eBin ixD f h) else none
def callsG(G:Genv)(rc:Rec)(nm:Names)(N:List Str)(args:List Expr)(kws:List Keyword)(cp:Pos):Expr->Option (Bool×Fe)
 | .Attribute o m ap=>methG G rc nm N o m ap cp args kws
 | .Name x _=>if kws.isEmpty then (match mkG G rc nm N x args with | some p=>some p | none=>(match spG G rc nm N x args with | some p=>some p | none=>callG G rc nm N x args)) else none
 | _=>none
def lcG(G:Genv)(rc:Rec)(nm:Names)(N:List Str)(elt:Expr)(scope:Scope):List Comprehension->Option (Bool×Fe)
 | [g]=>(compG G rc nm N elt g scope).map fun f=>(true,f)
 | _=>none
def denStep(G:Genv)(rc:Rec):Rec:=fun nm N e=>match e with
 | .Constant c _ _=>(conD c).map fun d=>(false,eCon d)
 | .Name x _=>(match slotOf nm N x with
  | some i=>some (false,eVar i)
  | none=>if isGlob nm x then (G.con x).map fun d=>(false,eCon d) else none)
 | .Tuple es _ _=>(shL rc nm N es).map fun fs=>(false,eTup fs)
 | .List es _=>(shL rc nm N es).map fun fs=>(true,eLst fs)
 | .BinOp a op b _=>if isListE a&&isMulO op then (opE rc nm N a).bind fun f=>(opE rc nm N b).bind fun h=>some (true,eBin mulLD f h) else (binG op).bind fun g=>(opE rc nm N a).bind fun f=>(opE rc nm N b).bind fun h=>some (false,eBin g f h)
 | .UnaryOp op a _=>unG rc nm N a op
 | .BoolOp op es _=>(boolG rc nm N op es).map fun f=>(false,f)
 | .Compare a ops bs _=>(match ninG G rc nm N a ops bs with | some p=>some p | none=>cmpsG rc nm N a ops bs)
 | .IfExp c a b _=>if testable c then (shE rc nm N c).bind fun g=>(shE rc nm N a).bind fun f=>(shE rc nm N b).bind fun h=>some (false,eIf g f h) else none
 | .Subscript a i _=>(match getG G rc nm N a i with | some p=>some p | none=>subG rc nm N a i)
 | .Attribute o f _=>fldG G rc nm N o f
 | .Call f args kws cp=>callsG G rc nm N args kws cp f
 | .ListComp elt gs scope _=>lcG G rc nm N elt scope gs
 | _=>none
def denE(G:Genv):Nat->Rec
 | 0=>fun _ _ _=>none
 | n+1=>denStep G (denE G n)
section
variable{cl:Cf}{G:Genv}{k:Nat}{rc:Rec}
theorem ix_plain{i:Expr}(h:ixOk i=true):PlainIx i:=by
 intro o j
 cases i<;>first | rfl | cases h
theorem bind_some{α β:Type}{o:Option α}{f:α->Option β}{b:β}(h:o.bind f=some b):∃a,o=some a/\f a=some b:=by
 cases o with
 | none=>cases h
 | some a=>exact ⟨a,rfl,h⟩
theorem map_some{α β:Type}{o:Option α}{f:α->β}{b:β}(h:o.map f=some b):∃a,o=some a/\f a=b:=by
 cases o with
 | none=>cases h
 | some a=>exact ⟨a,rfl,Option.some.inj h⟩
theorem opt_ok{X:Cx}{nm:Names}{N:List Str}{E:St->XK}(hs:Sound cl G k rc)(g:Gx cl G k X nm N E){o:Option Expr}{f:Option Fe}(h:optG rc nm N o=some f):PO X o (tOp' cl E f):=by
 unfold optG at h
 split at h
 ·cases h;exact po_none
 ·obtain ⟨a,h1,rfl⟩:=map_some h
  exact po_some (op_ok hs g h1).1
theorem den_step(hs:Sound cl G k rc):Sound cl G k (denStep G rc):=by
 intro X nm N E g e o f h
 unfold denStep at h
 split at h
 ·obtain ⟨d,h1,h2⟩:=map_some h
  cases h2
  rename_i c kk pos
  have p:PE X (.Constant c kk pos) (tE cl E (eCon d)):=by
   cases c<;>simp [conD] at h1<;>subst h1
   ·exact se_tC pe_non fun w=>.non
   ·exact se_tC pe_bl fun w=>.bl _
   ·exact se_tC pe_int fun w=>.int _
   ·exact se_tC pe_str fun w=>.str _
  exact ⟨(fun z=>by cases z),p,fun _=>st_val p (fun _=>rfl),rfl⟩
 ·rename_i x pos
  split at h
  ·rename_i i hi
   cases h
   obtain ⟨h1,h2,h3,h4⟩:=g.slot hi
   have p:PE X (.Name x pos) (tE cl E (eVar i)):=se_var h1 h2 h3 h4
   exact ⟨(fun z=>by cases z),p,fun _=>st_val p (fun _=>rfl),rfl⟩
  ·split at h
   ·rename_i hg
    obtain ⟨d,h1,h2⟩:=map_some h
    cases h2
    obtain ⟨g1,g2,g3⟩:=g.glob hg
    obtain ⟨v,u,m,r,sh⟩:=g.gok.con x d h1
    have p:PE X (.Name x pos) (tE cl E (eCon d)):=se_tC (pe_glob g1 m r g2) sh
    exact ⟨(fun z=>by cases z),p,fun _=>st_val p (fun _=>rfl),rfl⟩
   ·cases h
 ·obtain ⟨fs,h1,h2⟩:=map_some h
  cases h2
  rename_i es kk pos
  have p:PE X (.Tuple es kk pos) (tE cl E (eTup fs)):=se_tup (shL_ok hs g h1).1
  exact ⟨(fun z=>by cases z),p,fun _=>st_val p (fun _=>rfl),rfl⟩
 ·obtain ⟨fs,h1,h2⟩:=map_some h
  cases h2
  rename_i es pos
  have p:PE X (.List es pos) (tN cl E (eLst fs)):=se_lst (shL_ok hs g h1).1
  exact ⟨fun _=>p,se_new p,fun _=>st_val (se_new p) (fun _=>rfl),rfl⟩
 ·split at h
  ·rename_i a op b pos hm
   obtain ⟨fa,h2,h⟩:=bind_some h
   obtain ⟨fb,h3,h⟩:=bind_some h
   cases h
   rw [Bool.and_eq_true] at hm
   have ho:op=.Mult:=by cases op<;>first | rfl | cases hm.2
   subst ho
   have p:PE X (.BinOp a .Mult b pos) (tN cl E (eBin mulLD fa fb)):=se_mulL (op_ok hs g h2).1 (op_ok hs g h3).1
   exact ⟨fun _=>p,se_new p,fun _=>st_val (se_new p) (fun _=>rfl),rfl⟩
  obtain ⟨gg,h1,h⟩:=bind_some h
  obtain ⟨fa,h2,h⟩:=bind_some h
  obtain ⟨fb,h3,h⟩:=bind_some h
  cases h
  exact ⟨(fun z=>by cases z),se_bin (bin_ok h1) (op_ok hs g h2).1 (op_ok hs g h3).1,fun _=>st_val (se_bin (bin_ok h1) (op_ok hs g h2).1 (op_ok hs g h3).1) (fun _=>rfl),rfl⟩
 ·rename_i op a pos
  unfold unG at h
  split at h
  ·split at h
   ·rename_i ht
    obtain ⟨fa,h1,h2⟩:=map_some h
    cases h2
    obtain ⟨a1,a2,_⟩:=sh_ok hs g h1
    exact ⟨(fun z=>by cases z),se_not a1,fun _=>st_not (a2 ht),rfl⟩
   ·cases h
  ·obtain ⟨fa,h1,h2⟩:=map_some h
   cases h2
   have p:PE X (.UnaryOp .USub a pos) (tE cl E (eUn negD fa)):=se_un ud_neg (op_ok hs g h1).1
   exact ⟨(fun z=>by cases z),p,fun _=>st_val p (fun _=>rfl),rfl⟩
  ·cases h
 ·obtain ⟨fa,h1,h2⟩:=map_some h
  cases h2
  rename_i op es pos
  obtain ⟨b1,b2⟩:=bool_ok hs g (pos:=pos) h1
  exact ⟨(fun z=>by cases z),b1,fun _=>b2.pt,rfl⟩
 ·rename_i a ops bs pos
  split at h
  ·rename_i p hp
   obtain ⟨w,fe⟩:=p
   cases h
   obtain ⟨rfl,n1,n2⟩:=nin_ok hs g (pos:=pos) hp
   exact ⟨(fun z=>by cases z),n1,fun _=>n2,rfl⟩
  unfold cmpsG at h
  split at h
  ·obtain ⟨gg,h1,h⟩:=bind_some h
   obtain ⟨fa,h2,h⟩:=bind_some h
   obtain ⟨fb,h3,h⟩:=bind_some h
   cases h
   obtain ⟨a1,_⟩:=op_ok hs g h2
   obtain ⟨b1,b2⟩:=op_ok hs g h3
   exact ⟨(fun z=>by cases z),se_cmp (cmp_ok g h1) a1 b1 (okE_marks b2),fun _=>st_cmp (cmp_ok g h1) a1 b1 (okE_marks b2),rfl⟩
  ·obtain ⟨gg,h1,h⟩:=bind_some h
   obtain ⟨gg',h1',h⟩:=bind_some h
   obtain ⟨fa,h2,h⟩:=bind_some h
   obtain ⟨fb,h3,h⟩:=bind_some h
   obtain ⟨fc,h4,h⟩:=bind_some h
   cases h
   obtain ⟨a1,_⟩:=op_ok hs g h2
   obtain ⟨b1,_⟩:=op_ok hs g h3
   obtain ⟨c1,c2⟩:=op_ok hs g h4
   have hm:∀{op op':CmpOp} {b c:Expr},okE c=true->lastMarks [op,op'] [b,c]=false:=fun h=>okE_marks h
   exact ⟨(fun z=>by cases z),se_chain (cmp_ok g h1) (cmp_ok g h1') a1 b1 c1 (hm c2),fun _=>st_chain (cmp_ok g h1) (cmp_ok g h1') a1 b1 c1 (hm c2),rfl⟩
  ·cases h
 ·split at h
  ·rename_i c a b pos ht
   obtain ⟨fc,h1,h⟩:=bind_some h
   obtain ⟨fa,h2,h⟩:=bind_some h
   obtain ⟨fb,h3,h⟩:=bind_some h
   cases h
   obtain ⟨_,c2,_⟩:=sh_ok hs g h1
   exact ⟨(fun z=>by cases z),se_if (c2 ht) (sh_ok hs g h2).1 (sh_ok hs g h3).1,(fun z=>by cases z),rfl⟩
  ·cases h
 ·rename_i a i pos
  split at h
  ·rename_i p hp
   obtain ⟨w,fe⟩:=p
   cases h
   obtain ⟨rfl,n1⟩:=get_ok hs g (pos:=pos) hp
   exact ⟨(fun z=>by cases z),n1,fun _=>st_val n1 (fun _=>rfl),rfl⟩
  unfold subG at h
  split at h
  ·obtain ⟨fa,h1,h⟩:=bind_some h
   obtain ⟨fl,h2,h⟩:=bind_some h
   obtain ⟨fu,h3,h⟩:=bind_some h
   cases h
   exact ⟨(fun z=>by cases z),se_sl (op_ok hs g h1).1 (opt_ok hs g h2) (opt_ok hs g h3),fun _=>st_val (se_sl (op_ok hs g h1).1 (opt_ok hs g h2) (opt_ok hs g h3)) (fun _=>rfl),rfl⟩
  ·split at h
   ·rename_i hix
    obtain ⟨fa,h1,h⟩:=bind_some h
    obtain ⟨fb,h2,h⟩:=bind_some h
    cases h
    have p:PE X (.Subscript a _ pos) (tE cl E (eBin ixD fa fb)):=se_ix (id_ix g.kk) (op_ok hs g h1).1 (op_ok hs g h2).1 (ix_plain hix)
    exact ⟨(fun z=>by cases z),p,fun _=>st_val p (fun _=>rfl),rfl⟩
   ·cases h
 ·rename_i o fl pos
  obtain ⟨rfl,n1⟩:=fld_ok hs g (pos:=pos) h
  exact ⟨(fun z=>by cases z),n1,fun _=>st_val n1 (fun _=>rfl),rfl⟩
 ·rename_i fn args kws cp
  unfold callsG at h
  split at h
  ·rename_i o m ap
   obtain ⟨a1,a2⟩:=meth_ok hs g (ap:=ap) (pos:=cp) h
   exact ⟨a1,a2,fun _=>st_val a2 (fun _=>rfl),rfl⟩
  ·rename_i x p
   split at h
   ·rename_i hk
    have hk':kws=[]:=by simpa using hk
    subst hk'
    split at h
    ·rename_i pm hmk
     obtain ⟨w,fe⟩:=pm
     cases h
     obtain ⟨rfl,n1⟩:=mk_ok hs g (p:=p) (pos:=cp) hmk
     exact ⟨(fun z=>by cases z),n1,fun _=>st_val n1 (fun _=>rfl),rfl⟩
    split at h
    ·rename_i hsp
     cases h
     obtain ⟨a1,a2⟩:=sp_ok hs g (p:=p) (pos:=cp) hsp
     exact ⟨a1,a2,fun _=>st_val a2 (fun _=>rfl),rfl⟩
    ·obtain ⟨a1,a2⟩:=call_ok hs g (p:=p) (pos:=cp) h
     exact ⟨a1,a2,fun _=>st_val a2 (fun _=>rfl),rfl⟩
   ·cases h
  ·cases h
 ·rename_i elt gs scope pos
  unfold lcG at h
  split at h
  ·obtain ⟨fa,h1,h2⟩:=map_some h
   cases h2
   rename_i gg
   have p:PE X (.ListComp elt [gg] scope pos) (tN cl E f):=comp_ok hs g h1
   exact ⟨fun _=>p,se_new p,fun _=>st_val (se_new p) (fun _=>rfl),rfl⟩
  ·cases h
 ·cases h
theorem den_ok:∀n,Sound cl G k (denE G n)
 | 0=>fun _ _ _ _ _ _ _ _ h=>by cases h
 | n+1=>den_step (den_ok n)
end
end S2
namespace S2
open PySem PySem.Spec PyProof.Rows L2
def RaisesS(X:Cx)(E:St->XK):Prop:=∀(C:Addr) (pins:Z3) (σ:St) (H:Hp) (s:Shared) (e:Addr) (h':Heap) (vs:List Value),Inv X pins σ H s->Heap.MadeExcOf s.heap h' e (.ref C) vs->E σ (.ref C) none H->X.xe (.ref e) { s with heap:=h' }
def tRaiseS(C:Addr)(E:St->XK)(t:TA):TS:=fun _ σ H=>t σ H fun vs H1=>vs.length<=sizeLine/\E σ (.ref C) none H1
theorem ps_raiseS{X:Cx}{x:Str}{C:Addr}{E:St->XK}{np cpos pos:Pos}{e:Expr}{es:List Expr}{t:TA}(hr:RaisesS X E)(hc:X.calm=true)(hg:Gl X x)(hm:X.mg x=some (.ref C))
  (z:PySem.W.excIn X.K C bmV "ValueError.__new__" = true) (ha:PA X (e::es) t)
  (he:starEach (e::es) X.env=(false,eval e X.env)::starEach es X.env) (hpl:(backTo cpos (starEach es X.env)).any (·.1)=false) (hdb:(x == ("__debug__":Str))=false) :
  PS X (.Raise (some (.Call (.Name x np) (e::es) [] cpos)) none pos) (tRaiseS C E t):=by
 intro pins s σ H D I h
 obtain ⟨bm,N,nm,qn,bs,hd,sn,sub,ab,col,dd,c0,c1,c2,c3,c5,mN,o1,o2,o3,o4⟩:=exc_obj I.mod.kin z
 refine wpAny_Raise_call_subU (C:=C) (nm:=nm) (q:=qn) (N:=N) (bs:=bs) (bm:=bm) (hdct:=hd) (sn:=sn) (sub:=sub) (ab:=ab) (col:=col) (dd:=dd) (k0:=c0) (k1:=c1) (k2:=c2) (k3:=c3) (k5:=c5)
  PySem.F.excBase_ValueError (by decide +kernel) PySem.F.excBase_ValueError (mN:=mN) (o4.hasType PySem.F.excBase_ValueError.hasBase) (I.ok.hd hc) (by rw [he];show (false||(backTo cpos (starEach es X.env)).any (·.1))=false;rw [hpl];rfl) o3 (ld_glob I hg hm ⟨rfl,?_⟩ hdb)
 have go:=ha cpos pins s σ H _ I h
 rw [he] at go ⊢
 exact Calls.evalArgs_plain (thn go fun us s2 ⟨vs,H2,I2,r2,q1,q2⟩=>⟨rfl,by rw [<-r2.length];exact q1,I2.bk _ _ o1,o2.keeps I2.bk,o4.keeps I2.bk,fun h' a mk=>hr C pins σ H2 s2 a h' us I2 mk q2⟩)
def sRz(c:Str)(fs:List Fe):Fs:=fun ρ S=>match evalL fs ρ S with | .ok ds S'=>if small ds.length then .ex c ρ S' else .bad | .exc x S'=>.ex x ρ S' | .bad=>.bad
def tryX(X:Cx)(pins:Z3)(E:St->XK):Cx:={ X with pn:=X.pn++pins,xe:=fun e s'=>∃σ H1 s1,Inv X pins σ H1 s1/\CXE X.prog X.w X.stack H1 s1 (E σ) e s' }
section
variable{X:Cx}{pins:Z3}{σ:St}{H:Hp}{s:Shared}{E:St->XK}
end
def tryE(K:PySem.W.Frag)(C:Addr)(i:Nat)(th:TS)(De:Ends):St->XK:=fun σ cls _ H'=>∃C',cls=.ref C'/\Under K C' C/\∀a ob,H' a=none->ob.cls=.ref C'->th (De.goes i) (σ.set i (some (.ref a))) (upd H' a (.frz ob (.own a)))
section
variable{X:Cx}{cl:Cf}{E:St->XK}{own:Bool}
end
end S2
namespace S2
open PySem PySem.Spec PyProof.Rows L2
section
variable{cl:Cf}{B:Base}{σ:St}{w:Wd}{ρ:Env}{S:Sto}
end
def tO(cl:Cf)(E:St->XK):Bool->Fe->TE | true,f=>tN cl E f | false,f=>tE cl E f
section
variable{X:Cx}{cl:Cf}{E:St->XK}{own:Bool}
end
def isComp:Expr->Bool | .ListComp _ _ _ _=>true | .SetComp _ _ _ _=>true | .DictComp _ _ _ _ _=>true | _=>false
theorem swaps_no{e:Expr}{t:Option Expr}{l:Nat}{env:PySem.Env}(h:isComp e=false):swapsWith e t l env=pure false:=by
 cases e<;>first | rfl | cases h
structure Gd(cl:Cf)(G:Genv)(k:Nat)(X:Cx)(nm:Names)(N:List Str)(E:St->XK)(full:Bool):Prop where
 gx:Gx cl G k X nm N E
 fn:∀x,X.fn x=true
 kind:X.env.scope.kind=.function
 sc:X.env.scope.names=nm
 own:full=true->PassesOwn (model X.prog X.w) X.A X.env X.xe
 raises:full=true->RaisesS X E
 stk:X.stack=X.env::X.outer
 frm:X.env.frame=some X.env.locals
def plainsE:Nat->Names->List Str->Expr->List Nat
 | 0,_,_,_=>[]
 | n+1,nm,N,e =>
  let rc:=plainsE n nm N
  let op:=fun (e:Expr)=>match e with | .Name _ _=>[] | e=>rc e
  match e with
  | .Name x _=>(slotOf nm N x).toList
  | .Tuple es _ _=>es.flatMap rc
  | .List es _=>es.flatMap rc
  | .BinOp a _ b _=>op a++op b
  | .UnaryOp _ a _=>rc a
  | .BoolOp _ es _=>es.flatMap rc
  | .Compare a _ bs _=>op a++bs.flatMap op
  | .IfExp c a b _=>rc c++rc a++rc b
  | .Subscript a (.Slice lo hi _ _) _=>op a++lo.toList.flatMap op++hi.toList.flatMap op
  | .Subscript a i _=>op a++op i
  | .Call (.Name f _) args [] _=>if (bltOf f).isSome||decide (f = "isinstance") then args.flatMap op else args.flatMap rc
  | .Call (.Attribute o _ _) args [] _=>op o++args.flatMap rc
  | .Attribute o _ _=>op o
  | .ListComp _ [g] scope _=>rc g.iter++(capsOf scope.names N).map (·.2)
  | _=>[]
def sAsgT(t:Tg)(f:Fe):Fs:=fun ρ S=>match f ρ S with
 | .ok d S'=>(match t.put ρ d with | some ρ'=>.nx ρ' S' | none=>.bad)
 | .exc c S'=>.ex c ρ S'
 | .bad=>.bad
def isConE:Expr->Bool | .Constant _ _ _=>true | _=>false
def isDict0:Expr->Bool | .Dict [] [] _=>true | _=>false
def asgG(G:Genv)(rc:Rec)(nm:Names)(N:List Str)(tg e:Expr):Option Fs:=match tg with
 | .Name x _=>(match e with
  | .ListComp elt [g] scope _=>(tgI true nm N N.length x).bind fun i=>(compG G rc nm N elt g scope).bind fun f=>some (sAsg i true f)
  | e=>if isComp e then none else (tgI true nm N N.length x).bind fun i=>(rc nm N e).bind fun p=>some (sAsg i p.1 p.2))
 | .Tuple [.Name x px,.Name y py] k pt=>(match e with
  | .Tuple [a,b] _ _=>none
  | .Tuple _ _ _=>none
  | e=>(tgG true nm N N.length (.Tuple [.Name x px,.Name y py] k pt)).bind fun t=>(shE rc nm N e).bind fun f=>some (sAsgT t f))
 | .Tuple es k pt=>(match e with
  | .Tuple _ _ _=>none
  | e=>(tgG true nm N N.length (.Tuple es k pt)).bind fun t=>(shE rc nm N e).bind fun f=>some (sAsgT t f))
 | .Attribute o f _=>(nmF o).bind fun x=>if isDict0 e then (if G.ob.df f&&G.ob.fk G.ob.cur f then (slotOf nm N x.1).map fun i=>sFldD G.ob.cur f i else none) else (if G.ob.df f||!G.ob.fk G.ob.cur f then none else (shE rc nm N o).bind fun fo=>(shE rc nm N e).bind fun fe=>some (sFldS G.ob.cur f fo fe))
 | .Subscript (.Attribute o f _) ix _=>if isNameE o&&G.ob.df f&&!isComp e&&G.ob.fk G.ob.cur f then (nmF ix).bind fun x=>(slotOf nm N x.1).bind fun i=>(shE rc nm N o).bind fun fo=>(shE rc nm N e).bind fun fe=>some (sPutK G.ob.cur f fo i fe) else none
 | _=>none
def one?{α:Type}:List α->Option α | [a]=>some a | _=>none
theorem one_eq{α:Type}{l:List α}{a:α}(h:one? l=some a):l=[a]:=by
 cases l with
 | nil=>cases h
 | cons b t=>cases t with
  | nil=>cases h;rfl
  | cons _ _=>cases h
def nameE:Expr->Option (Str×Pos) | .Name x p=>some (x,p) | _=>none
theorem nameE_eq{e:Expr}{x:Str×Pos}(h:nameE e=some x):e=.Name x.1 x.2:=by cases e<;>first | (cases h;done) | (cases h;rfl)
def callE:Expr->Option (Expr×List Expr×List Keyword×Pos) | .Call f a k p=>some (f,a,k,p) | _=>none
theorem callE_eq{e:Expr}{x:Expr×List Expr×List Keyword×Pos}(h:callE e=some x):e=.Call x.1 x.2.1 x.2.2.1 x.2.2.2:=by cases e<;>first | (cases h;done) | (cases h;rfl)
def attE:Expr->Option (Expr×Str×Pos) | .Attribute o m p=>some (o,m,p) | _=>none
theorem attE_eq{e:Expr}{x:Expr×Str×Pos}(h:attE e=some x):e=.Attribute x.1 x.2.1 x.2.2:=by cases e<;>first | (cases h;done) | (cases h;rfl)
def asgS:Stmt->Option (List Expr×Expr×Pos) | .Assign t e p=>some (t,e,p) | _=>none
theorem asgS_eq{e:Stmt}{x:List Expr×Expr×Pos}(h:asgS e=some x):e=.Assign x.1 x.2.1 x.2.2:=by cases e<;>first | (cases h;done) | (cases h;rfl)
structure Mc where
 x:Str
 px:Pos
 m:Str
 ap:Pos
 a:Expr
 cp:Pos
def methE(e:Expr):Option Mc:=(callE e).bind fun c=>if c.2.2.1.isEmpty then (attE c.1).bind fun t=>(nameE t.1).bind fun x=>(one? c.2.1).bind fun a=>some ⟨x.1,x.2,t.2.1,t.2.2,a,c.2.2.2⟩ else none
def exprG(G:Genv)(rc:Rec)(nm:Names)(N:List Str)(e:Expr):Option Fs:=match methE e with
 | some c=>if decide (c.m = "append")&&(c.ap.endLine == c.cp.line) then (slotOf nm N c.x).bind fun i=>(shE rc nm N c.a).bind fun f=>some (sApp i f)
  else if isComp e then none else (shE rc nm N e).map sExp
 | none=>if isComp e then none else (shE rc nm N e).map sExp
def retG(rc:Rec)(nm:Names)(N:List Str)(own:Bool)(e:Expr):Option Fs:=match own with
 | true=>(match e with
  | .Name x _=>(slotOf nm N x).map sRetV
  | e=>(rc nm N e).bind fun p=>if p.1 then some (sRet p.2) else none)
 | false=>(shE rc nm N e).map sRet
def rzG(G:Genv)(rc:Rec)(nm:Names)(N:List Str)(full:Bool)(a b:Option Expr):Option Fs:=if b.isNone then a.bind fun e=>(callE e).bind fun c=>(nameE c.1).bind fun x=>if c.2.2.1.isEmpty&&!c.2.1.isEmpty&&full&&isGlob nm x.1&&G.exc x.1 then (shL rc nm N c.2.1).bind fun fs=>some (sRz x.1 fs) else none else none
def stG(G:Genv)(rc:Rec)(rs:Bool->List Stmt->Option Fs)(nm:Names)(N:List Str)(own full:Bool)(st:Stmt):Option Fs:=match st with
 | .Pass _=>some sNx
 | .Break _=>some sBk
 | .Assign ts e _=>(one? ts).bind fun tg=>asgG G rc nm N tg e
 | .Expr e _=>exprG G rc nm N e
 | .AugAssign tg op e _=>(nameE tg).bind fun x=>(augI op).bind fun gg=>(tgI true nm N N.length x.1).bind fun i=>(shE rc nm N e).bind fun f=>some (sAug i gg f)
 | .Return o _=>(match o with | some e=>retG rc nm N own e | none=>if own then none else some sRetN)
 | .If c a b _=>if testable c then (shE rc nm N c).bind fun f=>(rs full a).bind fun g=>(rs full b).bind fun h=>some (sIf f g h) else none
 | .For tg it body el _=>if full&&el.isEmpty then (iterG G rc nm N tg it).bind fun i=>(tgG true nm N N.length tg).bind fun t=>(rs full body).bind fun b=>some (sFor t i b) else none
 | .Raise a b _=>rzG G rc nm N full a b
 | _=>none
end S2
namespace S2
open PySem PySem.Spec PyProof.Rows L2
def plainsS(n:Nat)(own:Bool)(nm:Names)(N:List Str):Stmt->List Nat
 | .Assign [_] e _=>plainsE n nm N e
 | .Expr (.Call (.Attribute _ _ _) args [] _) _=>args.flatMap (plainsE n nm N)
 | .Expr e _=>plainsE n nm N e
 | .Return (some (.Name x p)) _=>if own then [] else plainsE n nm N (.Name x p)
 | .Return (some e) _=>plainsE n nm N e
 | .If c _ _ _=>plainsE n nm N c
 | .For _ it _ _ _=>plainsE n nm N it
 | .While c _ _ _=>plainsE n nm N c
 | _=>[]
def blk(ds:Stmt->Option Fs):List Stmt->Option Fs
 | []=>some sNx
 | s::r=>(ds s).bind fun f=>(blk ds r).bind fun g=>some (sSeq f g)
def denSt(G:Genv)(own:Bool):Nat->Bool->Names->List Str->Stmt->Option Fs
 | 0,_,_,_,_=>none
 | n+1,full,nm,N,st=>(stG G (denE G n) (fun fl b=>blk (denSt G own n fl nm N) b) nm N own full st).map (sFz (plainsS n own nm N st))
section
variable{cl:Cf}{G:Genv}{k:Nat}{rc:Rec}{X:Cx}{nm:Names}{N:List Str}{E:St->XK}{own full:Bool}
theorem Gd.sto(g:Gd cl G k X nm N E full):Sto' X true:=⟨fun _=>g.fn⟩
theorem swaps_comp{elt:Expr}{gs:List Comprehension}{scope:Scope}{p px:Pos}{x:Str}{l:Nat}{env:PySem.Env}:∃b,swapsWith (.ListComp elt gs scope p) (some (.Name x px)) l env=pure b:=⟨_,rfl⟩
theorem asgT_post{n:Nat}{t:Tg}{f:Fe}{De:Ends}{σ:St}{H:Hp}(q:tS cl E own (sAsgT t f) De σ H):tAsg (tE cl E f) (tG cl n t) De σ H:=by
 obtain ⟨B,w,ρ,S,rfl,R,q⟩:=q
 refine ⟨B,w,ρ,S,rfl,R,?_⟩
 unfold sAsgT at q
 cases hf:f ρ S with
 | bad=>rw [hf] at q;exact q
 | exc c S1=>rw [hf] at q;exact fun w' R' F'=>q σ w' R' F'
 | ok d S1 =>
  rw [hf] at q
  intro v w' R' F' h'
  dsimp only at q
  cases hp:t.put ρ d with
  | none=>rw [hp] at q;exact q.elim
  | some ρ'=>rw [hp] at q;exact ⟨B,w',ρ,S1,d,ρ',rfl,R',h',hp,fun σ' _ _ R2=>q σ' w' R2 F'⟩
theorem comp_asg(hs:Sound cl G k rc)(g:Gd cl G k X nm N E full){elt:Expr}{gg:Comprehension}{scope:Scope}{x:Str}{i:Nat}{f:Fe}{p px pos:Pos}(hi:tgI true nm N N.length x=some i)(h:compG G rc nm N elt gg scope=some f) :
  PS X (.Assign [.Name x px] (.ListComp elt [gg] scope p) pos) (tS cl E own (sAsg i true f)):=by
 obtain ⟨a1,a2,a3,a4,a5⟩:=tgI_ok g.gx g.sto hi
 obtain ⟨b,hb⟩:=swaps_comp (elt:=elt) (gs:=[gg]) (scope:=scope) (p:=p) (px:=px) (x:=x) (l:=pos.line) (env:=X.env)
 cases b with
 | false=>exact ss_asgN a2 a3 a4 (comp_ok hs g.gx h) hb a5
 | true =>
  obtain ⟨it,t,c,el,rfl,eg,S,i1,i2,i3,i4,i5⟩:=comp_parts hs g.gx h
  rw [eg] at hb ⊢
  refine PS.imp (ps_compG g.gx.calm S a2 a3 a4 i1 i3 i4 i5 hb a5 (okE_fold i2)) ?_
  intro De σ H q
  exact comp_N (asg_N q)
theorem con_sw{x y:Str}{px py pt pt2 p1 p2:Pos}{kt k2:Nat}{a b:Const}{ka kb:Nat}{env:PySem.Env}:swappedStores [.Tuple [.Name x px,.Name y py] kt pt] (.Tuple [.Constant a ka p1,.Constant b kb p2] k2 pt2) env=pure none:=by
 have hf:∀(c:Const) (k:Nat) (p:Pos),foldedForSure 8 (.Constant c k p)=true:=fun _ _ _=>rfl
 unfold swappedStores
 simp only [List.all_cons,List.all_nil,hf,Bool.and_self,if_true]
 split<;>first | rfl | (split<;>first | rfl | (split<;>rfl))
theorem asg_ok(hs:Sound cl G k rc)(g:Gd cl G k X nm N E full){tg e:Expr}{f:Fs}{pos:Pos}(h:asgG G rc nm N tg e=some f):PS X (.Assign [tg] e pos) (tS cl E own f):=by
 have tupCase:∀{es:List Expr} {kk:Nat} {pt:Pos} {e:Expr},swappedStores [.Tuple es kk pt] e X.env=pure none->((tgG true nm N N.length (.Tuple es kk pt)).bind fun t=>(shE rc nm N e).bind fun f=>some (sAsgT t f))=some f->PS X (.Assign [.Tuple es kk pt] e pos) (tS cl E own f):=by
  intro es kk pt e sw2 h
  obtain ⟨t,h1,h⟩:=bind_some h
  obtain ⟨fe,h2,h⟩:=bind_some h
  cases h
  have sw1:swapsWithSole [.Tuple es kk pt] e pos.line X.env=pure false:=by cases e<;>rfl
  exact PS.imp (ps_asg (sh_ok hs g.gx h2).1 (tg_ok g.gx g.sto h1) sw1 sw2 rfl) fun _ _ _ q=>asgT_post q
 have noTup:∀{es:List Expr} {kk:Nat} {pt:Pos} {e:Expr},(∀vs k p,e≠.Tuple vs k p)->swappedStores [.Tuple es kk pt] e X.env=pure none:=by
  intro es kk pt e ne
  cases e<;>first | rfl | exact absurd rfl (ne _ _ _)
 unfold asgG at h
 split at h
 ·rename_i x px
  split at h
  ·obtain ⟨i,h1,h⟩:=bind_some h
   obtain ⟨fe,h2,h⟩:=bind_some h
   cases h
   exact comp_asg hs g h1 h2
  ·split at h
   ·cases h
   ·rename_i hc
    obtain ⟨i,h1,h⟩:=bind_some h
    obtain ⟨⟨o,fe⟩,h2,h⟩:=bind_some h
    cases h
    obtain ⟨a1,a2,a3,a4,a5⟩:=tgI_ok g.gx g.sto h1
    obtain ⟨b1,b2,_,_⟩:=hs X nm N E g.gx _ o fe h2
    have sw:=swaps_no (t:=some (.Name x px)) (l:=pos.line) (env:=X.env) (by simpa using hc)
    cases o with
    | false=>exact ss_asg a2 a3 a4 b2 sw a5
    | true=>exact ss_asgN a2 a3 a4 (b1 rfl) sw a5
 ·rename_i x px y py kk pt
  split at h
  ·cases h
  ·cases h
  ·rename_i _ hne
   exact tupCase (noTup fun vs kk p z=>hne _ _ _ z) h
 ·split at h
  ·cases h
  ·rename_i hne
   exact tupCase (noTup fun vs kk p z=>hne _ _ _ z) h
 ·rename_i o fl ap
  obtain ⟨x,h1,hz⟩:=bind_some h
  have e1:=nmF_eq h1
  clear h h1
  subst e1
  have sw:=fun (e:Expr)=>show swapsWith e (some (.Attribute (.Name x.1 x.2) fl ap)) pos.line X.env=pure false by cases e<;>rfl
  split at hz
  ·rename_i hd
   split at hz
   ·rename_i hf
    rw [Bool.and_eq_true] at hf
    obtain ⟨i,h1,hz⟩:=map_some hz
    subst hz
    obtain ⟨s1,s2,s3,s4⟩:=g.gx.slot h1
    have ed:∃p,e=.Dict [] [] p:=by
     unfold isDict0 at hd
     split at hd
     ·exact ⟨_,rfl⟩
     ·cases hd
    obtain ⟨p,rfl⟩:=ed
    exact ss_fldD s1 s2 s3 s4 g.gx.same (g.gx.gok.fk _ _ hf.2) (sw _)
   ·cases hz
  ·split at hz
   ·cases hz
   ·rename_i hf
    rw [Bool.not_eq_true,Bool.or_eq_false_iff,Bool.not_eq_false'] at hf
    obtain ⟨fo,h2,hz⟩:=bind_some hz
    obtain ⟨fe,h3,hz⟩:=bind_some hz
    cases hz
    exact ss_fldS g.gx.same (g.gx.gok.fk _ _ hf.2) (sh_ok hs g.gx h2).1 (sh_ok hs g.gx h3).1 (sw _)
 ·rename_i o fl ap ix p3
  split at h
  ·rename_i hc
   rw [Bool.and_eq_true,Bool.and_eq_true,Bool.and_eq_true,Bool.not_eq_true'] at hc
   obtain ⟨x,h1,hz⟩:=bind_some h
   have e1:=nmF_eq h1
   clear h h1
   subst e1
   obtain ⟨i,h1,hz⟩:=bind_some hz
   obtain ⟨fo,h2,hz⟩:=bind_some hz
   obtain ⟨fe,h3,hz⟩:=bind_some hz
   cases hz
   obtain ⟨s1,s2,s3,s4⟩:=g.gx.slot h1
   refine ss_putK s1 s2 s3 s4 g.gx.u16 g.gx.same (g.gx.gok.fk _ _ hc.2) (sh_ok hs g.gx h2).1 ?_ (sh_ok hs g.gx h3).1 ?_ ?_ ?_
   ·cases o<;>first | rfl | cases hc.1.1.1
   ·cases e<;>first | rfl | cases hc.1.2
   ·cases e<;>first | rfl | cases hc.1.2
   ·intro _;rfl
  ·cases h
 ·cases h
theorem methE_eq{e:Expr}{c:Mc}(h:methE e=some c):e=.Call (.Attribute (.Name c.x c.px) c.m c.ap) [c.a] [] c.cp:=by
 unfold methE at h
 obtain ⟨c1,h1,h⟩:=bind_some h
 split at h
 ·rename_i hk
  obtain ⟨t,h2,h⟩:=bind_some h
  obtain ⟨x,h3,h⟩:=bind_some h
  obtain ⟨a,h4,h⟩:=bind_some h
  cases h
  rw [callE_eq h1,attE_eq h2,nameE_eq h3,one_eq h4,List.isEmpty_iff.mp hk]
 ·cases h
theorem expr_ok(hs:Sound cl G k rc)(g:Gd cl G k X nm N E full){e:Expr}{f:Fs}{pos:Pos}(h:exprG G rc nm N e=some f):PS X (.Expr e pos) (tS cl E own f):=by
 unfold exprG at h
 cases hc:methE e with
 | some c =>
  obtain ⟨x,px,m,ap,a,cp⟩:=c
  obtain rfl:=methE_eq hc
  rw [hc] at h
  dsimp only at h
  split at h
  ·rename_i hm
   rw [Bool.and_eq_true] at hm
   have em:=of_decide_eq_true hm.1
   subst em
   obtain ⟨i,h1,h⟩:=bind_some h
   obtain ⟨fe,h2,h⟩:=bind_some h
   cases h
   obtain ⟨s1,s2,s3,s4⟩:=g.gx.slot h1
   obtain ⟨a1,_,a3⟩:=sh_ok hs g.gx h2
   exact ss_app s1 s2 s3 s4 a1 (okE_plain a3) hm.2
  split at h
  ·cases h
  ·rename_i hc
   obtain ⟨fe,h2,h⟩:=map_some h
   subst h
   exact ss_exp (sh_ok hs g.gx h2).1 (swaps_no (by simpa using hc))
 | none =>
  rw [hc] at h
  dsimp only at h
  split at h
  ·cases h
  ·rename_i hc
   obtain ⟨fe,h2,h⟩:=map_some h
   subst h
   exact ss_exp (sh_ok hs g.gx h2).1 (swaps_no (by simpa using hc))
theorem ret_ok(hs:Sound cl G k rc)(g:Gd cl G k X nm N E full){e:Expr}{f:Fs}{pos:Pos}(h:retG rc nm N own e=some f):PS X (.Return (some e) pos) (tS cl E own f):=by
 unfold retG at h
 split at h
 ·split at h
  ·obtain ⟨i,h1,h⟩:=map_some h
   subst h
   obtain ⟨s1,s2,s3,s4⟩:=g.gx.slot h1
   exact ss_retV s1 s2 s3 s4
  ·obtain ⟨⟨o,fe⟩,h1,h⟩:=bind_some h
   dsimp only at h
   split at h
   ·rename_i ho
    cases h
    exact ss_retN ((hs X nm N E g.gx _ o fe h1).1 ho)
   ·cases h
 ·obtain ⟨fe,h2,h⟩:=map_some h
  subst h
  exact ss_ret (sh_ok hs g.gx h2).1
theorem st_ok(hs:Sound cl G k rc){rs:Bool->List Stmt->Option Fs}(hr:∀(fl:Bool) (X:Cx) (E:St->XK),Gd cl G k X nm N E fl->∀b f,rs fl b=some f->PSs X b (tS cl E own f))(g:Gd cl G k X nm N E full){st:Stmt}{f:Fs}(h:stG G rc rs nm N own full st=some f):PS X st (tS cl E own f):=by
 cases st with
 | Pass p=>cases h;exact ss_pass
 | Break p=>cases h;exact ss_brk
 | Assign ts e p =>
  obtain ⟨tg,h1,h⟩:=bind_some (show ((one? ts).bind fun tg=>asgG G rc nm N tg e)=some f from h)
  obtain rfl:=one_eq h1
  exact asg_ok hs g h
 | Expr e p=>exact expr_ok hs g h
 | AugAssign tg op e p =>
  obtain ⟨x,h1,hz⟩:=bind_some (show ((nameE tg).bind fun x=>(augI op).bind fun gg=>(tgI true nm N N.length x.1).bind fun i=>(shE rc nm N e).bind fun f=>some (sAug i gg f))=some f from h)
  obtain ⟨gg,h2,hz⟩:=bind_some hz
  obtain ⟨i,h3,hz⟩:=bind_some hz
  obtain ⟨fe,h4,hz⟩:=bind_some hz
  cases hz
  rw [nameE_eq h1]
  obtain ⟨_,a2,a3,a4,a5⟩:=tgI_ok g.gx g.sto h3
  exact ss_aug h2 a2 a3 a4 (sh_ok hs g.gx h4).1 a5
 | Return o p =>
  cases o with
  | some e=>exact ret_ok hs g h
  | none =>
   have h':(if own then none else some sRetN)=some f:=h
   split at h'
   ·cases h'
   ·rename_i ho
    cases h'
    have:own=false:=by simpa using ho
    subst this
    exact ss_ret0
 | If c a b p =>
  have h':(if testable c then (shE rc nm N c).bind fun f=>(rs full a).bind fun g=>(rs full b).bind fun h=>some (sIf f g h) else none)=some f:=h
  split at h'
  ·rename_i ht
   obtain ⟨fc,h1,h⟩:=bind_some h'
   obtain ⟨fa,h2,h⟩:=bind_some h
   obtain ⟨fb,h3,h⟩:=bind_some h
   cases h
   exact ss_if ((sh_ok hs g.gx h1).2.1 ht) (hr full X E g a fa h2) (hr full X E g b fb h3)
  ·cases h'
 | For tg it body el p =>
  have h':(if full&&el.isEmpty then (iterG G rc nm N tg it).bind fun i=>(tgG true nm N N.length tg).bind fun t=>(rs full body).bind fun b=>some (sFor t i b) else none)=some f:=h
  split at h'
  ·rename_i hf
   rw [Bool.and_eq_true] at hf
   obtain rfl:=List.isEmpty_iff.mp hf.2
   obtain ⟨it,h1,h⟩:=bind_some h'
   obtain ⟨t,h2,h⟩:=bind_some h
   obtain ⟨fb,h3,h⟩:=bind_some h
   cases h
   obtain ⟨i1,i2⟩:=iter_ok hs g.gx (tg:=_) h1
   exact ss_for (g.own hf.1) g.gx.calm i1 (tg_ok g.gx g.sto h2) (hr full X E g _ fb h3) (okE_fold i2)
  ·cases h'
 | Raise ea eb p =>
  have h':rzG G rc nm N full ea eb=some f:=h
  unfold rzG at h'
  split at h'
  ·rename_i hb
   obtain rfl:=Option.isNone_iff_eq_none.mp hb
   obtain ⟨e0,e1,hz⟩:=bind_some h'
   obtain ⟨c0,h1,hy⟩:=bind_some hz
   obtain ⟨⟨c,p⟩,h2,hx⟩:=bind_some hy
   have e2:=callE_eq h1
   obtain ⟨fn,args,kws,cp⟩:=c0
   have e3:fn=.Name c p:=nameE_eq h2
   clear h h' hz hy h1 h2
   subst e1;subst e2;subst e3
   dsimp only at hx ⊢
   split at hx
   ·rename_i hf
    simp only [Bool.and_eq_true] at hf
    obtain ⟨⟨⟨⟨k0,a0⟩,f0⟩,g0⟩,x0⟩:=hf
    obtain rfl:=List.isEmpty_iff.mp k0
    cases args with
    | nil=>cases a0
    | cons e es =>
    obtain ⟨fs,h1,h⟩:=bind_some hx
    cases h
    obtain ⟨g1,g2,_⟩:=g.gx.glob g0
    obtain ⟨m,z⟩:=g.gx.gok.exc c x0
    obtain ⟨a1,a2,_⟩:=shL_ok hs g.gx h1
    rw [List.all_cons,Bool.and_eq_true] at a2
    refine PS.imp (ps_raiseS (g.raises f0) g.gx.calm g1 m z a1 (star1 a2.1) (plain_any a2.2) g2) ?_
    rintro De σ H ⟨B,w,ρ,S,rfl,R,q⟩
    refine ⟨B,w,ρ,S,rfl,R,?_⟩
    unfold sRz at q
    cases hv:evalL fs ρ S with
    | bad=>rw [hv] at q;exact q
    | exc c S1=>rw [hv] at q;exact fun w' R' F'=>q σ w' R' F'
    | ok ds S1 =>
     rw [hv] at q
     dsimp only at q
     cases hz:small ds.length with
     | false=>rw [hz,if_neg (by decide)] at q;exact q.elim
     | true =>
      rw [hz,if_pos rfl] at q
      exact fun vs w' R' F' sh=>⟨by rw [sh.length];exact small_line hz,q σ w' R' F'⟩
   ·cases hx
  ·cases h'
 | _=>cases h
theorem blk_ok{ds:Stmt->Option Fs}(hd:∀st f,ds st=some f->PS X st (tS cl E own f)):∀{b:List Stmt} {f:Fs},blk ds b=some f->PSs X b (tS cl E own f)
 | [],f,h=>by cases h;exact ss_nil
 | s::r,f,h=>by
  unfold blk at h
  obtain ⟨f1,h1,h⟩:=bind_some h
  obtain ⟨f2,h2,h⟩:=bind_some h
  cases h
  exact ss_cons (hd s f1 h1) (blk_ok hd h2)
theorem denSt_ok:∀(n:Nat) (fl:Bool) (X:Cx) (E:St->XK),Gd cl G k X nm N E fl->∀st f,denSt G own n fl nm N st=some f->PS X st (tS cl E own f)
 | 0,_,_,_,_,_,_,h=>by cases h
 | n+1,fl,X,E,g,st,f,h=>by
  unfold denSt at h
  obtain ⟨f1,h1,h⟩:=map_some h
  subst h
  exact ss_fz _ (st_ok (den_ok n) (fun fl X E g b f hb=>blk_ok (fun st f hst=>denSt_ok n fl X E g st f hst) hb) g h1)
end
def runD(nN:Nat)(own:Bool)(fs:Fs)(ds:List D)(S:Sto):Out D:=match fs (ds.map (fun d=>some (false,d))++List.replicate (nN-ds.length) none) S with
 | .rt d S'=>.ok d S'
 | .nx _ S'=>if own then .bad else .ok .non S'
 | .ex c _ S'=>.exc c S'
 | _=>.bad
def denDef(G:Genv)(own:Bool)(N:List Str)(st:Stmt):Option Fs:=blk (denSt G own 40 true (defScope st).names N) (defBody st)
theorem fn_ok{P:Program}{wo:PySem.World}{K:PySem.W.Frag}{mg:Z6}{base:Heap}{cl:Cf}{G:Genv}{k:Nat}{x qual:Str}{st:Stmt}{f:Addr}{fd:FuncData}{N ps:List Str}{own:Bool}{fs:Fs}(F:Fun K x qual st f fd)(S:FnScope N ps (defScope st))(hG:GOk cl G P wo K mg base k)
  (hk:K=cl.K) (hP:P=cl.P) (hW:wo=cl.wo) (hd:denDef G own N st=some fs):FnOk P wo K mg base (CXE P wo) (k+1) f fd ps (spOf cl ps.length own (runD N.length own fs)):=by
 obtain ⟨oc,od,kV,doc,pm,an,cdv,ct,osl,rfl,lk,hcd⟩:=F.ex
 refine fn_of lk hcd S (fun vs H Q E h=>h.1) fun A outer s H vs Q E hr hsp=>?_
 refine ⟨tS cl (fun _=>E) own fs,?_,?_⟩
 ·have g:Gd cl G k (cxOf (CXE P wo) P wo K mg base N qual (defScope st) f cdv A outer s H E) (defScope st).names N (fun _=>E) true :=
   ⟨⟨hG,hr,rfl,fun pins σ H1 s1 e s' I q=>passE pins σ H1 s1 e s' I q,rfl,hk,hP,hW,S.nd,fun x kd h=>⟨kd,h,.inl rfl⟩,fun x h=>h⟩,fun _=>rfl,S.kind,rfl,fun _=>PassesOwn.leaving,fun _ C pins σ H1 s1 e h' vs I mk q=>raisesE C pins σ H1 s1 e h' vs I mk q,rfl,rfl⟩
  exact blk_ok (fun st f hst=>denSt_ok 40 true _ _ g st f hst) hd
 ·obtain ⟨hl,B,w,ds,S0,rfl,W,sh,q⟩:=hsp
  have hdl:ds.length=vs.length:=sh.length.symm
  refine ⟨B,w,ds.map (fun d=>some (false,d))++List.replicate (N.length-ds.length) none,S0,rfl,⟨W,?_,fun i o d hi=>?_⟩,?_⟩
  ·unfold L2.start
   rw [List.length_append,List.length_append,List.length_map,List.length_map,List.length_replicate,List.length_replicate,hdl]
  ·by_cases hlt:i<ds.length
   ·rw [List.getElem?_append_left (by rw [List.length_map];exact hlt),List.getElem?_map] at hi
    cases hdi:ds[i]? with
    | none=>rw [hdi] at hi;cases hi
    | some d' =>
     rw [hdi] at hi
     cases hi
     obtain ⟨v,e1,e2⟩:=sh.at hdi
     refine ⟨v,?_,e2⟩
     unfold L2.start
     rw [List.getElem?_append_left (by rw [List.length_map];omega),List.getElem?_map,e1];rfl
   ·rw [List.getElem?_append_right (by rw [List.length_map];omega),List.getElem?_replicate] at hi
    split at hi<;>cases hi
  ·unfold runD at q
   cases hf:fs (ds.map (fun d=>some (false,d))++List.replicate (N.length-ds.length) none) S0 with
   | bad=>rw [hf] at q;exact q
   | bk _ _=>rw [hf] at q;exact q.elim
   | ct _ _=>rw [hf] at q;exact q.elim
   | rt d S'=>rw [hf] at q;exact q
   | ex c ρ' S'=>rw [hf] at q;exact fun σ' w' R' F'=>q w' R'.wd F'
   | nx ρ' S' =>
    rw [hf] at q
    dsimp only at q
    cases own with
    | true=>exact q.elim
    | false=>exact fun σ' w' R' F'=>q .non w' R'.wd F' .non
structure FunD(K:PySem.W.Frag)(x qual:Str)(st:Stmt)(f:Addr)(fd:FuncData)(items:Array Value):Prop where
 ex:∃(oc:Value) (od:Option Addr) (T:Addr) (o:Obj) (n:Nat) (kV doc pm:Value) (an:Option Addr) (cdv ct:Value) (osl:Array (Option Value)),
  fd=PySem.W.fnOf x qual (defArgs st) (defBody st) (defScope st) (.ref T) kV doc pm an cdv ct/\K.lookup f=some ⟨oc,od,.func fd,osl⟩/\PySem.W.codeIn K cdv qual=true/\K.lookup T=some o/\o.data=.seq items n
def inC(j:Nat):Stmt->Stmt | .ClassDef _ _ _ b ..=>b.getD j (.Pass ⟨0,0,0,0⟩) | s=>s
theorem fn_okD{P:Program}{wo:PySem.World}{K:PySem.W.Frag}{mg:Z6}{base:Heap}{cl:Cf}{G:Genv}{k:Nat}{x qual:Str}{st:Stmt}{f:Addr}{fd:FuncData}{N ps:List Str}{own:Bool}{fs:Fs}{items:Array Value}(F:FunD K x qual st f fd items)(S:FnScope N ps (defScope st))(hG:GOk cl G P wo K mg base k)
  (hk:K=cl.K) (hP:P=cl.P) (hW:wo=cl.wo) (hd:denDef G own N st=some fs):FnOk P wo K mg base (CXE P wo) (k+1) f fd ps (spOf cl ps.length own (runD N.length own fs)):=by
 obtain ⟨oc,od,T,o,n,kV,doc,pm,an,cdv,ct,osl,rfl,lk,hcd,_⟩:=F.ex
 refine fn_of lk hcd S (fun vs H Q E h=>h.1) fun A outer s H vs Q E hr hsp=>?_
 refine ⟨tS cl (fun _=>E) own fs,?_,?_⟩
 ·have g:Gd cl G k (cxOf (CXE P wo) P wo K mg base N qual (defScope st) f cdv A outer s H E) (defScope st).names N (fun _=>E) true :=
   ⟨⟨hG,hr,rfl,fun pins σ H1 s1 e s' I q=>passE pins σ H1 s1 e s' I q,rfl,hk,hP,hW,S.nd,fun x kd h=>⟨kd,h,.inl rfl⟩,fun x h=>h⟩,fun _=>rfl,S.kind,rfl,fun _=>PassesOwn.leaving,fun _ C pins σ H1 s1 e h' vs I mk q=>raisesE C pins σ H1 s1 e h' vs I mk q,rfl,rfl⟩
  exact blk_ok (fun st f hst=>denSt_ok 40 true _ _ g st f hst) hd
 ·obtain ⟨hl,B,w,ds,S0,rfl,W,sh,q⟩:=hsp
  have hdl:ds.length=vs.length:=sh.length.symm
  refine ⟨B,w,ds.map (fun d=>some (false,d))++List.replicate (N.length-ds.length) none,S0,rfl,⟨W,?_,fun i o d hi=>?_⟩,?_⟩
  ·unfold L2.start
   rw [List.length_append,List.length_append,List.length_map,List.length_map,List.length_replicate,List.length_replicate,hdl]
  ·by_cases hlt:i<ds.length
   ·rw [List.getElem?_append_left (by rw [List.length_map];exact hlt),List.getElem?_map] at hi
    cases hdi:ds[i]? with
    | none=>rw [hdi] at hi;cases hi
    | some d' =>
     rw [hdi] at hi
     cases hi
     obtain ⟨v,e1,e2⟩:=sh.at hdi
     refine ⟨v,?_,e2⟩
     unfold L2.start
     rw [List.getElem?_append_left (by rw [List.length_map];omega),List.getElem?_map,e1];rfl
   ·rw [List.getElem?_append_right (by rw [List.length_map];omega),List.getElem?_replicate] at hi
    split at hi<;>cases hi
  ·unfold runD at q
   cases hf:fs (ds.map (fun d=>some (false,d))++List.replicate (N.length-ds.length) none) S0 with
   | bad=>rw [hf] at q;exact q
   | bk _ _=>rw [hf] at q;exact q.elim
   | ct _ _=>rw [hf] at q;exact q.elim
   | rt d S'=>rw [hf] at q;exact q
   | ex c ρ' S'=>rw [hf] at q;exact fun σ' w' R' F'=>q w' R'.wd F'
   | nx ρ' S' =>
    rw [hf] at q
    dsimp only at q
    cases own with
    | true=>exact q.elim
    | false=>exact fun σ' w' R' F'=>q .non w' R'.wd F' .non
end S2
namespace S2
open PySem PySem.Spec PyProof.Rows L2
structure Tab where
 con:List (Str×D)
 blt:List Str
 exc:List Str
 und:List (Str×Str)
 rz:List Str
 fk:List (Str×Str)
 df:List Str
def isxF(rz exc:List Str)(c C:Str):Option Bool:=if rz.contains c then (if C = "ValueError" then some true else if exc.contains C then some (decide (C=c)||decide (C = "FloorError")) else none) else none
def undF(l:List (Str×Str))(c C:Str):Bool:=l.contains (c,C)
structure Fn3 where
 cur:Str
 fs:List (Str×FnI)
 ms:List (Str×Str×FnI)
 ks:List (Str×List D×FnI)
def Gn(T:Tab)(F:Fn3):Genv:=⟨fun x=>T.con.lookup x,fun x=>F.fs.lookup x,fun x=>T.blt.contains x,fun x=>T.exc.contains x,undF T.und,isxF T.rz T.exc,⟨F.cur,undF T.fk,fun f=>T.df.contains f,fun m=>F.ms.lookup m,fun c=>F.ks.lookup c⟩⟩
def Fn3.fn(F:Fn3)(x:Str)(fi:FnI):Fn3:=⟨F.cur,(x,fi)::F.fs,F.ms,F.ks⟩
def Fn3.mt(F:Fn3)(m c:Str)(fi:FnI):Fn3:=⟨F.cur,F.fs,(m,c,fi)::F.ms,F.ks⟩
def Fn3.cls(F:Fn3)(c:Str)(dds:List D)(fi:FnI):Fn3:=⟨F.cur,F.fs,F.ms,(c,dds,fi)::F.ks⟩
def Fn3.at(F:Fn3)(c:Str):Fn3:=⟨c,F.fs,F.ms,F.ks⟩
section
variable{cl:Cf}{T:Tab}{P:Program}{wo:PySem.World}{K:PySem.W.Frag}{mg:Z6}{base:Heap}{k:Nat}{fs:Fn3}
theorem lookup_cons'{α:Type}{x y:Str}{a:α}{l:List (Str×α)}{b:α}(h:((x,a)::l).lookup y=some b):(y=x/\b=a)\/l.lookup y=some b:=by
 rw [List.lookup_cons] at h
 cases e:y == x with
 | true=>rw [e] at h;cases h;exact .inl ⟨eq_of_beq e,rfl⟩
 | false=>rw [e] at h;exact .inr h
theorem fa_nil{α:Type}{p:α->Prop}:∀x∈([]:List α),p x:=fun _ h=>nomatch h
theorem fa_cons{α:Type}{p:α->Prop}{a:α}{l:List α}(h:p a)(t:∀x∈l,p x):∀x∈a::l,p x:=fun x hx=>(List.mem_cons.mp hx).elim (fun e=>e ▸ h) (t x)
theorem lookup_in{α:Type}{x:Str}{a:α}:∀{l:List (Str×α)},l.lookup x=some a->(x,a)∈l
 | [],h=>by cases h
 | (y,b)::l,h=>by
  rcases lookup_cons' h with ⟨rfl,rfl⟩ | h
  ·exact List.mem_cons_self
  ·exact List.mem_cons_of_mem _ (lookup_in h)
def IsxOk(K:PySem.W.Frag)(cl:Cf)(exc:List Str)(c:Str):Prop:=PySem.W.ExcCls K (cl c)/\PySem.W.kitOne K (.ref (cl c)) (.type "ValueError")=some true/\∀C∈exc,PySem.W.kitOne K (.ref (cl c)) (.ref (cl C))=some (decide (C=c)||decide (C = "FloorError"))
theorem gok0(hc:∀p∈T.con,∃v u,mg p.1=some u/\RelV v u/\∀w,Shd cl w v p.2)(hb:∀x∈T.blt,mg x=none)(he:∀c∈T.exc,mg c=some (.ref (cl c))/\PySem.W.excIn K (cl c) bmV "ValueError.__new__" = true)(hu:∀p∈T.und,L2.Under K (cl p.1) (cl p.2))(hx:∀c∈T.rz,IsxOk K cl T.exc c)(hfk:∀p∈T.fk,Cls cl.K (cl p.1)/\NoAttr cl.K (cl p.1) p.2):GOk cl (Gn T ⟨"",[],[],[]⟩) P wo K mg base 0 where
 fk:=fun c f h=>hfk (c,f) (by simpa using (show T.fk.contains (c,f)=true from h))
 mt:=fun m c fi h=>by cases h
 mks:=fun c dds fi h=>by cases h
 con:=fun x d h=>hc (x,d) (lookup_in h)
 fn:=fun x fi h=>by cases h
 blt:=fun x h=>hb x (by simpa using (show T.blt.contains x=true from h))
 exc:=fun c h=>he c (by simpa using (show T.exc.contains c=true from h))
 und:=fun c C h=>hu (c,C) (by simpa using (show T.und.contains (c,C)=true from h))
 isx:=fun c C b h=>by
  have h':isxF T.rz T.exc c C=some b:=h
  unfold isxF at h'
  split at h'
  ·rename_i hc
   obtain ⟨x1,x2,x3⟩:=hx c (by simpa using hc)
   refine ⟨x1,?_⟩
   unfold clsV
   split at h'
   ·rename_i hC
    cases h'
    rw [if_pos hC];exact x2
   ·rename_i hC
    rw [if_neg hC]
    split at h'
    ·rename_i hm
     cases h'
     exact x3 C (by simpa using hm)
    ·cases h'
  ·cases h'
theorem GOk.add{x:Str}{fi:FnI}{f:Addr}{fd:FuncData}{ps:List Str}(g:GOk cl (Gn T fs) P wo K mg base k)(m:mg x=some (.ref f))(kp:PySem.W.keepIn K (.ref f)=true)(b:Binds K fd ps [])(F:FnOk P wo K mg base (CXE P wo) (k+1) f fd ps (spOf cl fi.ar fi.own fi.run)) :
  GOk cl (Gn T (fs.fn x fi)) P wo K mg base (k+1) where
 con:=g.con
 fn:=fun y fj h=>by
  rcases lookup_cons' h with ⟨rfl,rfl⟩ | h
  ·exact ⟨f,fd,ps,m,kp,b,F⟩
  ·obtain ⟨f',fd',ps',h1,h2,h3,h4⟩:=g.fn y fj h
   exact ⟨f',fd',ps',h1,h2,h3,h4.mono (Nat.le_succ _)⟩
 blt:=g.blt
 exc:=g.exc
 und:=g.und
 isx:=g.isx
 fk:=g.fk
 mt:=fun m c fi h=>by
  obtain ⟨f',fd',ps',h1,h2,h3,h4⟩:=g.mt m c fi h
  exact ⟨f',fd',ps',h1,h2,h3,h4.mono (Nat.le_succ _)⟩
 mks:=fun c dds fi h=>by
  obtain ⟨f',fd',ps',dvs,ds,k',hk,z⟩:=g.mks c dds fi h
  exact ⟨f',fd',ps',dvs,ds,k',Nat.le_succ_of_le hk,z⟩
theorem GOk.at(g:GOk cl (Gn T fs) P wo K mg base k)(c:Str):GOk cl (Gn T (fs.at c)) P wo K mg base k:=⟨g.con,g.fn,g.blt,g.exc,g.und,g.isx,g.fk,g.mt,g.mks⟩
theorem GOk.up{k':Nat}(g:GOk cl (Gn T fs) P wo K mg base k)(hk:k<=k'):GOk cl (Gn T fs) P wo K mg base k' where
 con:=g.con
 fn:=fun y fj h=>by
  obtain ⟨f',fd',ps',h1,h2,h3,h4⟩:=g.fn y fj h
  exact ⟨f',fd',ps',h1,h2,h3,h4.mono hk⟩
 blt:=g.blt
 exc:=g.exc
 und:=g.und
 isx:=g.isx
 fk:=g.fk
 mt:=fun m c fi h=>by
  obtain ⟨f',fd',ps',h1,h2,h3,h4⟩:=g.mt m c fi h
  exact ⟨f',fd',ps',h1,h2,h3,h4.mono hk⟩
 mks:=fun c dds fi h=>by
  obtain ⟨f',fd',ps',dvs,ds,j,hj,z⟩:=g.mks c dds fi h
  exact ⟨f',fd',ps',dvs,ds,j,Nat.le_trans hj hk,z⟩
theorem GOk.addM{m c:Str}{fi:FnI}{f:Addr}{fd:FuncData}{ps:List Str}(g:GOk cl (Gn T fs) P wo K mg base k)(cc:Cls K (cl c))(hm:Meth K (cl c) m f)(b:Binds K fd ps [])(F:FnOk P wo K mg base (CXE P wo) k f fd ps (spOf cl fi.ar fi.own fi.run)) :
  GOk cl (Gn T (fs.mt m c fi)) P wo K mg base k where
 con:=g.con
 fn:=g.fn
 blt:=g.blt
 exc:=g.exc
 und:=g.und
 isx:=g.isx
 fk:=g.fk
 mt:=fun m' c' fi' h=>by
  rcases lookup_cons' h with ⟨rfl,e⟩ | h
  ·cases e;exact ⟨f,fd,ps,cc,hm,b,F⟩
  ·exact g.mt m' c' fi' h
 mks:=g.mks
theorem GOk.addK{c:Str}{dds:List D}{fi:FnI}{f:Addr}{fd:FuncData}{ps:List Str}{dvs:List V}{ds:List Value}{k':Nat}(g:GOk cl (Gn T fs) P wo K mg base k)(hk:k'+1<=k)(hm:mg c=some (.ref (cl c)))(M:Mk K (cl c) f)(b0:Binds K fd ps [])(bD:Binds K fd ps ds)(vd:Vals dvs ds)(sd:∀w,Shds cl w dvs dds)(F:FnOk P wo K mg base (CXE P wo) k' f fd ps (spOf cl fi.ar false fi.run)) :
  GOk cl (Gn T (fs.cls c dds fi)) P wo K mg base k where
 con:=g.con
 fn:=g.fn
 blt:=g.blt
 exc:=g.exc
 und:=g.und
 isx:=g.isx
 fk:=g.fk
 mt:=g.mt
 mks:=fun c' dds' fi' h=>by
  rcases lookup_cons' h with ⟨rfl,e⟩ | h
  ·cases e;exact ⟨f,fd,ps,dvs,ds,k',hk,hm,M,b0,bD,vd,sd,F⟩
  ·exact g.mks c' dds' fi' h
def recD(nN:Nat)(own:Bool)(body:(List D->Sto->Out D)->Fs):Nat->List D->Sto->Out D
 | 0=>fun _ _=>.bad
 | n+1=>runD nN own (body (recD nN own body n))
theorem sp_bad{n:Nat}{own:Bool}{vs:List V}{H:Hp}{Q:VK}{E:XK}(h:spOf cl n own (fun _ _=>.bad) vs H Q E):False:=by
 obtain ⟨_,B,w,ds,S,_,_,_,q⟩:=h
 exact q
theorem GOk.addR{m c qual:Str}{st:Stmt}{f:Addr}{fd:FuncData}{N ps:List Str}{own:Bool}{body:(List D->Sto->Out D)->Fs}(g:GOk cl (Gn T fs) P wo K mg base k)(U:Fun K m qual st f fd)(S:FnScope N ps (defScope st))(hK:K=cl.K)(hP:P=cl.P)(hW:wo=cl.wo)(cc:Cls K (cl c))(hm:Meth K (cl c) m f)(b:Binds K fd ps [])
  (hd:∀r,denDef (Gn T ((fs.mt m c ⟨ps.length,own,r⟩).at c)) own N st=some (body r)):∀n,GOk cl (Gn T (fs.mt m c ⟨ps.length,own,recD N.length own body n⟩)) P wo K mg base (k+n)
 | 0=>g.addM cc hm b ⟨fun vs H Q E h=>(sp_bad h).elim,fun A outer s H args us vs Q E hr he hb hv h=>(sp_bad h).elim⟩
 | n+1=>(g.up (Nat.le_add_right k (n+1))).addM cc hm b (fn_ok U S ((g.addR U S hK hP hW cc hm b hd n).at c) hK hP hW (hd _))
end
def spLaw(K:PySem.W.Frag):Sp:=fun vs H Q _=>∃(a:Addr) (ns:List Int),vs=[.ref a]/\ns.length<=63/\Only H/\SqL K H a (ns.map V.int)/\∀H',Q (.bl true) H'
theorem law_sp{cl:Cf}{run:List D->Sto->Out D}(hr:∀l:List Int,l.length<=63->∃S,run [.scr l] []=.ok (.bl true) S):∀vs H Q E,spLaw cl.K vs H Q E->spOf cl 1 false run vs H Q E:=by
 rintro vs H Q E ⟨a,ns,rfl,hl,hO,hS,q⟩
 refine ⟨rfl,⟨fun _=>none,fun _=>none⟩,⟨H,fun _=>none,[]⟩,[.scr ns],[],rfl,⟨(fun a o h=>by cases h),(fun a r h=>by cases h),rfl,(fun n ob h=>by simp at h)⟩,.cons ?_ .nil,?_⟩
 ·rcases hS with (hS | ⟨o,hS⟩) | hS
  ·rcases hO a with z | ⟨o,xs,z⟩
   ·rw [hS] at z;cases z
   ·rw [hS] at z;cases z
  ·exact .scr hS rfl
  ·exact .scrK fun H=>.inr hS
 ·obtain ⟨S',e⟩:=hr ns hl
  rw [e]
  intro v w' _ _ r
  have r':Shd cl w' v (.bl true):=r
  cases r'
  exact q _
end S2
namespace S2
open PySem PySem.Spec PyProof.Rows L2
section
variable{cl:Cf}{T:Tab}{P:Program}{wo:PySem.World}{K:PySem.W.Frag}{mg:Z6}{base:Heap}{k:Nat}{fs:Fn3}
end
end S2
namespace S2
open PySem
open L2 hiding D
noncomputable def f_is_tuple_of:Fs :=
  (sSeq (sFz [] (sRet (eAnd (eUn (instD "tuple") (eBor 0)) (eChain leD leD (eBor 1) (eCall lenD [(eBor 0)]) (eBor 2)))))
  sNx)
noncomputable def r_is_tuple_of:List S2.D->Sto->Out S2.D:=runD 3 false f_is_tuple_of
noncomputable def f_size_of:Fs :=
  (sSeq (sFz [] (sAsg 1 false (eIf (eBin gtD (eCall lenD [(eBor 0)]) (eCon (.int 0))) (eCall lenD [(eBin ixD (eBor 0) (eCon (.int 0)))]) (eCon (.int 0)))))
  (sSeq (sFz [1] (sRet (eTup [(eCall lenD [(eBor 0)]),(eVar 1)])))
  sNx))
noncomputable def r_size_of:List S2.D->Sto->Out S2.D:=runD 2 false f_size_of
noncomputable def b_places_of_1:Fs :=
  (sSeq (sFz [3,4] (sApp 2 (eTup [(eVar 3),(eVar 4)]))) sNx)
noncomputable def b_places_of_2:Fs :=
  (sSeq (sFz [] (sFor (.one 4) (eRng1 (eBin ixD (eBor 1) (eCon (.int 1)))) b_places_of_1)) sNx)
noncomputable def f_places_of:Fs :=
  (sSeq (sFz [0] (sAsg 1 false (eFn r_size_of [(eVar 0)])))
  (sSeq (sFz [] (sAsg 2 true (eLst [])))
  (sSeq (sFz [] (sFor (.one 3) (eRng1 (eBin ixD (eBor 1) (eCon (.int 0)))) b_places_of_2))
  (sSeq (sFz [] (sRetV 2))
  sNx))))
noncomputable def r_places_of:List S2.D->Sto->Out S2.D:=runD 5 true f_places_of
noncomputable def f_is_row_like:Fs :=
  (sSeq (sFz [1] (sRet (eFn r_is_tuple_of [(eVar 1),(eCall lenD [(eBor 0)]),(eCall lenD [(eBor 0)])])))
  sNx)
noncomputable def r_is_row_like:List S2.D->Sto->Out S2.D:=runD 2 false f_is_row_like
noncomputable def f_is_like:Fs :=
  (sSeq (sFz [1] (sIf (eUn notD (eFn r_is_tuple_of [(eVar 1),(eCall lenD [(eBor 0)]),(eCall lenD [(eBor 0)])])) (sSeq (sFz [] (sRet (eCon (.bl false)))) sNx) sNx))
  (sSeq (sFz [0,1] (sRet (eCall allD [(eComp 2 (.tup [0,1]) (eZip (eVar 0) (eVar 1)) fYes (eFn r_is_row_like [(eVar 0),(eVar 1)]) [])])))
  sNx))
noncomputable def r_is_like:List S2.D->Sto->Out S2.D:=runD 2 false f_is_like
noncomputable def f_number_at:Fs :=
  (sSeq (sFz [] (sRet (eBin ixD (eBin ixD (eBor 0) (eBin ixD (eBor 1) (eCon (.int 0)))) (eBin ixD (eBor 1) (eCon (.int 1))))))
  sNx)
noncomputable def r_number_at:List S2.D->Sto->Out S2.D:=runD 2 false f_number_at
noncomputable def f_laid_places:Fs :=
  (sSeq (sFz [0,0] (sRet (eComp 1 (.one 0) (eItemsA (eFn r_places_of [(eVar 0)])) (eBin notnD (eFn r_number_at [(eVar 1),(eVar 0)]) (eCon .non)) (eVar 0) [0])))
  sNx)
noncomputable def r_laid_places:List S2.D->Sto->Out S2.D:=runD 1 true f_laid_places
noncomputable def f_has_tiles_of:Fs :=
  (sSeq (sFz [1,1,0] (sRet (eCall allD [(eComp 1 (.one 0) (eItemsA (eFn r_laid_places [(eVar 1)])) fYes (eBin eqD (eFn r_number_at [(eVar 2),(eVar 0)]) (eFn r_number_at [(eVar 1),(eVar 0)])) [1,0])])))
  sNx)
noncomputable def r_has_tiles_of:List S2.D->Sto->Out S2.D:=runD 2 false f_has_tiles_of
noncomputable def f__law_cell:Fs :=
  (sSeq (sFz [] (sIf (eBin ltD (eBor 1) (eCall lenD [(eBor 0)])) (sSeq (sFz [] (sRet (eBin ixD (eBor 0) (eBor 1)))) sNx) sNx))
  (sSeq (sFz [] (sIf (eBin eqD (eBor 0) (eLst [])) (sSeq (sFz [] (sRet (eCon (.int 0)))) sNx) sNx))
  (sSeq (sFz [] (sRet (eBin addD (eBin mulD (eBin ixD (eBor 0) (eBin modD (eBor 1) (eCall lenD [(eBor 0)]))) (eCon (.int 31))) (eBor 1))))
  sNx)))
noncomputable def r__law_cell:List S2.D->Sto->Out S2.D:=runD 2 false f__law_cell
noncomputable def f__law_pick:Fs :=
  (sSeq (sFz [0,1] (sAsg 3 false (eBin modD (eBin mulD (eBin addD (eFn r__law_cell [(eVar 0),(eVar 1)]) (eBin mulD (eCon (.int 6151)) (eBin addD (eBor 1) (eCon (.int 1))))) (eCon (.int 40692))) (eCon (.int 2147483399)))))
  (sSeq (sFz [] (sRet (eBin modD (eBin modD (eBin addD (eBin mulD (eBor 3) (eBor 3)) (eBin divD (eBor 3) (eCon (.int 31)))) (eCon (.int 2147483629))) (eBor 2))))
  sNx))
noncomputable def r__law_pick:List S2.D->Sto->Out S2.D:=runD 4 false f__law_pick
noncomputable def b__law_tiles_1:Fs :=
  (sSeq (sFz [1,3,5,0] (sAsg 6 false (eCall tupleD [(eComp 1 (.one 0) (eRng1 (eCon (.int 4))) fYes (eFn r__law_pick [(eVar 4),(eBin addD (eBin addD (eBin addD (eBor 1) (eBin mulD (eCon (.int 4)) (eBor 3))) (eCon (.int 2))) (eBor 0)),(eVar 2)]) [1,3,5,0])]))) (sSeq (sFz [0] (sIf (eBin eqD (eFn r__law_pick [(eVar 0),(eBin addD (eBin addD (eBor 1) (eCon (.int 60))) (eBor 5)),(eCon (.int 3))]) (eCon (.int 0))) (sSeq (sFz [] (sAsg 6 false (eTup [(eBin ixD (eBor 6) (eCon (.int 0))),(eBin ixD (eBor 6) (eCon (.int 1))),(eBin ixD (eBor 6) (eCon (.int 0))),(eBin ixD (eBor 6) (eCon (.int 1)))]))) sNx) sNx)) (sSeq (sFz [] (sIf (eBin ninD (eBor 6) (eBor 4)) (sSeq (sFz [6] (sApp 4 (eVar 6))) sNx) sNx)) sNx)))
noncomputable def f__law_tiles:Fs :=
  (sSeq (sFz [0,1] (sAsg 3 false (eBin addD (eCon (.int 2)) (eFn r__law_pick [(eVar 0),(eVar 1),(eCon (.int 2))]))))
  (sSeq (sFz [] (sAsg 4 true (eLst [])))
  (sSeq (sFz [0,2] (sFor (.one 5) (eRng1 (eBin addD (eCon (.int 1)) (eFn r__law_pick [(eVar 0),(eBin addD (eBor 1) (eCon (.int 1))),(eVar 2)]))) b__law_tiles_1))
  (sSeq (sFz [] (sRet (eCall tupleD [(eBor 4)])))
  sNx))))
noncomputable def r__law_tiles:List S2.D->Sto->Out S2.D:=runD 7 false f__law_tiles
noncomputable def b__law_floor_1:Fs :=
  (sSeq (sFz [0] (sAsg 10 false (eFn r__law_pick [(eVar 0),(eBin addD (eBin addD (eBor 1) (eBin mulD (eCon (.int 7)) (eBor 7))) (eBor 9)),(eBin mulD (eCall lenD [(eBor 2)]) (eBor 5))]))) (sSeq (sFz [10] (sApp 8 (eIf (eBin ltD (eBor 10) (eCall lenD [(eBor 2)])) (eVar 10) (eCon .non)))) sNx))
noncomputable def b__law_floor_2:Fs :=
  (sSeq (sFz [] (sAsg 8 true (eLst []))) (sSeq (sFz [4] (sFor (.one 9) (eRng1 (eVar 4)) b__law_floor_1)) (sSeq (sFz [] (sApp 6 (eCall tupleD [(eBor 8)]))) sNx)))
noncomputable def f__law_floor:Fs :=
  (sSeq (sFz [] (sAsg 6 true (eLst [])))
  (sSeq (sFz [3] (sFor (.one 7) (eRng1 (eVar 3)) b__law_floor_2))
  (sSeq (sFz [] (sRet (eCall tupleD [(eBor 6)])))
  sNx)))
noncomputable def r__law_floor:List S2.D->Sto->Out S2.D:=runD 11 false f__law_floor
noncomputable def f_is_whole:Fs :=
  (sSeq (sFz [] (sRet (eAnd (eUn (instD "int") (eBor 0)) (eUn notD (eUn (instD "bool") (eBor 0))))))
  sNx)
noncomputable def r_is_whole:List S2.D->Sto->Out S2.D:=runD 1 false f_is_whole
noncomputable def f_has_number:Fs :=
  (sSeq (sFz [1] (sRet (eAnd (eFn r_is_whole [(eVar 1)]) (eChain leD ltD (eCon (.int 0)) (eBor 1) (eCall lenD [(eBor 0)])))))
  sNx)
noncomputable def r_has_number:List S2.D->Sto->Out S2.D:=runD 2 false f_has_number
noncomputable def f_has_place:Fs :=
  (sSeq (sFz [1] (sIf (eOr (eUn notD (eFn r_is_tuple_of [(eVar 1),(eCon (.int 2)),(eCon (.int 2))])) (eOr (eUn notD (eFn r_is_whole [(eBin ixD (eBor 1) (eCon (.int 0)))])) (eUn notD (eFn r_is_whole [(eBin ixD (eBor 1) (eCon (.int 1)))])))) (sSeq (sFz [] (sRet (eCon (.bl false)))) sNx) sNx))
  (sSeq (sFz [0] (sAsg 2 false (eFn r_size_of [(eVar 0)])))
  (sSeq (sFz [] (sRet (eAnd (eChain leD ltD (eCon (.int 0)) (eBin ixD (eBor 1) (eCon (.int 0))) (eBin ixD (eBor 2) (eCon (.int 0)))) (eChain leD ltD (eCon (.int 0)) (eBin ixD (eBor 1) (eCon (.int 1))) (eBin ixD (eBor 2) (eCon (.int 1)))))))
  sNx)))
noncomputable def r_has_place:List S2.D->Sto->Out S2.D:=runD 3 false f_has_place
noncomputable def f_edge_at:Fs :=
  (sSeq (sFz [1,2,0,1,2] (sIf (eOr (eUn notD (eFn r_has_place [(eVar 1),(eVar 2)])) (eUn notD (eFn r_has_number [(eVar 0),(eFn r_number_at [(eVar 1),(eVar 2)])]))) (sSeq (sFz [] (sRet (eCon .non))) sNx) sNx))
  (sSeq (sFz [1,2] (sRet (eBin ixD (eBin ixD (eBor 0) (eFn r_number_at [(eVar 1),(eVar 2)])) (eBor 3))))
  sNx))
noncomputable def r_edge_at:List S2.D->Sto->Out S2.D:=runD 4 false f_edge_at
noncomputable def f_colours_east:Fs :=
  (sSeq (sFz [] (sAsg 3 false (eTup [(eBin ixD (eBor 2) (eCon (.int 0))),(eBin addD (eBin ixD (eBor 2) (eCon (.int 1))) (eCon (.int 1)))])))
  (sSeq (sFz [0,1,2,0,1,3] (sRet (eTup [(eFn r_edge_at [(eVar 0),(eVar 1),(eVar 2),(eCon (.int 1))]),(eFn r_edge_at [(eVar 0),(eVar 1),(eVar 3),(eCon (.int 3))])])))
  sNx))
noncomputable def r_colours_east:List S2.D->Sto->Out S2.D:=runD 4 false f_colours_east
noncomputable def f_colours_south:Fs :=
  (sSeq (sFz [] (sAsg 3 false (eTup [(eBin addD (eBin ixD (eBor 2) (eCon (.int 0))) (eCon (.int 1))),(eBin ixD (eBor 2) (eCon (.int 1)))])))
  (sSeq (sFz [0,1,2,0,1,3] (sRet (eTup [(eFn r_edge_at [(eVar 0),(eVar 1),(eVar 2),(eCon (.int 2))]),(eFn r_edge_at [(eVar 0),(eVar 1),(eVar 3),(eCon (.int 0))])])))
  sNx))
noncomputable def r_colours_south:List S2.D->Sto->Out S2.D:=runD 4 false f_colours_south
noncomputable def f_do_clash:Fs :=
  (sSeq (sFz [] (sRet (eAnd (eBin ninD (eCon .non) (eBor 0)) (eBin neD (eBin ixD (eBor 0) (eCon (.int 0))) (eBin ixD (eBor 0) (eCon (.int 1)))))))
  sNx)
noncomputable def r_do_clash:List S2.D->Sto->Out S2.D:=runD 1 false f_do_clash
noncomputable def b_clashes_1:Fs :=
  (sSeq (sFz [0,1,3] (sIf (eFn r_do_clash [(eFn r_colours_east [(eVar 0),(eVar 1),(eVar 3)])]) (sSeq (sFz [3] (sApp 2 (eTup [(eVar 3),(eCon (.str "east"))]))) sNx) sNx)) (sSeq (sFz [0,1,3] (sIf (eFn r_do_clash [(eFn r_colours_south [(eVar 0),(eVar 1),(eVar 3)])]) (sSeq (sFz [3] (sApp 2 (eTup [(eVar 3),(eCon (.str "south"))]))) sNx) sNx)) sNx))
noncomputable def f_clashes:Fs :=
  (sSeq (sFz [] (sAsg 2 true (eLst [])))
  (sSeq (sFz [1] (sFor (.one 3) (eItemsA (eFn r_places_of [(eVar 1)])) b_clashes_1))
  (sSeq (sFz [] (sRetV 2))
  sNx)))
noncomputable def r_clashes:List S2.D->Sto->Out S2.D:=runD 4 true f_clashes
noncomputable def f_is_right:Fs :=
  (sSeq (sFz [1,1,0] (sIf (eUn notD (eCall allD [(eComp 1 (.one 0) (eItemsA (eFn r_places_of [(eVar 1)])) fYes (eFn r_has_number [(eVar 2),(eFn r_number_at [(eVar 1),(eVar 0)])]) [1,0])])) (sSeq (sFz [] (sRet (eCon (.bl false)))) sNx) sNx))
  (sSeq (sFz [0,1] (sRet (eBin eqD (eCall lenD [(eFn r_clashes [(eVar 0),(eVar 1)])]) (eCon (.int 0)))))
  sNx))
noncomputable def r_is_right:List S2.D->Sto->Out S2.D:=runD 2 false f_is_right
noncomputable def f_suits:Fs :=
  (sSeq (sFz [] (sRet (eOr (eBin isnD (eBor 0) (eCon .non)) (eBin eqD (eBor 0) (eBor 1)))))
  sNx)
noncomputable def r_suits:List S2.D->Sto->Out S2.D:=runD 2 false f_suits
noncomputable def f_Ways___init__:Fs :=
  (sSeq (sFz [1] (sFldS "Ways" "tiles" (eVar 0) (eVar 1)))
  (sSeq (sFz [2,2] (sFldS "Ways" "ground" (eVar 0) (eComp 1 (.one 0) (eItemsA (eFn r_places_of [(eVar 2)])) fYes (eFn r_number_at [(eVar 1),(eVar 0)]) [2])))
  (sSeq (sFz [2] (sFldS "Ways" "size" (eVar 0) (eFn r_size_of [(eVar 2)])))
  (sSeq (sFz [3] (sFldS "Ways" "is_round" (eVar 0) (eVar 3)))
  (sSeq (sFz [] (sFldD "Ways" "known" 0))
  sNx)))))
noncomputable def r_Ways___init__:List S2.D->Sto->Out S2.D:=runD 4 false f_Ways___init__
noncomputable def f_Ways_first_seam:Fs :=
  (sSeq (sFz [] (sRet (eBin mulD (eTup [(eCon .non)]) (eBin addD (eBin ixD (eFld "Ways" "size" (eVar 0)) (eCon (.int 1))) (eCon (.int 2))))))
  sNx)
noncomputable def r_Ways_first_seam:List S2.D->Sto->Out S2.D:=runD 1 false f_Ways_first_seam
noncomputable def f_Ways_ends_row:Fs :=
  (sSeq (sFz [] (sRet (eBin eqD (eBin modD (eBin addD (eBor 1) (eCon (.int 1))) (eBin ixD (eFld "Ways" "size" (eVar 0)) (eCon (.int 1)))) (eCon (.int 0)))))
  sNx)
noncomputable def r_Ways_ends_row:List S2.D->Sto->Out S2.D:=runD 2 false f_Ways_ends_row
noncomputable def f_Ways_colour_round:Fs :=
  (sSeq (sFz [] (sRet (eIf (eBin eqD (eBin modD (eBor 1) (eBin ixD (eFld "Ways" "size" (eVar 0)) (eCon (.int 1)))) (eCon (.int 0))) (eBin ixD (eBor 3) (eCon (.int 3))) (eBin ixD (eBor 2) (eUn negD (eCon (.int 1)))))))
  sNx)
noncomputable def r_Ways_colour_round:List S2.D->Sto->Out S2.D:=runD 4 false f_Ways_colour_round
noncomputable def f_Ways_seam_behind:Fs :=
  (sSeq (sFz [1] (sAsg 4 false (eMeth "Ways" "ends_row" r_Ways_ends_row (eVar 0) [(eVar 1)])))
  (sSeq (sFz [] (sAsg 5 false (eBin geD (eBin addD (eBor 1) (eBin ixD (eFld "Ways" "size" (eVar 0)) (eCon (.int 1)))) (eCall lenD [(eFld "Ways" "ground" (eVar 0))]))))
  (sSeq (sFz [4] (sAsg 6 false (eIf (eVar 4) (eCon .non) (eBin ixD (eBor 3) (eCon (.int 1))))))
  (sSeq (sFz [5] (sAsg 7 false (eIf (eVar 5) (eCon .non) (eBin ixD (eBor 3) (eCon (.int 2))))))
  (sSeq (sFz [4,1,2,3] (sAsg 8 false (eIf (eAnd (eFld "Ways" "is_round" (eVar 0)) (eUn notD (eVar 4))) (eMeth "Ways" "colour_round" r_Ways_colour_round (eVar 0) [(eVar 1),(eVar 2),(eVar 3)]) (eCon .non))))
  (sSeq (sFz [6,7,8] (sRet (eBin addD (eBin addD (eTup [(eVar 6)]) (eSl (eBor 2) (some (eCon (.int 2))) (some (eUn negD (eCon (.int 1)))))) (eTup [(eVar 7),(eVar 8)]))))
  sNx))))))
noncomputable def r_Ways_seam_behind:List S2.D->Sto->Out S2.D:=runD 9 false f_Ways_seam_behind
noncomputable def f_Ways_numbers_for:Fs :=
  (sSeq (sFz [] (sAsg 2 false (eBin ixD (eFld "Ways" "ground" (eVar 0)) (eBor 1))))
  (sSeq (sFz [] (sIf (eBin isnD (eBor 2) (eCon .non)) (sSeq (sFz [] (sRet (eUn lrD (eCall lenD [(eFld "Ways" "tiles" (eVar 0))])))) sNx) sNx))
  (sSeq (sFz [2,2] (sRet (eIf (eFn r_has_number [(eFld "Ways" "tiles" (eVar 0)),(eVar 2)]) (eLst [(eVar 2)]) (eLst []))))
  sNx)))
noncomputable def r_Ways_numbers_for:List S2.D->Sto->Out S2.D:=runD 3 false f_Ways_numbers_for
noncomputable def f_Ways_fits_round:Fs :=
  (sSeq (sFz [1] (sIf (eOr (eUn notD (eFld "Ways" "is_round" (eVar 0))) (eUn notD (eMeth "Ways" "ends_row" r_Ways_ends_row (eVar 0) [(eVar 1)]))) (sSeq (sFz [] (sRet (eCon (.bl true)))) sNx) sNx))
  (sSeq (sFz [1,2,3] (sRet (eBin eqD (eBin ixD (eBor 3) (eCon (.int 1))) (eMeth "Ways" "colour_round" r_Ways_colour_round (eVar 0) [(eVar 1),(eVar 2),(eVar 3)]))))
  sNx))
noncomputable def r_Ways_fits_round:List S2.D->Sto->Out S2.D:=runD 4 false f_Ways_fits_round
noncomputable def f_Ways_fits:Fs :=
  (sSeq (sFz [] (sIf (eOr (eUn notD (eFn r_suits [(eBin ixD (eBor 2) (eCon (.int 0))),(eBin ixD (eBor 3) (eCon (.int 3)))])) (eUn notD (eFn r_suits [(eBin ixD (eBor 2) (eCon (.int 1))),(eBin ixD (eBor 3) (eCon (.int 0)))]))) (sSeq (sFz [] (sRet (eCon (.bl false)))) sNx) sNx))
  (sSeq (sFz [1,2,3] (sRet (eMeth "Ways" "fits_round" r_Ways_fits_round (eVar 0) [(eVar 1),(eVar 2),(eVar 3)])))
  sNx))
noncomputable def r_Ways_fits:List S2.D->Sto->Out S2.D:=runD 4 false f_Ways_fits
noncomputable def b_Ways_choices_1:Fs :=
  (sSeq (sFz [] (sAsg 5 false (eBin ixD (eFld "Ways" "tiles" (eVar 0)) (eBor 4)))) (sSeq (sFz [1,2,5] (sIf (eMeth "Ways" "fits" r_Ways_fits (eVar 0) [(eVar 1),(eVar 2),(eVar 5)]) (sSeq (sFz [4,1,2,5] (sApp 3 (eTup [(eVar 4),(eMeth "Ways" "seam_behind" r_Ways_seam_behind (eVar 0) [(eVar 1),(eVar 2),(eVar 5)])]))) sNx) sNx)) sNx))
noncomputable def f_Ways_choices:Fs :=
  (sSeq (sFz [] (sAsg 3 true (eLst [])))
  (sSeq (sFz [1] (sFor (.one 4) (eItemsA (eMeth "Ways" "numbers_for" r_Ways_numbers_for (eVar 0) [(eVar 1)])) b_Ways_choices_1))
  (sSeq (sFz [] (sRetV 3))
  sNx)))
noncomputable def r_Ways_choices:List S2.D->Sto->Out S2.D:=runD 6 true f_Ways_choices
noncomputable def f_Ways_count_from(rec_:List S2.D->Sto->Out S2.D):Fs :=
  (sSeq (sFz [] (sIf (eBin eqD (eBor 1) (eCall lenD [(eFld "Ways" "ground" (eVar 0))])) (sSeq (sFz [] (sRet (eCon (.int 1)))) sNx) sNx))
  (sSeq (sFz [1,2] (sAsg 3 false (eTup [(eVar 1),(eVar 2)])))
  (sSeq (sFz [] (sIf (eNin "Ways" "known" (eVar 3) (eVar 0)) (sSeq (sFz [1,2,0,1] (sPutK "Ways" "known" (eVar 0) 3 (eCall sumD [(eComp 1 (.one 0) (eItemsA (eMeth "Ways" "choices" r_Ways_choices (eVar 0) [(eVar 1),(eVar 2)])) fYes (eMeth "Ways" "count_from" rec_ (eVar 1) [(eBin addD (eBor 2) (eCon (.int 1))),(eBin ixD (eBor 0) (eCon (.int 1)))]) [0,1])]))) sNx) sNx))
  (sSeq (sFz [] (sRet (eGetK "Ways" "known" (eVar 0) 3)))
  sNx))))
noncomputable def r_Ways_count_from:List S2.D->Sto->Out S2.D:=recD 4 false f_Ways_count_from 40
noncomputable def f_Ways_count_all:Fs :=
  (sSeq (sFz [] (sRet (eMeth "Ways" "count_from" r_Ways_count_from (eVar 0) [(eCon (.int 0)),(eMeth "Ways" "first_seam" r_Ways_first_seam (eVar 0) [])])))
  sNx)
noncomputable def r_Ways_count_all:List S2.D->Sto->Out S2.D:=runD 1 false f_Ways_count_all
noncomputable def f_count_fills:Fs :=
  (sSeq (sFz [0,1] (sRet (eMeth "Ways" "count_all" r_Ways_count_all (eMk "Ways" [(.bl false)] r_Ways___init__ [(eVar 0),(eVar 1)]) [])))
  sNx)
noncomputable def r_count_fills:List S2.D->Sto->Out S2.D:=runD 2 false f_count_fills
noncomputable def f_in_rows:Fs :=
  (sSeq (sFz [0,1] (sRet (eCall tupleD [(eComp 1 (.one 0) (eRng1 (eBin ixD (eBor 1) (eCon (.int 0)))) fYes (eCall tupleD [(eSl (eBor 1) (some (eBin mulD (eBor 0) (eBin ixD (eBor 2) (eCon (.int 1))))) (some (eBin mulD (eBin addD (eBor 0) (eCon (.int 1))) (eBin ixD (eBor 2) (eCon (.int 1))))))]) [0,1])])))
  sNx)
noncomputable def r_in_rows:List S2.D->Sto->Out S2.D:=runD 2 false f_in_rows
noncomputable def b_Ways_numbers_by_1:Fs :=
  (sSeq (sFz [] (sAsg 7 false (eMeth "Ways" "count_from" r_Ways_count_from (eVar 0) [(eBin addD (eBor 5) (eCon (.int 1))),(eBin ixD (eBor 6) (eCon (.int 1)))]))) (sSeq (sFz [] (sIf (eBin ltD (eBor 3) (eBor 7)) (sSeq (sFz [] (sApp 2 (eBin ixD (eBor 6) (eCon (.int 0))))) (sSeq (sFz [] (sAsg 4 false (eBin ixD (eBor 6) (eCon (.int 1))))) (sSeq (sFz [] sBk) sNx))) sNx)) (sSeq (sFz [] (sAug 3 (· - ·) (eVar 7))) sNx)))
noncomputable def b_Ways_numbers_by_2:Fs :=
  (sSeq (sFz [5,4] (sFor (.one 6) (eItemsA (eMeth "Ways" "choices" r_Ways_choices (eVar 0) [(eVar 5),(eVar 4)])) b_Ways_numbers_by_1)) sNx)
noncomputable def f_Ways_numbers_by:Fs :=
  (sSeq (sFz [] (sAsg 2 true (eLst [])))
  (sSeq (sFz [1] (sAsg 3 false (eVar 1)))
  (sSeq (sFz [] (sAsg 4 false (eMeth "Ways" "first_seam" r_Ways_first_seam (eVar 0) [])))
  (sSeq (sFz [] (sFor (.one 5) (eRng1 (eCall lenD [(eFld "Ways" "ground" (eVar 0))])) b_Ways_numbers_by_2))
  (sSeq (sFz [] (sRetV 2))
  sNx)))))
noncomputable def r_Ways_numbers_by:List S2.D->Sto->Out S2.D:=runD 8 true f_Ways_numbers_by
noncomputable def f_Ways_whole_by:Fs :=
  (sSeq (sFz [] (sIf (eUn notD (eChain leD ltD (eCon (.int 0)) (eBor 1) (eMeth "Ways" "count_all" r_Ways_count_all (eVar 0) []))) (sSeq (sFz [] (sRz "NoFill" [(eCon (.str "the floor has no fill with this number"))])) sNx) sNx))
  (sSeq (sFz [1] (sRet (eFn r_in_rows [(eMeth "Ways" "numbers_by" r_Ways_numbers_by (eVar 0) [(eVar 1)]),(eFld "Ways" "size" (eVar 0))])))
  sNx))
noncomputable def r_Ways_whole_by:List S2.D->Sto->Out S2.D:=runD 2 false f_Ways_whole_by
noncomputable def f_may_lie:Fs :=
  (sSeq (sFz [0,1] (sRet (eOr (eBin isnD (eBor 1) (eCon .non)) (eFn r_has_number [(eVar 0),(eVar 1)]))))
  sNx)
noncomputable def r_may_lie:List S2.D->Sto->Out S2.D:=runD 2 false f_may_lie
noncomputable def f_refuse_outside:Fs :=
  (sSeq (sFz [0,1] (sIf (eUn notD (eFn r_has_place [(eVar 0),(eVar 1)])) (sSeq (sFz [] (sRz "NoPlace" [(eCon (.str "there is no such place"))])) sNx) sNx))
  sNx)
noncomputable def r_refuse_outside:List S2.D->Sto->Out S2.D:=runD 2 false f_refuse_outside
noncomputable def f_with_number:Fs :=
  (sSeq (sFz [] (sAsg 3 false (eBin ixD (eBor 0) (eBin ixD (eBor 1) (eCon (.int 0))))))
  (sSeq (sFz [2] (sAsg 4 false (eBin addD (eBin addD (eSl (eBor 3) none (some (eBin ixD (eBor 1) (eCon (.int 1))))) (eTup [(eVar 2)])) (eSl (eBor 3) (some (eBin addD (eBin ixD (eBor 1) (eCon (.int 1))) (eCon (.int 1)))) none))))
  (sSeq (sFz [4] (sRet (eBin addD (eBin addD (eSl (eBor 0) none (some (eBin ixD (eBor 1) (eCon (.int 0))))) (eTup [(eVar 4)])) (eSl (eBor 0) (some (eBin addD (eBin ixD (eBor 1) (eCon (.int 0))) (eCon (.int 1)))) none))))
  sNx)))
noncomputable def r_with_number:List S2.D->Sto->Out S2.D:=runD 5 false f_with_number
noncomputable def f_with_tile:Fs :=
  (sSeq (sFz [1,2] (sExp (eFn r_refuse_outside [(eVar 1),(eVar 2)])))
  (sSeq (sFz [0,3] (sIf (eUn notD (eFn r_may_lie [(eVar 0),(eVar 3)])) (sSeq (sFz [] (sRz "NoTile" [(eCon (.str "the set has no such number"))])) sNx) sNx))
  (sSeq (sFz [1,2,3] (sRet (eFn r_with_number [(eVar 1),(eVar 2),(eVar 3)])))
  sNx)))
noncomputable def r_with_tile:List S2.D->Sto->Out S2.D:=runD 4 false f_with_tile
noncomputable def f_is_fill:Fs :=
  (sSeq (sFz [1,2,0,2] (sIf (eOr (eUn notD (eFn r_is_like [(eVar 1),(eVar 2)])) (eUn notD (eFn r_is_right [(eVar 0),(eVar 2)]))) (sSeq (sFz [] (sRet (eCon (.bl false)))) sNx) sNx))
  (sSeq (sFz [2,1] (sRet (eFn r_has_tiles_of [(eVar 2),(eVar 1)])))
  sNx))
noncomputable def r_is_fill:List S2.D->Sto->Out S2.D:=runD 3 false f_is_fill
noncomputable def f_tile_at:Fs :=
  (sSeq (sFz [0,1] (sExp (eFn r_refuse_outside [(eVar 0),(eVar 1)])))
  (sSeq (sFz [0,1] (sRet (eFn r_number_at [(eVar 0),(eVar 1)])))
  sNx))
noncomputable def r_tile_at:List S2.D->Sto->Out S2.D:=runD 2 false f_tile_at
noncomputable def f_fill:Fs :=
  (sSeq (sFz [2] (sIf (eUn notD (eFn r_is_whole [(eVar 2)])) (sSeq (sFz [] (sRz "NoFill" [(eCon (.str "this is no number of a fill"))])) sNx) sNx))
  (sSeq (sFz [0,1,2] (sRet (eMeth "Ways" "whole_by" r_Ways_whole_by (eMk "Ways" [(.bl false)] r_Ways___init__ [(eVar 0),(eVar 1)]) [(eVar 2)])))
  sNx))
noncomputable def r_fill:List S2.D->Sto->Out S2.D:=runD 3 false f_fill
noncomputable def b_counts_at_1:Fs :=
  (sSeq (sFz [] (sAsg 6 false (eOr (eBin isnD (eBor 3) (eCon .non)) (eBin eqD (eBor 3) (eBor 5))))) (sSeq (sFz [6,0,0,1,2,5] (sApp 4 (eIf (eVar 6) (eFn r_count_fills [(eVar 0),(eFn r_with_tile [(eVar 0),(eVar 1),(eVar 2),(eVar 5)])]) (eCon (.int 0))))) sNx))
noncomputable def f_counts_at:Fs :=
  (sSeq (sFz [1,2] (sAsg 3 false (eFn r_tile_at [(eVar 1),(eVar 2)])))
  (sSeq (sFz [] (sAsg 4 true (eLst [])))
  (sSeq (sFz [] (sFor (.one 5) (eRng1 (eCall lenD [(eBor 0)])) b_counts_at_1))
  (sSeq (sFz [] (sRetV 4))
  sNx))))
noncomputable def r_counts_at:List S2.D->Sto->Out S2.D:=runD 7 true f_counts_at
noncomputable def f_may_stand:Fs :=
  (sSeq (sFz [0,1,2] (sRet (eComp 2 (.tup [0,1]) (eEnum (eFn r_counts_at [(eVar 0),(eVar 1),(eVar 2)])) (eBin gtD (eBor 1) (eCon (.int 0))) (eVar 0) [])))
  sNx)
noncomputable def r_may_stand:List S2.D->Sto->Out S2.D:=runD 3 true f_may_stand
noncomputable def f_bare_places:Fs :=
  (sSeq (sFz [0,0] (sRet (eComp 1 (.one 0) (eItemsA (eFn r_places_of [(eVar 0)])) (eBin isnD (eFn r_number_at [(eVar 1),(eVar 0)]) (eCon .non)) (eVar 0) [0])))
  sNx)
noncomputable def r_bare_places:List S2.D->Sto->Out S2.D:=runD 1 true f_bare_places
noncomputable def b_forced_1:Fs :=
  (sSeq (sFz [3,5] (sAsg 6 false (eFn r_number_at [(eVar 3),(eVar 5)]))) (sSeq (sFz [0,0,1,5,6] (sIf (eBin eqD (eFn r_count_fills [(eVar 0),(eFn r_with_tile [(eVar 0),(eVar 1),(eVar 5),(eVar 6)])]) (eBor 2)) (sSeq (sFz [5,6] (sApp 4 (eTup [(eVar 5),(eVar 6)]))) sNx) sNx)) sNx))
noncomputable def f_forced:Fs :=
  (sSeq (sFz [0,1] (sAsg 2 false (eFn r_count_fills [(eVar 0),(eVar 1)])))
  (sSeq (sFz [] (sIf (eBin eqD (eBor 2) (eCon (.int 0))) (sSeq (sFz [] (sRet (eLst []))) sNx) sNx))
  (sSeq (sFz [0,1] (sAsg 3 false (eFn r_fill [(eVar 0),(eVar 1),(eCon (.int 0))])))
  (sSeq (sFz [] (sAsg 4 true (eLst [])))
  (sSeq (sFz [1] (sFor (.one 5) (eItemsA (eFn r_bare_places [(eVar 1)])) b_forced_1))
  (sSeq (sFz [] (sRetV 4))
  sNx))))))
noncomputable def r_forced:List S2.D->Sto->Out S2.D:=runD 7 true f_forced
noncomputable def b_with_forced_1:Fs :=
  (sSeq (sFz [0,2,3,4] (sAsg 2 false (eFn r_with_tile [(eVar 0),(eVar 2),(eVar 3),(eVar 4)]))) sNx)
noncomputable def f_with_forced:Fs :=
  (sSeq (sFz [1] (sAsg 2 false (eVar 1)))
  (sSeq (sFz [0,1] (sFor (.tup [3,4]) (eItemsA (eFn r_forced [(eVar 0),(eVar 1)])) b_with_forced_1))
  (sSeq (sFz [2] (sRet (eVar 2)))
  sNx)))
noncomputable def r_with_forced:List S2.D->Sto->Out S2.D:=runD 5 false f_with_forced
end S2
namespace S2
open PySem
open L2 hiding D
def Fo.seq(b:Fs):Fo->Fo | .nx ρ' S'=>b ρ' S' | o=>o
def kIfS(a b:Fs)(ρ:Env):Out D->Fo | .ok d S'=>(match isB d with | some true=>a ρ S' | some false=>b ρ S' | none=>.bad) | .exc x S'=>.ex x ρ S' | .bad=>.bad
def kAsg(i:Nat)(o:Bool)(ρ:Env):Out D->Fo | .ok d S'=>.nx (ρ.set i (some (o,d))) S' | .exc c S'=>.ex c ρ S' | .bad=>.bad
def kExp(ρ:Env):Out D->Fo | .ok _ S'=>.nx ρ S' | .exc c S'=>.ex c ρ S' | .bad=>.bad
def kRet(ρ:Env):Out D->Fo | .ok d S'=>.rt d S' | .exc c S'=>.ex c ρ S' | .bad=>.bad
def kRetV(S:Sto):Option (Option (Bool×D))->Fo | some (some (true,d))=>.rt d S | _=>.bad
def kApp'(i:Nat)(ρ:Env)(l:List D):Out D->Fo
 | .ok d S'=>if small l.length then .nx (ρ.set i (some (true,.lst (l++[d])))) S' else .bad
 | .exc c S'=>.ex c ρ S' | .bad=>.bad
def kApp(i:Nat)(f:Fe)(ρ:Env)(S:Sto):Option (Option (Bool×D))->Fo | some (some (true,.lst l))=>kApp' i ρ l (f ρ S) | _=>.bad
def kPut(S:Sto):Option Env->Fo | some ρ'=>.nx ρ' S | none=>.bad
def kAsgT(t:Tg)(ρ:Env):Out D->Fo | .ok d S'=>kPut S' (t.put ρ d) | .exc c S'=>.ex c ρ S' | .bad=>.bad
def kFor(t:Tg)(a:Fs)(ρ:Env):Out (List D)->Fo | .ok ds S'=>forD t a ds ρ S' | .exc c S'=>.ex c ρ S' | .bad=>.bad
def kVar(S:Sto):Option (Option (Bool×D))->Out D | some (some (false,d))=>.ok d S | _=>.bad
def kBor(S:Sto):Option (Option (Bool×D))->Out D | some (some (_,d))=>.ok d S | _=>.bad
def kUn(u:D->Option D):Out D->Out D | .ok a S=>Out.of (u a) S | .exc c S=>.exc c S | .bad=>.bad
def kBin'(u:D->D->Option D)(a:D):Out D->Out D | .ok b S=>Out.of (u a b) S | .exc c S=>.exc c S | .bad=>.bad
def kBin(u:D->D->Option D)(g:Fe)(ρ:Env):Out D->Out D | .ok a S=>kBin' u a (g ρ S) | .exc c S=>.exc c S | .bad=>.bad
def kIf(f g:Fe)(ρ:Env):Out D->Out D | .ok d S1=>(match isB d with | some true=>f ρ S1 | some false=>g ρ S1 | none=>.bad) | .exc c S=>.exc c S | .bad=>.bad
def kAnd(g:Fe)(ρ:Env):Out D->Out D | .ok d S1=>(match isB d with | some true=>g ρ S1 | some false=>.ok (.bl false) S1 | none=>.bad) | .exc c S=>.exc c S | .bad=>.bad
def kOr(g:Fe)(ρ:Env):Out D->Out D | .ok d S1=>(match isB d with | some true=>.ok (.bl true) S1 | some false=>g ρ S1 | none=>.bad) | .exc c S=>.exc c S | .bad=>.bad
def kCons'(d:D):Out (List D)->Out (List D) | .ok ds S=>.ok (d::ds) S | .exc c S=>.exc c S | .bad=>.bad
def kCons(fs:List Fe)(ρ:Env):Out D->Out (List D) | .ok d S=>kCons' d (evalL fs ρ S) | .exc c S=>.exc c S | .bad=>.bad
def kTup:Out (List D)->Out D | .ok ds S=>if small ds.length then .ok (.tup ds) S else .bad | .exc c S=>.exc c S | .bad=>.bad
def kLst:Out (List D)->Out D | .ok ds S=>if small ds.length then .ok (.lst ds) S else .bad | .exc c S=>.exc c S | .bad=>.bad
def kCall(u:List D->Option D):Out (List D)->Out D | .ok ds S=>Out.of (u ds) S | .exc c S=>.exc c S | .bad=>.bad
def kFn(r:List D->Sto->Out D):Out (List D)->Out D | .ok ds S=>r ds S | .exc c S=>.exc c S | .bad=>.bad
def kChain3(v:D->D->Option D)(b:D):Out D->Out D | .ok c S=>Out.of (v b c) S | .exc c S=>.exc c S | .bad=>.bad
def kChainB(v:D->D->Option D)(h:Fe)(ρ:Env)(b:D)(S:Sto):Option D->Out D | some d=>(match isB d with | some true=>kChain3 v b (h ρ S) | some false=>.ok (.bl false) S | none=>.bad) | none=>.bad
def kChain2(u v:D->D->Option D)(h:Fe)(ρ:Env)(a:D):Out D->Out D | .ok b S=>kChainB v h ρ b S (u a b) | .exc c S=>.exc c S | .bad=>.bad
def kChain(u v:D->D->Option D)(g h:Fe)(ρ:Env):Out D->Out D | .ok a S=>kChain2 u v h ρ a (g ρ S) | .exc c S=>.exc c S | .bad=>.bad
def kInt:Out D->Out (Option Int) | .ok (.int i) S=>.ok (some i) S | .ok _ _=>.bad | .exc c S=>.exc c S | .bad=>.bad
def kSl2(d:D)(l:Option Int):Out (Option Int)->Out D | .ok u S=>Out.of (slD d l u) S | .exc c S=>.exc c S | .bad=>.bad
def kSl1(d:D)(u:Option Fe)(ρ:Env):Out (Option Int)->Out D | .ok l S=>kSl2 d l (evalO u ρ S) | .exc c S=>.exc c S | .bad=>.bad
def kSl(l u:Option Fe)(ρ:Env):Out D->Out D | .ok d S=>kSl1 d u ρ (evalO l ρ S) | .exc c S=>.exc c S | .bad=>.bad
def kItems:Out D->Out (List D) | .ok (.lst l) S=>.ok l S | .ok (.tup l) S=>.ok l S | .ok _ _=>.bad | .exc c S=>.exc c S | .bad=>.bad
def kEnum:Out (List D)->Out (List D) | .ok [.lst l] S=>.ok (enumD l) S | .ok [.tup l] S=>.ok (enumD l) S | .ok _ _=>.bad | .exc c S=>.exc c S | .bad=>.bad
def kZip:Out (List D)->Out (List D) | .ok ds S1=>(match ds with | [x,y]=>(match seqD x,seqD y with | some l,some k=>.ok (zipD l k) S1 | _,_=>.bad) | _=>.bad) | .exc c S=>.exc c S | .bad=>.bad
def kRng1:Out (List D)->Out (List D) | .ok ds S1=>(match ds with | [.int j]=>if -1000000<=j/\j<=1000000 then .ok (rangeD 0 j) S1 else .bad | _=>.bad) | .exc c S=>.exc c S | .bad=>.bad
def kRng2:Out (List D)->Out (List D) | .ok ds S1=>(match ds with | [.int i,.int j]=>if (-1000000<=i/\i<=1000000)/\-1000000<=j/\j<=1000000 then .ok (rangeD i j) S1 else .bad | _=>.bad) | .exc c S=>.exc c S | .bad=>.bad
def kComp':Out (List D)->Out D | .ok ys S2=>if small ys.length then .ok (.lst ys) S2 else .bad | _=>.bad
def kComp(tg:Tg)(c elt:Fe)(ρ0:Env):Out (List D)->Out D | .ok ds S1=>kComp' (compD tg c elt ρ0 ds S1) | .exc c S=>.exc c S | .bad=>.bad
def kCap:Option (Option (Bool×D))->Option (Bool×D) | some (some (false,d))=>some (false,d) | _=>none
def kFrz(ρ:Env)(i:Nat):Option (Option (Bool×D))->Env | some (some (true,d))=>ρ.set i (some (false,d)) | _=>ρ
def kRun(own:Bool):Fo->Out D | .rt d S'=>.ok d S' | .nx _ S'=>if own then .bad else .ok .non S' | .ex c _ S'=>.exc c S' | _=>.bad
def kRz(c:Str)(ρ:Env):Out (List D)->Fo | .ok ds S'=>if small ds.length then .ex c ρ S' else .bad | .exc x S'=>.ex x ρ S' | .bad=>.bad
section
variable{ρ:Env}{S:Sto}{f g h k c:Fe}{a b:Fs}
@[simp] theorem v_sSeq:sSeq a b ρ S=(a ρ S).seq b:=by
 show (match a ρ S with | .nx ρ' S'=>b ρ' S' | o=>o)=_
 cases a ρ S<;>rfl
@[simp] theorem k_seq1:(Fo.nx ρ S).seq b=b ρ S:=(rfl)
@[simp] theorem k_seq2{d:D}:(Fo.rt d S).seq b=.rt d S:=(rfl)
@[simp] theorem k_seq3:(Fo.bk ρ S).seq b=.bk ρ S:=(rfl)
@[simp] theorem k_seq4:(Fo.ct ρ S).seq b=.ct ρ S:=(rfl)
@[simp] theorem k_seq5{x:Str}:(Fo.ex x ρ S).seq b=.ex x ρ S:=(rfl)
@[simp] theorem k_seq6:Fo.bad.seq b=.bad:=(rfl)
@[simp] theorem v_sFz{is:List Nat}:sFz is a ρ S=a (frz is ρ) S:=(rfl)
@[simp] theorem v_frz0:frz [] ρ=ρ:=(rfl)
@[simp] theorem v_frz1{i:Nat}{is:List Nat}:frz (i::is) ρ=frz is (frz1 ρ i):=(rfl)
@[simp] theorem v_frz(i:Nat):frz1 ρ i=kFrz ρ i ρ[i]?:=(rfl)
@[simp] theorem k_frz1{i:Nat}{d:D}:kFrz ρ i (some (some (true,d)))=ρ.set i (some (false,d)):=(rfl)
@[simp] theorem k_frz2{i:Nat}{d:D}:kFrz ρ i (some (some (false,d)))=ρ:=(rfl)
@[simp] theorem k_frz3{i:Nat}:kFrz ρ i (some none)=ρ:=(rfl)
@[simp] theorem v_sNx:sNx ρ S=.nx ρ S:=(rfl)
@[simp] theorem v_sBk:sBk ρ S=.bk ρ S:=(rfl)
@[simp] theorem v_sAsg{i:Nat}{o:Bool}:sAsg i o f ρ S=kAsg i o ρ (f ρ S):=(rfl)
@[simp] theorem k_asg1{i:Nat}{o:Bool}{d:D}:kAsg i o ρ (.ok d S)=.nx (ρ.set i (some (o,d))) S:=(rfl)
@[simp] theorem k_asg2{i:Nat}{o:Bool}{x:Str}:kAsg i o ρ (.exc x S)=.ex x ρ S:=(rfl)
@[simp] theorem v_sExp:sExp f ρ S=kExp ρ (f ρ S):=(rfl)
@[simp] theorem k_exp1{d:D}:kExp ρ (.ok d S)=.nx ρ S:=(rfl)
@[simp] theorem k_exp2{x:Str}:kExp ρ (.exc x S)=.ex x ρ S:=(rfl)
@[simp] theorem v_sRet:sRet f ρ S=kRet ρ (f ρ S):=(rfl)
@[simp] theorem k_ret1{d:D}:kRet ρ (.ok d S)=.rt d S:=(rfl)
@[simp] theorem k_ret2{x:Str}:kRet ρ (.exc x S)=.ex x ρ S:=(rfl)
@[simp] theorem v_sRetN:sRetN ρ S=.rt .non S:=(rfl)
@[simp] theorem v_sRetV{i:Nat}:sRetV i ρ S=kRetV S ρ[i]?:=(rfl)
@[simp] theorem k_retV{d:D}:kRetV S (some (some (true,d)))=.rt d S:=(rfl)
@[simp] theorem v_sIf:sIf c a b ρ S=kIfS a b ρ (c ρ S):=(rfl)
@[simp] theorem k_ifS1:kIfS a b ρ (.ok (.bl true) S)=a ρ S:=(rfl)
@[simp] theorem k_ifS2:kIfS a b ρ (.ok (.bl false) S)=b ρ S:=(rfl)
@[simp] theorem k_ifS3{x:Str}:kIfS a b ρ (.exc x S)=.ex x ρ S:=(rfl)
@[simp] theorem v_sApp{i:Nat}:sApp i f ρ S=kApp i f ρ S ρ[i]?:=(rfl)
@[simp] theorem k_app{i:Nat}{l:List D}:kApp i f ρ S (some (some (true,.lst l)))=kApp' i ρ l (f ρ S):=(rfl)
@[simp] theorem k_app1{i:Nat}{l:List D}{d:D}:kApp' i ρ l (.ok d S)=if small l.length then .nx (ρ.set i (some (true,.lst (l++[d])))) S else .bad:=(rfl)
@[simp] theorem k_app2{i:Nat}{l:List D}{x:Str}:kApp' i ρ l (.exc x S)=.ex x ρ S:=(rfl)
@[simp] theorem v_sAsgT{t:Tg}:sAsgT t f ρ S=kAsgT t ρ (f ρ S):=by
 unfold sAsgT kAsgT
 cases f ρ S with
 | ok d S'=>dsimp only;cases t.put ρ d<;>rfl
 | exc c S'=>rfl
 | bad=>rfl
@[simp] theorem k_asgT{t:Tg}{d:D}:kAsgT t ρ (.ok d S)=kPut S (t.put ρ d):=(rfl)
@[simp] theorem k_put{ρ':Env}:kPut S (some ρ')=.nx ρ' S:=(rfl)
@[simp] theorem v_sFor{t:Tg}{it:Fi}:sFor t it a ρ S=kFor t a ρ (it ρ S):=(rfl)
@[simp] theorem k_for{t:Tg}{ds:List D}:kFor t a ρ (.ok ds S)=forD t a ds ρ S:=(rfl)
@[simp] theorem v_sRz{x:Str}{fs:List Fe}:sRz x fs ρ S=kRz x ρ (evalL fs ρ S):=(rfl)
@[simp] theorem k_rz{x:Str}{ds:List D}:kRz x ρ (.ok ds S)=if small ds.length then .ex x ρ S else .bad:=(rfl)
@[simp] theorem v_put1{i:Nat}{d:D}:(Tg.one i).put ρ d=some (ρ.set i (some (false,d))):=(rfl)
@[simp] theorem v_putT{is:List Nat}{ds:List D}:(Tg.tup is).put ρ (.tup ds)=putAll is ds ρ:=(rfl)
@[simp] theorem v_putA{i:Nat}{is:List Nat}{d:D}{ds:List D}:putAll (i::is) (d::ds) ρ=putAll is ds (ρ.set i (some (false,d))):=(rfl)
@[simp] theorem v_putN:putAll [] [] ρ=some ρ:=(rfl)
@[simp] theorem v_eVar{i:Nat}:eVar i ρ S=kVar S ρ[i]?:=(rfl)
@[simp] theorem k_var{d:D}:kVar S (some (some (false,d)))=.ok d S:=(rfl)
@[simp] theorem v_eBor{i:Nat}:eBor i ρ S=kBor S ρ[i]?:=(rfl)
@[simp] theorem k_bor{o:Bool}{d:D}:kBor S (some (some (o,d)))=.ok d S:=(rfl)
@[simp] theorem v_eCon{d:D}:eCon d ρ S=.ok d S:=(rfl)
@[simp] theorem v_eUn{u:D->Option D}:eUn u f ρ S=kUn u (f ρ S):=by
 unfold eUn;cases f ρ S<;>rfl
@[simp] theorem k_un1{u:D->Option D}{d:D}:kUn u (.ok d S)=Out.of (u d) S:=(rfl)
@[simp] theorem k_un2{u:D->Option D}{x:Str}:kUn u (.exc x S)=.exc x S:=(rfl)
@[simp] theorem v_eBin{u:D->D->Option D}:eBin u f g ρ S=kBin u g ρ (f ρ S):=by
 unfold eBin
 cases f ρ S with
 | ok a S1=>show ((g ρ S1).bind fun b S2=>Out.of (u a b) S2)=kBin' u a (g ρ S1);cases g ρ S1<;>rfl
 | exc c S=>rfl
 | bad=>rfl
@[simp] theorem k_bin1{u:D->D->Option D}{d:D}:kBin u g ρ (.ok d S)=kBin' u d (g ρ S):=(rfl)
@[simp] theorem k_bin2{u:D->D->Option D}{x:Str}:kBin u g ρ (.exc x S)=.exc x S:=(rfl)
@[simp] theorem k_bin3{u:D->D->Option D}{d e:D}:kBin' u d (.ok e S)=Out.of (u d e) S:=(rfl)
@[simp] theorem k_bin4{u:D->D->Option D}{d:D}{x:Str}:kBin' u d (.exc x S)=.exc x S:=(rfl)
@[simp] theorem v_eIf:eIf c f g ρ S=kIf f g ρ (c ρ S):=by
 unfold eIf;cases c ρ S<;>rfl
@[simp] theorem k_if1:kIf f g ρ (.ok (.bl true) S)=f ρ S:=(rfl)
@[simp] theorem k_if2:kIf f g ρ (.ok (.bl false) S)=g ρ S:=(rfl)
@[simp] theorem v_eAnd:eAnd f g ρ S=kAnd g ρ (f ρ S):=by
 unfold eAnd;cases f ρ S<;>rfl
@[simp] theorem k_and1:kAnd g ρ (.ok (.bl true) S)=g ρ S:=(rfl)
@[simp] theorem k_and2:kAnd g ρ (.ok (.bl false) S)=.ok (.bl false) S:=(rfl)
@[simp] theorem v_eOr:eOr f g ρ S=kOr g ρ (f ρ S):=by
 unfold eOr;cases f ρ S<;>rfl
@[simp] theorem k_or1:kOr g ρ (.ok (.bl true) S)=.ok (.bl true) S:=(rfl)
@[simp] theorem k_or2:kOr g ρ (.ok (.bl false) S)=g ρ S:=(rfl)
@[simp] theorem v_evalN:evalL [] ρ S=.ok [] S:=(rfl)
@[simp] theorem v_evalC{fs:List Fe}:evalL (f::fs) ρ S=kCons fs ρ (f ρ S):=by
 show ((f ρ S).bind fun d S1=>(evalL fs ρ S1).bind fun ds S2=>.ok (d::ds) S2)=_
 cases f ρ S with
 | ok a S1=>show ((evalL fs ρ S1).bind fun ds S2=>.ok (a::ds) S2)=kCons' a (evalL fs ρ S1);cases evalL fs ρ S1<;>rfl
 | exc c S=>rfl
 | bad=>rfl
@[simp] theorem k_cons1{fs:List Fe}{d:D}:kCons fs ρ (.ok d S)=kCons' d (evalL fs ρ S):=(rfl)
@[simp] theorem k_cons2{fs:List Fe}{x:Str}:kCons fs ρ (.exc x S)=.exc x S:=(rfl)
@[simp] theorem k_cons3{d:D}{ds:List D}:kCons' d (.ok ds S)=.ok (d::ds) S:=(rfl)
@[simp] theorem k_cons4{d:D}{x:Str}:kCons' d (.exc x S)=.exc x S:=(rfl)
@[simp] theorem v_eTup{fs:List Fe}:eTup fs ρ S=kTup (evalL fs ρ S):=by
 unfold eTup;cases evalL fs ρ S<;>rfl
@[simp] theorem k_tup{ds:List D}:kTup (.ok ds S)=if small ds.length then .ok (.tup ds) S else .bad:=(rfl)
@[simp] theorem v_eLst{fs:List Fe}:eLst fs ρ S=kLst (evalL fs ρ S):=by
 unfold eLst;cases evalL fs ρ S<;>rfl
@[simp] theorem k_lst{ds:List D}:kLst (.ok ds S)=if small ds.length then .ok (.lst ds) S else .bad:=(rfl)
@[simp] theorem v_eCall{u:List D->Option D}{fs:List Fe}:eCall u fs ρ S=kCall u (evalL fs ρ S):=by
 unfold eCall;cases evalL fs ρ S<;>rfl
@[simp] theorem k_call1{u:List D->Option D}{ds:List D}:kCall u (.ok ds S)=Out.of (u ds) S:=(rfl)
@[simp] theorem k_call2{u:List D->Option D}{x:Str}:kCall u (.exc x S)=.exc x S:=(rfl)
@[simp] theorem v_eFn{r:List D->Sto->Out D}{fs:List Fe}:eFn r fs ρ S=kFn r (evalL fs ρ S):=by
 unfold eFn;cases evalL fs ρ S<;>rfl
@[simp] theorem k_fn1{r:List D->Sto->Out D}{ds:List D}:kFn r (.ok ds S)=r ds S:=(rfl)
@[simp] theorem k_fn2{r:List D->Sto->Out D}{x:Str}:kFn r (.exc x S)=.exc x S:=(rfl)
@[simp] theorem v_eChain{u v:D->D->Option D}:eChain u v f g h ρ S=kChain u v g h ρ (f ρ S):=by
 show ((f ρ S).bind fun a S1=>(g ρ S1).bind fun b S2=>match (u a b).bind isB with
  | some true=>(h ρ S2).bind fun c S3=>Out.of (v b c) S3
  | some false=>.ok (.bl false) S2
  | none=>.bad)=_
 cases f ρ S with
 | ok a S1 =>
  show ((g ρ S1).bind fun b S2=>match (u a b).bind isB with
   | some true=>(h ρ S2).bind fun c S3=>Out.of (v b c) S3
   | some false=>.ok (.bl false) S2
   | none=>.bad)=kChain2 u v h ρ a (g ρ S1)
  cases g ρ S1 with
  | ok b S2 =>
   show (match (u a b).bind isB with
    | some true=>(h ρ S2).bind fun c S3=>Out.of (v b c) S3
    | some false=>.ok (.bl false) S2
    | none=>.bad)=kChainB v h ρ b S2 (u a b)
   cases hu:u a b with
   | none=>rfl
   | some d =>
    show (match isB d with
     | some true=>(h ρ S2).bind fun c S3=>Out.of (v b c) S3
     | some false=>.ok (.bl false) S2
     | none=>.bad)=(match isB d with | some true=>kChain3 v b (h ρ S2) | some false=>.ok (.bl false) S2 | none=>.bad)
    cases hb:isB d with
    | none=>rfl
    | some x=>cases x with
     | true=>show ((h ρ S2).bind fun c S3=>Out.of (v b c) S3)=kChain3 v b (h ρ S2);cases h ρ S2<;>rfl
     | false=>rfl
  | exc c S=>rfl
  | bad=>rfl
 | exc c S=>rfl
 | bad=>rfl
@[simp] theorem k_ch1{u v:D->D->Option D}{d:D}:kChain u v g h ρ (.ok d S)=kChain2 u v h ρ d (g ρ S):=(rfl)
@[simp] theorem k_ch2{u v:D->D->Option D}{d e:D}:kChain2 u v h ρ d (.ok e S)=kChainB v h ρ e S (u d e):=(rfl)
@[simp] theorem k_ch3{v:D->D->Option D}{e:D}:kChainB v h ρ e S (some (.bl true))=kChain3 v e (h ρ S):=(rfl)
@[simp] theorem k_ch4{v:D->D->Option D}{e:D}:kChainB v h ρ e S (some (.bl false))=.ok (.bl false) S:=(rfl)
@[simp] theorem k_ch5{v:D->D->Option D}{d e:D}:kChain3 v e (.ok d S)=Out.of (v e d) S:=(rfl)
@[simp] theorem v_evalO0:evalO none ρ S=.ok none S:=(rfl)
@[simp] theorem v_evalO1:evalO (some f) ρ S=kInt (f ρ S):=by
 show ((f ρ S).bind fun d S1=>match d with | .int i=>.ok (some i) S1 | _=>.bad)=_
 cases f ρ S with
 | ok d S'=>cases d<;>rfl
 | exc c S'=>rfl
 | bad=>rfl
@[simp] theorem k_int{i:Int}:kInt (.ok (.int i) S)=.ok (some i) S:=(rfl)
@[simp] theorem v_eSl{l u:Option Fe}:eSl f l u ρ S=kSl l u ρ (f ρ S):=by
 unfold eSl
 cases f ρ S with
 | ok d S1 =>
  show ((evalO l ρ S1).bind fun l S2=>(evalO u ρ S2).bind fun u S3=>Out.of (slD d l u) S3)=kSl1 d u ρ (evalO l ρ S1)
  cases evalO l ρ S1 with
  | ok l S2=>show ((evalO u ρ S2).bind fun u S3=>Out.of (slD d l u) S3)=kSl2 d l (evalO u ρ S2);cases evalO u ρ S2<;>rfl
  | exc c S=>rfl
  | bad=>rfl
 | exc c S=>rfl
 | bad=>rfl
@[simp] theorem k_sl{l u:Option Fe}{d:D}:kSl l u ρ (.ok d S)=kSl1 d u ρ (evalO l ρ S):=(rfl)
@[simp] theorem k_sl1{u:Option Fe}{d:D}{l:Option Int}:kSl1 d u ρ (.ok l S)=kSl2 d l (evalO u ρ S):=(rfl)
@[simp] theorem k_sl2{d:D}{l u:Option Int}:kSl2 d l (.ok u S)=Out.of (slD d l u) S:=(rfl)
@[simp] theorem v_items:eItemsA f ρ S=kItems (f ρ S):=by
 show ((f ρ S).bind fun d S1=>match d with | .lst l=>.ok l S1 | .tup l=>.ok l S1 | _=>.bad)=_
 cases f ρ S with
 | ok d S'=>cases d<;>rfl
 | exc c S'=>rfl
 | bad=>rfl
@[simp] theorem k_it1{l:List D}:kItems (.ok (.lst l) S)=.ok l S:=(rfl)
@[simp] theorem k_it2{l:List D}:kItems (.ok (.tup l) S)=.ok l S:=(rfl)
@[simp] theorem v_enum:eEnum f ρ S=kEnum (evalL [f] ρ S):=by
 show ((evalL [f] ρ S).bind fun ds S1=>match ds with | [.lst l]=>.ok (enumD l) S1 | [.tup l]=>.ok (enumD l) S1 | _=>.bad)=_
 cases evalL [f] ρ S with
 | ok ds S' =>
  cases ds with
  | nil=>rfl
  | cons d ds=>cases ds with
   | nil=>cases d<;>rfl
   | cons e ds=>cases d<;>rfl
 | exc c S'=>rfl
 | bad=>rfl
@[simp] theorem k_en1{l:List D}:kEnum (.ok [.lst l] S)=.ok (enumD l) S:=(rfl)
@[simp] theorem k_en2{l:List D}:kEnum (.ok [.tup l] S)=.ok (enumD l) S:=(rfl)
@[simp] theorem v_zip:eZip f g ρ S=kZip (evalL [f,g] ρ S):=by
 unfold eZip;cases evalL [f,g] ρ S<;>rfl
@[simp] theorem k_zip1{l k:List D}:kZip (.ok [.tup l,.tup k] S)=.ok (zipD l k) S:=(rfl)
@[simp] theorem k_zip2{l k:List D}:kZip (.ok [.lst l,.tup k] S)=.ok (zipD l k) S:=(rfl)
@[simp] theorem k_zip3{l k:List D}:kZip (.ok [.tup l,.lst k] S)=.ok (zipD l k) S:=(rfl)
@[simp] theorem k_zip4{l k:List D}:kZip (.ok [.lst l,.lst k] S)=.ok (zipD l k) S:=(rfl)
@[simp] theorem v_rng1:eRng1 f ρ S=kRng1 (evalL [f] ρ S):=by
 unfold eRng1;cases evalL [f] ρ S<;>rfl
@[simp] theorem k_rng1{j:Int}:kRng1 (.ok [.int j] S)=if -1000000<=j/\j<=1000000 then .ok (rangeD 0 j) S else .bad:=(rfl)
@[simp] theorem v_rng2:eRng2 f g ρ S=kRng2 (evalL [f,g] ρ S):=by
 unfold eRng2;cases evalL [f,g] ρ S<;>rfl
@[simp] theorem k_rng2{i j:Int}:kRng2 (.ok [.int i,.int j] S)=if (-1000000<=i/\i<=1000000)/\-1000000<=j/\j<=1000000 then .ok (rangeD i j) S else .bad:=(rfl)
@[simp] theorem v_comp{n:Nat}{t:Tg}{it:Fi}{caps:List Nat}:eComp n t it c f caps ρ S=kComp t c f (compEnv n caps ρ) (it ρ S):=by
 unfold eComp
 cases it ρ S with
 | ok ds S' =>
  simp only [Out.bind,kComp]
  cases compD t c f (compEnv n caps ρ) ds S'<;>rfl
 | exc c S'=>rfl
 | bad=>rfl
@[simp] theorem k_comp{t:Tg}{ρ0:Env}{ds:List D}:kComp t c f ρ0 (.ok ds S)=kComp' (compD t c f ρ0 ds S):=(rfl)
@[simp] theorem k_comp'{ys:List D}:kComp' (.ok ys S)=if small ys.length then .ok (.lst ys) S else .bad:=(rfl)
@[simp] theorem v_yes:fYes ρ S=.ok (.bl true) S:=(rfl)
@[simp] theorem v_compEnv{n:Nat}{caps:List Nat}:compEnv n caps ρ=List.replicate n none++caps.map (capD ρ):=(rfl)
@[simp] theorem v_capD{i:Nat}:capD ρ i=kCap ρ[i]?:=(rfl)
@[simp] theorem k_cap{d:D}:kCap (some (some (false,d)))=some (false,d):=(rfl)
theorem v_run{n:Nat}{own:Bool}{fs:Fs}{ds:List D}:runD n own fs ds S=kRun own (fs (ds.map (fun d=>some (false,d))++List.replicate (n-ds.length) none) S):=(rfl)
@[simp] theorem k_run1{own:Bool}{d:D}:kRun own (.rt d S)=.ok d S:=(rfl)
@[simp] theorem k_run2:kRun false (.nx ρ S)=.ok .non S:=(rfl)
@[simp] theorem k_run3{own:Bool}{x:Str}:kRun own (.ex x ρ S)=.exc x S:=(rfl)
@[simp] theorem v_isB{b:Bool}:isB (.bl b)=some b:=(rfl)
@[simp] theorem v_not{b:Bool}:notD (.bl b)=some (.bl (!b)):=(rfl)
@[simp] theorem v_neg{i:Int}:negD (.int i)=some (.int (-i)):=(rfl)
@[simp] theorem v_addI{i j:Int}:addD (.int i) (.int j)=some (.int (i+j)):=(rfl)
@[simp] theorem v_addT{x y:List D}:addD (.tup x) (.tup y)=if small (x.length+y.length) then some (.tup (x++y)) else none:=(rfl)
@[simp] theorem v_addL{x y:List D}:addD (.lst x) (.lst y)=if small (x.length+y.length) then some (.lst (x++y)) else none:=(rfl)
@[simp] theorem v_sub{i j:Int}:subD (.int i) (.int j)=some (.int (i-j)):=(rfl)
@[simp] theorem v_mul{i j:Int}:mulD (.int i) (.int j)=if fits64 i||fits64 j then some (.int (i*j)) else none:=(rfl)
@[simp] theorem v_mod{i j:Int}:modD (.int i) (.int j)=if 0<j then some (.int (i % j)) else none:=(rfl)
@[simp] theorem v_div{i j:Int}:divD (.int i) (.int j)=if 0<j/\j<1073741824 then some (.int (i / j)) else none:=(rfl)
@[simp] theorem v_lt{i j:Int}:ltD (.int i) (.int j)=some (.bl (decide (i<j))):=(rfl)
@[simp] theorem v_le{i j:Int}:leD (.int i) (.int j)=some (.bl (decide (i<=j))):=(rfl)
@[simp] theorem v_gt{i j:Int}:gtD (.int i) (.int j)=some (.bl (decide (j<i))):=(rfl)
@[simp] theorem v_ge{i j:Int}:geD (.int i) (.int j)=some (.bl (decide (j<=i))):=(rfl)
@[simp] theorem v_ixL{l:List D}{i:Int}:ixD (.lst l) (.int i)=atI l i:=(rfl)
@[simp] theorem v_ixT{l:List D}{i:Int}:ixD (.tup l) (.int i)=atI l i:=(rfl)
@[simp] theorem v_ixS{l:List Int}{i:Int}:ixD (.scr l) (.int i)=(atI l i).map D.int:=(rfl)
@[simp] theorem v_lenL{l:List D}:lenD [.lst l]=some (.int l.length):=(rfl)
@[simp] theorem v_lenT{l:List D}:lenD [.tup l]=some (.int l.length):=(rfl)
@[simp] theorem v_lenS{l:List Int}:lenD [.scr l]=some (.int l.length):=(rfl)
@[simp] theorem v_tupL{l:List D}:tupleD [.lst l]=some (.tup l):=(rfl)
@[simp] theorem v_tupT{l:List D}:tupleD [.tup l]=some (.tup l):=(rfl)
@[simp] theorem v_lstL{l:List D}:listD [.lst l]=some (.lst l):=(rfl)
@[simp] theorem v_lstT{l:List D}:listD [.tup l]=some (.lst l):=(rfl)
@[simp] theorem v_isn{d:D}:isnD d .non=some (.bl (isNon d)):=(rfl)
@[simp] theorem v_notn{d:D}:notnD d .non=some (.bl (!isNon d)):=(rfl)
@[simp] theorem v_non0:isNon .non=true:=(rfl)
@[simp] theorem v_non1{i:Int}:isNon (.int i)=false:=(rfl)
@[simp] theorem v_non2{l:List D}:isNon (.tup l)=false:=(rfl)
@[simp] theorem v_slT{l:List D}{x y:Option Int}:slD (.tup l) x y=some (.tup (cutD l x y)):=(rfl)
@[simp] theorem v_slL{l:List D}{x y:Option Int}:slD (.lst l) x y=some (.lst (cutD l x y)):=(rfl)
@[simp] theorem v_notb{x y:Bool}:notbD (.bl x) (.bl y)=some (.bl (!decide (x=y))):=(rfl)
@[simp] theorem v_minL{i j:Int}:minLD [.int i,.int j]=some (.int (if j<i then j else i)):=(rfl)
@[simp] theorem v_small{n:Nat}:small n=decide (n<=100000):=(rfl)
theorem atI_nat'{α:Type}(xs:List α)(j:Nat):atI xs (j:Int)=xs[j]?:=by
 unfold atI ixN
 by_cases h:j<xs.length
 ·simp [h]
 ·simp [h]
@[simp] theorem atI_zero{α:Type}(xs:List α):atI xs 0=xs[0]?:=atI_nat' xs 0
@[simp] theorem atI_one{α:Type}(xs:List α):atI xs 1=xs[1]?:=atI_nat' xs 1
@[simp] theorem atI_two{α:Type}(xs:List α):atI xs 2=xs[2]?:=atI_nat' xs 2
@[simp] theorem atI_three{α:Type}(xs:List α):atI xs 3=xs[3]?:=atI_nat' xs 3
theorem atI_cast{α:Type}{xs:List α}{i:Int}(h:0<=i):atI xs i=xs[i.toNat]?:=by
 obtain ⟨n,rfl⟩:=Int.eq_ofNat_of_zero_le h
 exact atI_nat' xs n
end
theorem forD_rel{tg:Tg}{body:Fs}{ds:List D}{S:Sto}(Iv:Nat->Env->Prop)(step:∀k d ρ,ds[k]?=some d->Iv k ρ->∃ρ1 ρ2,tg.put ρ d=some ρ1/\body ρ1 S=.nx ρ2 S/\Iv (k+1) ρ2){ρ:Env}(h0:Iv 0 ρ):∃ρ',forD tg body ds ρ S=.nx ρ' S/\Iv ds.length ρ':=by
 have go:∀(n:Nat) (es:List D) (k:Nat) (ρ:Env),es.length=n->ds.drop k=es->k+n=ds.length->Iv k ρ->∃ρ',forD tg body es ρ S=.nx ρ' S/\Iv ds.length ρ':=by
  intro n
  induction n with
  | zero =>
   intro es k ρ hl he hk hi
   obtain rfl:es=[]:=List.eq_nil_of_length_eq_zero hl
   exact ⟨ρ,rfl,by rw [show ds.length=k by omega];exact hi⟩
  | succ n ih =>
   intro es k ρ hl he hk hi
   cases es with
   | nil=>cases hl
   | cons d es =>
    have hd:ds[k]?=some d:=by
     have:=congrArg (fun l=>l[0]?) he
     rw [List.getElem?_drop] at this
     simpa using this
    obtain ⟨ρ1,ρ2,e1,e2,hi2⟩:=step k d ρ hd hi
    obtain ⟨ρ',e3,e4⟩:=ih es (k+1) ρ2 (by simpa using hl) (by rw [<-List.drop_drop,he];rfl) (by omega) hi2
    refine ⟨ρ',?_,e4⟩
    unfold forD
    rw [e1]
    dsimp only
    rw [e2]
    exact e3
 exact go ds.length ds 0 ρ rfl (by simp) (by omega) h0
theorem compD_map{tg:Tg}{c elt:Fe}{ρ0:Env}{S:Sto}{g:D->D}{p:D->Bool}:∀{ds:List D},(∀d∈ds,∃ρ1,tg.put ρ0 d=some ρ1/\c ρ1 S=.ok (.bl (p d)) S/\(p d=true->elt ρ1 S=.ok (g d) S))->compD tg c elt ρ0 ds S=.ok ((ds.filter p).map g) S
 | [],_=>rfl
 | d::ds,h=>by
  obtain ⟨ρ1,e1,e2,e3⟩:=h d List.mem_cons_self
  have ih:=compD_map (ds:=ds) fun x hx=>h x (List.mem_cons_of_mem _ hx)
  unfold compD
  rw [e1]
  dsimp only
  rw [e2]
  cases hp:p d with
  | true=>simp [e3 hp,ih,hp]
  | false=>simp [ih,hp]
theorem compD_all{tg:Tg}{elt:Fe}{ρ0:Env}{S:Sto}{g:D->D}{ds:List D}(h:∀d∈ds,∃ρ1,tg.put ρ0 d=some ρ1/\elt ρ1 S=.ok (g d) S):compD tg fYes elt ρ0 ds S=.ok (ds.map g) S:=by
 have:=compD_map (c:=fYes) (p:=fun _=>true) (tg:=tg) (elt:=elt) (ρ0:=ρ0) (S:=S) (g:=g) (ds:=ds) fun d hd=>by
  obtain ⟨ρ1,e1,e2⟩:=h d hd
  exact ⟨ρ1,e1,rfl,fun _=>e2⟩
 rw [this,List.filter_eq_self.mpr (fun _ _=>rfl)]
mutual
def D.pl:D->Bool
 | .non=>true
 | .int _=>true
 | .str _=>true
 | .tup l=>D.pls l
 | .lst l=>D.pls l
 | _=>false
def D.pls:List D->Bool
 | []=>true
 | d::l=>d.pl&&D.pls l
end
theorem D.pls_iff:∀{l:List D},D.pls l=true↔∀d∈l,d.pl=true
 | []=>by simp [D.pls]
 | d::l=>by simp [D.pls,D.pls_iff (l:=l)]
mutual
theorem eqv_pl:∀(d e:D),d.pl=true->e.pl=true->(d.py.eqv e.py=true↔d=e)
 | .non,e,_,h=>by cases e<;>simp [D.py,PyData.eqv,D.pl] at h ⊢
 | .int i,e,_,h=>by cases e<;>simp [D.py,PyData.eqv,D.pl] at h ⊢
 | .str x,e,_,h=>by cases e<;>simp [D.py,PyData.eqv,D.pl] at h ⊢
 | .tup l,e,hd,h=>by
  cases e with
  | tup k =>
   simp only [D.py,PyData.eqv,D.pl] at hd h ⊢
   rw [eqvs_pl l k hd h];simp
  | _=>simp [D.py,PyData.eqv,D.pl] at h ⊢
 | .lst l,e,hd,h=>by
  cases e with
  | lst k =>
   simp only [D.py,PyData.eqv,D.pl] at hd h ⊢
   rw [eqvs_pl l k hd h];simp
  | _=>simp [D.py,PyData.eqv,D.pl] at h ⊢
 | .bl _,_,hd,_=>by simp [D.pl] at hd
 | .dic _,_,hd,_=>by simp [D.pl] at hd
 | .ref _,_,hd,_=>by simp [D.pl] at hd
 | .exc _,_,hd,_=>by simp [D.pl] at hd
 | .scr _,_,hd,_=>by simp [D.pl] at hd
theorem eqvs_pl:∀(l k:List D),D.pls l=true->D.pls k=true->(PyData.eqvAll (D.pys l) (D.pys k)=true↔l=k)
 | [],[],_,_=>by simp [D.pys,PyData.eqvAll]
 | [],_::_,_,_=>by simp [D.pys,PyData.eqvAll]
 | _::_,[],_,_=>by simp [D.pys,PyData.eqvAll]
 | d::l,e::k,h1,h2=>by
  simp only [D.pls,Bool.and_eq_true] at h1 h2
  simp only [D.pys,PyData.eqvAll,Bool.and_eq_true,List.cons.injEq]
  rw [eqv_pl d e h1.1 h2.1,eqvs_pl l k h1.2 h2.2]
end
end S2
namespace S2
open PySem
open L2 hiding D
@[simp] theorem fit_int{n:Nat}{i:Int}:D.fit n (.int i)=true:=by cases n<;>rfl
@[simp] theorem fit_non{n:Nat}:D.fit n .non=true:=by cases n<;>rfl
@[simp] theorem fit_tup{n:Nat}{l:List D}:D.fit (n+1) (.tup l)=D.fits n l:=(rfl)
@[simp] theorem fit_lst{n:Nat}{l:List D}:D.fit (n+1) (.lst l)=D.fits n l:=(rfl)
@[simp] theorem fits_nil{n:Nat}:D.fits n []=true:=by cases n<;>rfl
@[simp] theorem fits_cons{n:Nat}{d:D}{l:List D}:D.fits n (d::l)=(d.fit n&&D.fits n l):=by cases n<;>rfl
@[simp] theorem v_eqI{i j:Int}:eqD (.int i) (.int j)=some (.bl (decide (i=j))):=by
 unfold eqD pyEq;simp [D.py,PyData.eqv]
 cases h:(i == j)<;>simp_all
@[simp] theorem v_neI{i j:Int}:neD (.int i) (.int j)=some (.bl (!decide (i=j))):=by
 unfold neD pyEq;simp [D.py,PyData.eqv]
 cases h:(i == j)<;>simp_all
theorem eq_scr_nil{l:List Int}:eqD (.scr l) (.lst [])=some (.bl (decide (l=[]))):=by
 cases l with
 | nil=>rfl
 | cons a l=>simp [eqD,D.fit,D.fits,pyEq,D.py,D.pys,PyData.eqv,PyData.eqvAll]
def cellL(l:List Int)(k:Int):Int:=if k<l.length then l.getD k.toNat 0 else if l=[] then 0 else l.getD (k % l.length).toNat 0*31+k
def pickL(l:List Int)(k:Int)(many:Int):Int :=
 let d:=(cellL l k+6151*(k+1))*40692 % 2147483399
 (d*d+d / 31) % 2147483629 % many
theorem pick_nn(l:List Int)(k:Int){many:Int}(h:0<many):0<=pickL l k many/\pickL l k many<many:=⟨Int.emod_nonneg _ (by omega),Int.emod_lt_of_pos _ h⟩
@[simp] theorem f64_31:fits64 31=true:=by decide
@[simp] theorem f64_6151:fits64 6151=true:=by decide
@[simp] theorem f64_40692:fits64 40692=true:=by decide
theorem f64_of{i:Int}(h0:-(2 ^ 64)<i)(h:i<2 ^ 64):fits64 i=true:=by unfold fits64;simp;omega
theorem run_cell{l:List Int}{k:Int}{S:Sto}(hk:0<=k):r__law_cell [.scr l,.int k] S=.ok (.int (cellL l k)) S:=by
 unfold cellL
 by_cases h:k<l.length
 ·have hx:l[k.toNat]?=some l[k.toNat]:=List.getElem?_eq_getElem (by omega)
  rw [if_pos h,List.getD_eq_getElem?_getD,hx]
  simp [r__law_cell,v_run,f__law_cell,h,atI_cast hk,hx]
 ·by_cases h0:l=[]
  ·subst h0
   simp [r__law_cell,v_run,f__law_cell,eq_scr_nil,show ¬ k<0 by omega]
  ·have hl:0<l.length:=by cases l with | nil=>exact absurd rfl h0 | cons _ _=>simp
   have hm0:0<=k % (l.length:Int):=Int.emod_nonneg _ (by omega)
   have hm1:k % (l.length:Int)<l.length:=Int.emod_lt_of_pos _ (by omega)
   have hx:l[(k % (l.length:Int)).toNat]?=some (l[(k % (l.length:Int)).toNat]'(by omega)):=List.getElem?_eq_getElem (by omega)
   rw [if_neg h,if_neg h0,List.getD_eq_getElem?_getD,hx]
   simp [r__law_cell,v_run,f__law_cell,h,h0,eq_scr_nil,atI_cast hm0,hx,hl]
theorem run_pick{l:List Int}{k many:Int}{S:Sto}(hk:0<=k)(hm:0<many):r__law_pick [.scr l,.int k,.int many] S=.ok (.int (pickL l k many)) S:=by
 unfold pickL
 have h0:0<=(cellL l k+6151*(k+1))*40692 % 2147483399:=Int.emod_nonneg _ (by omega)
 have h1:(cellL l k+6151*(k+1))*40692 % 2147483399<2147483399:=Int.emod_lt_of_pos _ (by omega)
 have hf:fits64 ((cellL l k+6151*(k+1))*40692 % 2147483399)=true:=f64_of (by omega) (by omega)
 simp [r__law_pick,v_run,f__law_pick,run_cell hk,hf,hm]
def tileD(t:List Int):D:=.tup (t.map D.int)
theorem ints_inj{t u:List Int}:t.map D.int=u.map D.int↔t=u:=by
 constructor
 ·intro h
  induction t generalizing u with
  | nil=>cases u with | nil=>rfl | cons _ _=>cases h
  | cons a t ih=>cases u with
   | nil=>cases h
   | cons b u =>
    simp only [List.map_cons,List.cons.injEq,D.int.injEq] at h
    rw [h.1,ih h.2]
 ·rintro rfl;rfl
theorem tile_inj{t u:List Int}:tileD t=tileD u↔t=u:=by unfold tileD;rw [D.tup.injEq];exact ints_inj
theorem pls_ints{t:List Int}:D.pls (t.map D.int)=true:=by rw [D.pls_iff];intro d hd;obtain ⟨i,_,rfl⟩:=List.mem_map.mp hd;rfl
theorem pl_tile{t:List Int}:(tileD t).pl=true:=pls_ints
theorem fits_ints{n:Nat}{t:List Int}:D.fits n (t.map D.int)=true:=by rw [D.fits_iff];intro d hd;obtain ⟨i,_,rfl⟩:=List.mem_map.mp hd;exact fit_int
theorem fit_tile{n:Nat}{t:List Int}:(tileD t).fit (n+1)=true:=fits_ints
theorem mem_pl{d:D}:∀{l:List D},d.pl=true->D.pls l=true->(memD d l=true↔d∈l)
 | [],_,_=>by simp [memD]
 | e::l,h,hl=>by
  simp only [D.pls,Bool.and_eq_true] at hl
  have ih:=mem_pl (d:=d) (l:=l) h hl.2
  have e1:=eqv_pl e d hl.1 h
  unfold memD
  simp only [List.any_cons,Bool.or_eq_true,List.mem_cons]
  unfold memD at ih
  rw [ih]
  unfold pyEq
  rw [e1]
  constructor<;>(intro z;rcases z with z | z<;>simp [z])
theorem nin_tiles{t:List Int}{ts:Z2}:ninD (tileD t) (.lst (ts.map tileD))=some (.bl (!decide (t∈ts))):=by
 have f1:(tileD t).fit 8=true:=fit_tile
 have f2:D.fits 8 (ts.map tileD)=true:=by rw [D.fits_iff];intro d hd;obtain ⟨i,_,rfl⟩:=List.mem_map.mp hd;exact fit_tile
 have p2:D.pls (ts.map tileD)=true:=by rw [D.pls_iff];intro d hd;obtain ⟨i,_,rfl⟩:=List.mem_map.mp hd;exact pl_tile
 have m:=mem_pl (d:=tileD t) pl_tile p2
 have:(tileD t∈ts.map tileD)↔t∈ts:=by
  rw [List.mem_map]
  constructor
  ·rintro ⟨u,hu,e⟩;rw [<-tile_inj.mp e];exact hu
  ·intro h;exact ⟨t,h,rfl⟩
 rw [this] at m
 unfold ninD
 simp only [seqOf,f1,f2,Bool.and_self,if_true,Option.some.injEq,D.bl.injEq]
 congr 1
 by_cases h:t∈ts
 ·rw [m.mpr h];simp [h]
 ·cases hm:memD (tileD t) (ts.map tileD)
  ·simp [h]
  ·exact absurd (m.mp hm) h
structure Tiles(most:Int)(ts:Z2):Prop where
 ne:1<=ts.length
 le:(ts.length:Int)<=most
 four:∀t∈ts,t.length=4
 col:∀t∈ts,∀c∈t,0<=c/\c<3
 nd:ts.Nodup
theorem range_get{hi:Int}{k:Nat}{d:D}(h:(rangeD 0 hi)[k]?=some d):d=.int k/\(k:Int)<hi:=by
 unfold rangeD at h
 rw [List.getElem?_map] at h
 cases hr:(List.range (hi-0).toNat)[k]? with
 | none=>rw [hr] at h;cases h
 | some j =>
  rw [hr] at h
  obtain ⟨h1,h2⟩:=List.getElem?_eq_some_iff.mp hr
  simp at h1 h2
  subst h2
  simp at h
  exact ⟨h.symm,by omega⟩
@[simp] theorem range_len{hi:Int}:(rangeD 0 hi).length=hi.toNat:=by unfold rangeD;simp
end S2
namespace S2
open PySem
open L2 hiding D
theorem range4:rangeD 0 4=[.int 0,.int 1,.int 2,.int 3]:=by rfl
@[simp] theorem f64_4:fits64 4=true:=by decide
@[simp] theorem f64_7:fits64 7=true:=by decide
theorem tile_nx{l:List Int}{at' most col k:Int}{S:Sto}{ts:Z2}{y:Option (Bool×D)}(ha:0<=at')(hk:0<=k)(hc:0<col)(hc3:col<=3)(hn:ts.length<=1000) :
  ∃t y',t.length=4/\(∀c∈t,0<=c/\c<3)/\b__law_tiles_1 [some (false,.scr l),some (false,.int at'),some (false,.int most),some (false,.int col),some (true,.lst (ts.map tileD)),some (false,.int k),y] S
   = .nx [some (false,.scr l),some (false,.int at'),some (false,.int most),some (false,.int col),some (true,.lst ((if t∈ts then ts else ts++[t]).map tileD)),some (false,.int k),y'] S:=by
 have hcomp:∀ρ0:Env,ρ0=[none,some (false,.int at'),some (false,.int col),some (false,.int k),some (false,.scr l)]->compD (.one 0) fYes (eFn r__law_pick [(eVar 4),(eBin addD (eBin addD (eBin addD (eBor 1) (eBin mulD (eCon (.int 4)) (eBor 3))) (eCon (.int 2))) (eBor 0)),(eVar 2)]) ρ0 (rangeD 0 4) S
   = .ok ([pickL l (at'+4*k+2+0) col,pickL l (at'+4*k+2+1) col,pickL l (at'+4*k+2+2) col,pickL l (at'+4*k+2+3) col].map D.int) S:=by
  rintro _ rfl
  rw [range4,compD_all (g:=fun d=>match d with | .int i=>.int (pickL l (at'+4*k+2+i) col) | _=>.non)]
  ·rfl
  ·intro d hd
   simp only [List.mem_cons,List.not_mem_nil,or_false] at hd
   rcases hd with rfl | rfl | rfl | rfl<;>exact ⟨_,rfl,by simp;rw [run_pick (by omega) hc]⟩
 have b0:=pick_nn l (at'+4*k+2+0) hc
 have b1:=pick_nn l (at'+4*k+2+1) hc
 have b2:=pick_nn l (at'+4*k+2+2) hc
 have b3:=pick_nn l (at'+4*k+2+3) hc
 generalize pickL l (at'+4*k+2+0) col=p0 at *
 generalize pickL l (at'+4*k+2+1) col=p1 at *
 generalize pickL l (at'+4*k+2+2) col=p2 at *
 generalize pickL l (at'+4*k+2+3) col=p3 at *
 have fin:∀t:List Int,(sSeq (sFz [] (sIf (eBin ninD (eBor 6) (eBor 4)) (sSeq (sFz [6] (sApp 4 (eVar 6))) sNx) sNx)) sNx) [some (false,.scr l),some (false,.int at'),some (false,.int most),some (false,.int col),some (true,.lst (ts.map tileD)),some (false,.int k),some (false,tileD t)] S
   = .nx [some (false,.scr l),some (false,.int at'),some (false,.int most),some (false,.int col),some (true,.lst ((if t∈ts then ts else ts++[t]).map tileD)),some (false,.int k),some (false,tileD t)] S:=by
  intro t
  by_cases h:t∈ts
  ·simp [nin_tiles,h]
  ·simp [nin_tiles,h,show ts.length<=100000 by omega]
 by_cases h3:pickL l (at'+60+k) 3=0
 ·refine ⟨[p0,p1,p0,p1],some (false,tileD [p0,p1,p0,p1]),rfl,by simp;omega,?_⟩
  rw [<-fin]
  simp [b__law_tiles_1,hcomp,run_pick (show 0<=at'+60+k by omega) (show (0:Int)<3 by omega),h3]
  rfl
 ·refine ⟨[p0,p1,p2,p3],some (false,tileD [p0,p1,p2,p3]),rfl,by simp;omega,?_⟩
  rw [<-fin]
  simp [b__law_tiles_1,hcomp,run_pick (show 0<=at'+60+k by omega) (show (0:Int)<3 by omega),h3]
  rfl
theorem run_tiles{l:List Int}{at' most:Int}{S:Sto}(ha:0<=at')(hm:0<most)(hm2:most<=100):∃ts,Tiles most ts/\r__law_tiles [.scr l,.int at',.int most] S=.ok (.tup (ts.map tileD)) S:=by
 have b:=pick_nn l at' (many:=2) (by omega)
 have n:=pick_nn l (at'+1) hm
 have p1:=run_pick (l:=l) (S:=S) ha (show (0:Int)<2 by omega)
 have p2:=run_pick (l:=l) (S:=S) (show 0<=at'+1 by omega) hm
 generalize pickL l at' 2=c at *
 generalize pickL l (at'+1) most=m at *
 obtain ⟨ρ',e,ts,x,y,rfl,h1,h2,h3,h4,h5⟩:=forD_rel (tg:=.one 5) (body:=b__law_tiles_1) (ds:=rangeD 0 (1+m)) (S:=S) (fun k ρ=>∃ts x y,ρ=[some (false,.scr l),some (false,.int at'),some (false,.int most),some (false,.int (2+c)),some (true,.lst (ts.map tileD)),x,y]/\ts.length<=k/\(0<k->1<=ts.length)/\(∀t∈ts,t.length=4)/\(∀t∈ts,∀c∈t,0<=c/\c<3)/\ts.Nodup) (by
   rintro k d ρ hd ⟨ts,x,y,rfl,h1,h2,h3,h4,h5⟩
   obtain ⟨rfl,hk⟩:=range_get hd
   obtain ⟨t,y',a1,a2,a3⟩:=tile_nx (l:=l) (at':=at') (most:=most) (col:=2+c) (k:=k) (S:=S) (ts:=ts) (y:=y) ha (by omega) (by omega) (by omega) (by omega)
   refine ⟨_,_,rfl,a3,_,_,_,rfl,?_,?_,?_,?_,?_⟩
   ·split<;>(try simp)<;>omega
   ·intro _
    split
    ·rename_i h;exact List.length_pos_of_mem h
    ·simp
   ·intro u hu
    split at hu
    ·exact h3 u hu
    ·rw [List.mem_append,List.mem_singleton] at hu
     rcases hu with hu | rfl
     ·exact h3 u hu
     ·exact a1
   ·intro u hu
    split at hu
    ·exact h4 u hu
    ·rw [List.mem_append,List.mem_singleton] at hu
     rcases hu with hu | rfl
     ·exact h4 u hu
     ·exact a2
   ·split
    ·exact h5
    ·rename_i h
     rw [List.nodup_append]
     refine ⟨h5,by simp,?_⟩
     intro a ha b hb;rw [List.mem_singleton] at hb;subst hb;rintro rfl;exact h ha)
  (ρ:=[some (false,.scr l),some (false,.int at'),some (false,.int most),some (false,.int (2+c)),some (true,.lst []),none,none]) ⟨[],none,none,rfl,by simp,by simp,by simp,by simp,by simp⟩
 rw [range_len] at h1 h2
 refine ⟨ts,⟨h2 (by omega),by omega,h3,h4,h5⟩,?_⟩
 simp [r__law_tiles,v_run,f__law_tiles,p1,p2,show -1000000<=1+m/\1+m<=1000000 by omega,e]
end S2
namespace S2
open PySem
open L2 hiding D
def oD:Option Int->D | none=>.non | some i=>.int i
def rowL(c:Nat)(g:Nat->Option Int):List D:=(List.range c).map fun j=>oD (g j)
def rowD(c:Nat)(g:Nat->Option Int):D:=.tup (rowL c g)
def flrL(r c:Nat)(g:Z1):List D:=(List.range r).map fun i=>rowD c (g i)
def flr(r c:Nat)(g:Z1):D:=.tup (flrL r c g)
@[simp] theorem rowL_len{c:Nat}{g:Nat->Option Int}:(rowL c g).length=c:=by simp [rowL]
@[simp] theorem flrL_len{r c:Nat}{g:Z1}:(flrL r c g).length=r:=by simp [flrL]
theorem rowL_get{c j:Nat}{g:Nat->Option Int}(h:j<c):(rowL c g)[j]?=some (oD (g j)):=by simp [rowL,h]
theorem flrL_get{r c i:Nat}{g:Z1}(h:i<r):(flrL r c g)[i]?=some (rowD c (g i)):=by simp [flrL,h]
@[simp] theorem rowL_ge{c j:Nat}{g:Nat->Option Int}(h:j<(rowL c g).length):(rowL c g)[j]=oD (g j):=by simp [rowL]
@[simp] theorem flrL_ge{r c i:Nat}{g:Z1}(h:i<(flrL r c g).length):(flrL r c g)[i]=rowD c (g i):=by simp [flrL]
theorem rowL_succ{k:Nat}{g:Nat->Option Int}:rowL (k+1) g=rowL k g++[oD (g k)]:=by simp [rowL,List.range_succ]
theorem flrL_succ{k c:Nat}{g:Z1}:flrL (k+1) c g=flrL k c g++[rowD c (g k)]:=by simp [flrL,List.range_succ]
def numL(l:List Int)(at' n m:Int)(i j:Nat):Option Int:=if pickL l (at'+7*i+j) (n*m)<n then some (pickL l (at'+7*i+j) (n*m)) else none
theorem num_ok{l:List Int}{at' n m:Int}{i j:Nat}(h:0<n*m):∀x,numL l at' n m i j=some x->0<=x/\x<n:=by
 intro x e
 unfold numL at e
 have:=pick_nn l (at'+7*i+j) h
 split at e
 ·cases e;omega
 ·cases e
theorem floor_in{l:List Int}{at' m:Int}{ts:List D}{r c:Nat}{i:Nat}{S:Sto}{A B Mm:Option (Bool×D)}{y:Option (Bool×D)}{z:Option (Bool×D)}(ha:0<=at')(hp:0<(ts.length:Int)*m)(hm:fits64 m=true)(hc:c<=1000) :
  ∃y' z',forD (.one 9) b__law_floor_1 (rangeD 0 c) [some (false,.scr l),some (false,.int at'),some (false,.tup ts),A,B,some (false,.int m),Mm,some (false,.int i),some (true,.lst []),y,z] S
   = .nx [some (false,.scr l),some (false,.int at'),some (false,.tup ts),A,B,some (false,.int m),Mm,some (false,.int i),some (true,.lst (rowL c (numL l at' ts.length m i))),y',z'] S:=by
 obtain ⟨ρ',e,y',z',rfl⟩:=forD_rel (tg:=.one 9) (body:=b__law_floor_1) (ds:=rangeD 0 c) (S:=S) (fun k ρ=>∃y z,ρ=[some (false,.scr l),some (false,.int at'),some (false,.tup ts),A,B,some (false,.int m),Mm,some (false,.int i),some (true,.lst (rowL k (numL l at' ts.length m i))),y,z]) (by
  rintro k d ρ hd ⟨y,z,rfl⟩
  obtain ⟨rfl,hk⟩:=range_get hd
  have p:=run_pick (l:=l) (S:=S) (show 0<=at'+7*(i:Int)+(k:Int) by omega) hp
  have pn:=pick_nn l (at'+7*(i:Int)+(k:Int)) hp
  refine ⟨_,_,rfl,?_,some (false,.int k),some (false,.int (pickL l (at'+7*i+k) (ts.length*m))),rfl⟩
  ·rw [rowL_succ]
   by_cases h:pickL l (at'+7*(i:Int)+(k:Int)) (ts.length*m)<ts.length
   ·simp [b__law_floor_1,p,hm,h,numL,oD,show k<=100000 by omega]
   ·simp [b__law_floor_1,p,hm,h,numL,oD,show k<=100000 by omega])
  (ρ:=[some (false,.scr l),some (false,.int at'),some (false,.tup ts),A,B,some (false,.int m),Mm,some (false,.int i),some (true,.lst []),y,z]) ⟨y,z,rfl⟩
 exact ⟨y',z',by simpa using e⟩
theorem run_floor{l:List Int}{at' m:Int}{ts:List D}{r c:Int}{S:Sto}(ha:0<=at')(hp:0<(ts.length:Int)*m)(hm:fits64 m=true)(hr:0<=r)(hr2:r<=1000)(hc:0<=c)(hc2:c<=1000) :
  r__law_floor [.scr l,.int at',.tup ts,.int r,.int c,.int m] S=.ok (flr r.toNat c.toNat (numL l at' ts.length m)) S:=by
 obtain ⟨r,rfl⟩:=Int.eq_ofNat_of_zero_le hr
 obtain ⟨c,rfl⟩:=Int.eq_ofNat_of_zero_le hc
 obtain ⟨ρ',e,x1,x2,x3,x4,rfl⟩:=forD_rel (tg:=.one 7) (body:=b__law_floor_2) (ds:=rangeD 0 r) (S:=S) (fun k ρ=>∃x1 x2 x3 x4,ρ=[some (false,.scr l),some (false,.int at'),some (false,.tup ts),some (false,.int r),some (false,.int c),some (false,.int m),some (true,.lst (flrL k c (numL l at' ts.length m))),x1,x2,x3,x4]) (by
  rintro k d ρ hd ⟨x1,x2,x3,x4,rfl⟩
  obtain ⟨rfl,hk⟩:=range_get hd
  obtain ⟨y',z',e⟩:=floor_in (l:=l) (at':=at') (m:=m) (ts:=ts) (r:=r) (c:=c) (i:=k) (S:=S) (A:=some (false,.int r)) (B:=some (false,.int c)) (Mm:=some (true,.lst (flrL k c (numL l at' ts.length m)))) (y:=x3) (z:=x4) ha hp hm (by omega)
  refine ⟨_,_,rfl,?_,some (false,.int k),some (true,.lst (rowL c (numL l at' ts.length m k))),y',z',rfl⟩
  ·rw [flrL_succ]
   simp [b__law_floor_2,e,rowD,show -1000000<=(c:Int)/\(c:Int)<=1000000 by omega,show k<=100000 by omega])
  (ρ:=[some (false,.scr l),some (false,.int at'),some (false,.tup ts),some (false,.int r),some (false,.int c),some (false,.int m),some (true,.lst []),none,none,none,none]) ⟨none,none,none,none,rfl⟩
 simp at e
 simp [r__law_floor,v_run,f__law_floor,e,flr,show -1000000<=(r:Int)/\(r:Int)<=1000000 by omega]
end S2
namespace S2
open PySem
open L2 hiding D
abbrev plD(i j:Nat):D:=.tup [.int i,.int j]
def plsL(r c:Nat):List D:=(List.range r).flatMap fun i=>(List.range c).map fun j=>plD i j
theorem plsL_succ{k c:Nat}:plsL (k+1) c=plsL k c++(List.range c).map fun j=>plD k j:=by simp [plsL,List.range_succ]
theorem pls_mem{r c:Nat}{d:D}(h:d∈plsL r c):∃i j,i<r/\j<c/\d=plD i j:=by
 simp only [plsL,List.mem_flatMap,List.mem_range,List.mem_map] at h
 obtain ⟨i,hi,j,hj,e⟩:=h
 exact ⟨i,j,hi,hj,e.symm⟩
theorem pls_in{r c i j:Nat}(hi:i<r)(hj:j<c):plD i j∈plsL r c:=by
 simp only [plsL,List.mem_flatMap,List.mem_range,List.mem_map]
 exact ⟨i,hi,j,hj,rfl⟩
theorem pls_len{r c:Nat}:(plsL r c).length=r*c:=by
 induction r with
 | zero=>simp [plsL]
 | succ k ih=>rw [plsL_succ,List.length_append,ih];simp [Nat.succ_mul]
theorem run_size{r c:Nat}{g:Z1}{S:Sto}(h:1<=r):r_size_of [flr r c g] S=.ok (.tup [.int r,.int c]) S:=by
 have e:=flrL_get (c:=c) (g:=g) (i:=0) (r:=r) (by omega)
 simp [r_size_of,v_run,f_size_of,flr,e,rowD,show 0<r by omega]
theorem run_places{r c:Nat}{g:Z1}{S:Sto}(h:1<=r)(hr:r<=100)(hc:c<=100):r_places_of [flr r c g] S=.ok (.lst (plsL r c)) S:=by
 have inner:∀(k:Nat) (y:Option (Bool×D)),k<r->∃y',forD (.one 4) b_places_of_1 (rangeD 0 c) [some (false,flr r c g),some (false,.tup [.int r,.int c]),some (true,.lst (plsL k c)),some (false,.int k),y] S
   = .nx [some (false,flr r c g),some (false,.tup [.int r,.int c]),some (true,.lst (plsL (k+1) c)),some (false,.int k),y'] S:=by
  intro k y hk
  obtain ⟨ρ',e,y',rfl⟩:=forD_rel (tg:=.one 4) (body:=b_places_of_1) (ds:=rangeD 0 c) (S:=S) (fun j ρ=>∃y,ρ=[some (false,flr r c g),some (false,.tup [.int r,.int c]),some (true,.lst (plsL k c++(List.range j).map fun j=>plD k j)),some (false,.int k),y]) (by
   rintro j d ρ hd ⟨y,rfl⟩
   obtain ⟨rfl,hj⟩:=range_get hd
   have hl:k*c+j<=100000:=by
    have:k*c<=100*100:=Nat.mul_le_mul (by omega) (by omega)
    omega
   refine ⟨_,_,rfl,?_,some (false,.int j),rfl⟩
   simp [b_places_of_1,List.range_succ,pls_len,hl])
   (ρ:=[some (false,flr r c g),some (false,.tup [.int r,.int c]),some (true,.lst (plsL k c)),some (false,.int k),y]) ⟨y,by simp⟩
  refine ⟨y',?_⟩
  rw [e,plsL_succ];simp
 obtain ⟨ρ',e,x,y,rfl⟩:=forD_rel (tg:=.one 3) (body:=b_places_of_2) (ds:=rangeD 0 r) (S:=S) (fun k ρ=>∃x y,ρ=[some (false,flr r c g),some (false,.tup [.int r,.int c]),some (true,.lst (plsL k c)),x,y]) (by
  rintro k d ρ hd ⟨x,y,rfl⟩
  obtain ⟨rfl,hk⟩:=range_get hd
  obtain ⟨y',e⟩:=inner k y (by omega)
  refine ⟨_,_,rfl,?_,some (false,.int k),y',rfl⟩
  simp [b_places_of_2,e,show -1000000<=(c:Int)/\(c:Int)<=1000000 by omega])
  (ρ:=[some (false,flr r c g),some (false,.tup [.int r,.int c]),some (true,.lst []),none,none]) ⟨none,none,rfl⟩
 simp at e
 simp [r_places_of,v_run,f_places_of,run_size h,e,show -1000000<=(r:Int)/\(r:Int)<=1000000 by omega]
theorem run_number{r c i j:Nat}{g:Z1}{S:Sto}(hi:i<r)(hj:j<c):r_number_at [flr r c g,plD i j] S=.ok (oD (g i j)) S:=by
 simp [r_number_at,v_run,f_number_at,flr,plD,atI_nat',flrL_get hi,rowL_get hj,rowD]
theorem run_tuple_of{l:List D}{a b:Int}{S:Sto}:r_is_tuple_of [.tup l,.int a,.int b] S=.ok (.bl (decide (a<=l.length/\(l.length:Int)<=b))) S:=by
 by_cases h1:a<=(l.length:Int)
 ·by_cases h2:(l.length:Int)<=b<;>simp [r_is_tuple_of,v_run,f_is_tuple_of,instD,h1,h2]
 ·simp [r_is_tuple_of,v_run,f_is_tuple_of,instD,h1]
theorem run_row_like{l k:List D}{S:Sto}:r_is_row_like [.tup l,.tup k] S=.ok (.bl (decide (l.length=k.length))) S:=by
 simp [r_is_row_like,v_run,f_is_row_like,run_tuple_of]
 rw [<-Bool.decide_and,decide_eq_decide];omega
theorem bls_map{α:Type}{xs:List α}{p:α->Bool}:blsOf (xs.map fun x=>D.bl (p x))=some (xs.map p):=by
 induction xs with
 | nil=>rfl
 | cons x xs ih=>simp [blsOf,ih]
theorem all_map{α:Type}{xs:List α}{p:α->Bool}:allD [.lst (xs.map fun x=>D.bl (p x))]=some (.bl (xs.all p)):=by
 show Option.map _ (blsOf _)=_
 rw [bls_map]
 simp [List.all_map]
end S2
namespace S2
open PySem
open L2 hiding D
@[simp] theorem eq_oD{a b:Option Int}:eqD (oD a) (oD b)=some (.bl (decide (a=b))):=by
 cases a<;>cases b<;>simp [oD]
 ·rfl
 ·rfl
 ·rfl
@[simp] theorem non_oD{a:Option Int}:isNon (oD a)=decide (a=none):=by cases a<;>simp [oD]
theorem run_tuple_n{l:List D}{n:Nat}{S:Sto}:r_is_tuple_of [.tup l,.int n,.int n] S=.ok (.bl (decide (l.length=n))) S:=by
 rw [run_tuple_of]
 congr 3
 apply propext;omega
theorem run_like{r c r' c':Nat}{g h:Z1}{S:Sto}(h1:1<=r)(hr:r<=1000):r_is_like [flr r c g,flr r' c' h] S=.ok (.bl (decide (r'=r/\c'=c))) S:=by
 by_cases e:r'=r
 ·subst e
  have hz:zipD (flrL r' c g) (flrL r' c' h)=(List.range r').map fun i=>.tup [rowD c (g i),rowD c' (h i)]:=by
   apply List.ext_getElem?
   intro i
   by_cases hi:i<r'
   ·have:i<(zipD (flrL r' c g) (flrL r' c' h)).length:=by rw [zipD_len];simp;omega
    obtain ⟨x,y,e1,e2,e3⟩:=zipD_get (List.getElem?_eq_getElem this)
    rw [flrL_get hi] at e1 e2
    cases e1;cases e2
    rw [List.getElem?_eq_getElem this,e3]
    simp [hi]
   ·rw [List.getElem?_eq_none (by rw [zipD_len];simp;omega),List.getElem?_eq_none (by simp;omega)]
  have ec:compD (.tup [0,1]) fYes (eFn r_is_row_like [(eVar 0),(eVar 1)]) [none,none] (zipD (flrL r' c g) (flrL r' c' h)) S=.ok ((List.range r').map fun _=>.bl (decide (c=c'))) S:=by
   rw [hz,compD_all (g:=fun _=>.bl (decide (c=c')))]
   ·simp
   ·intro d hd
    simp only [List.mem_map,List.mem_range] at hd
    obtain ⟨i,hi,rfl⟩:=hd
    exact ⟨_,rfl,by simp [rowD,run_row_like]⟩
  have ea:allD [.lst ((List.range r').map fun _=>.bl (decide (c=c')))]=some (.bl (decide (c'=c))):=by
   rw [all_map (p:=fun _=>decide (c=c'))]
   by_cases hc:c=c'
   ·subst hc;simp
   ·have:((List.range r').all fun _=>false)=false:=by
     cases r' with
     | zero=>omega
     | succ n=>simp [List.range_succ]
    simp only [hc,show ¬ c'=c from fun z=>hc z.symm,decide_false,this]
  simp only [List.map_const',List.length_range] at ec ea
  simp [r_is_like,v_run,f_is_like,flr,run_tuple_n,ec,ea,show r'<=100000 by omega]
 ·simp [r_is_like,v_run,f_is_like,flr,run_tuple_n,e]
def laidP(g:Z1):D->Bool | .tup [.int i,.int j]=>(g i.toNat j.toNat).isSome | _=>false
theorem run_laid{r c:Nat}{g:Z1}{S:Sto}(h:1<=r)(hr:r<=100)(hc:c<=100):r_laid_places [flr r c g] S=.ok (.lst ((plsL r c).filter (laidP g))) S:=by
 have hl:((plsL r c).filter (laidP g)).length<=100000:=by
  refine Nat.le_trans (List.length_filter_le _ _) ?_
  rw [pls_len]
  have:r*c<=100*100:=Nat.mul_le_mul hr hc
  omega
 have e:compD (.one 0) (eBin notnD (eFn r_number_at [(eVar 1),(eVar 0)]) (eCon .non)) (eVar 0) [none,some (false,flr r c g)] (plsL r c) S=.ok ((plsL r c).filter (laidP g)) S:=by
  rw [compD_map (g:=id) (p:=laidP g)]
  ·simp
  ·intro d hd
   obtain ⟨i,j,hi,hj,rfl⟩:=pls_mem hd
   refine ⟨_,rfl,?_,fun _=>by simp⟩
   simp [run_number hi hj,laidP]
   cases g i j<;>rfl
 simp [r_laid_places,v_run,f_laid_places,run_places h hr hc,e,hl]
def fitsB(r c:Nat)(g h:Z1):Bool:=decide (∀i,i<r->∀j,j<c->h i j=none\/g i j=h i j)
theorem run_tiles_of{r c:Nat}{g h:Z1}{S:Sto}(h1:1<=r)(hr:r<=100)(hc:c<=100):r_has_tiles_of [flr r c g,flr r c h] S=.ok (.bl (fitsB r c g h)) S:=by
 have hl:((plsL r c).filter (laidP h)).length<=100000:=by
  refine Nat.le_trans (List.length_filter_le _ _) ?_
  rw [pls_len]
  have:r*c<=100*100:=Nat.mul_le_mul hr hc
  omega
 have e:compD (.one 0) fYes (eBin eqD (eFn r_number_at [(eVar 2),(eVar 0)]) (eFn r_number_at [(eVar 1),(eVar 0)])) [none,some (false,flr r c h),some (false,flr r c g)] ((plsL r c).filter (laidP h)) S=.ok (((plsL r c).filter (laidP h)).map fun d=>.bl ((fun d=>match d with | .tup [.int i,.int j]=>decide (g i.toNat j.toNat=h i.toNat j.toNat) | _=>true) d)) S:=by
  rw [compD_all]
  intro d hd
  obtain ⟨i,j,hi,hj,rfl⟩:=pls_mem ((List.mem_filter.mp hd).1)
  exact ⟨_,rfl,by simp [run_number hi hj]⟩
 have ea:(((plsL r c).filter (laidP h)).all fun d=>match d with | .tup [.int i,.int j]=>decide (g i.toNat j.toNat=h i.toNat j.toNat) | _=>true)=fitsB r c g h:=by
  rw [Bool.eq_iff_iff]
  unfold fitsB
  rw [List.all_eq_true,decide_eq_true_iff]
  constructor
  ·intro H i hi j hj
   cases hh:h i j with
   | none=>exact .inl rfl
   | some x =>
    have:=H (plD i j) (List.mem_filter.mpr ⟨pls_in hi hj,by simp [laidP,hh]⟩)
    simp [hh] at this
    exact .inr this
  ·intro H d hd
   obtain ⟨i,j,hi,hj,rfl⟩:=pls_mem ((List.mem_filter.mp hd).1)
   have hp:=(List.mem_filter.mp hd).2
   simp [laidP] at hp
   rcases H i hi j hj with z | z
   ·rw [z] at hp;cases hp
   ·simp [z]
 simp [r_has_tiles_of,v_run,f_has_tiles_of,run_laid h1 hr hc,e,hl,all_map,ea]
end S2
namespace S2
open PySem
open L2 hiding D
theorem forD_acc{tg:Tg}{body:Fs}{S:Sto}{α:Type}(mk:List D->α->Env)(g:D->List D)(N:Nat):∀{ds:List D},(∀d∈ds,∀(L:List D) (x:α),L.length+(g d).length<=N->∃ρ1 x',tg.put (mk L x) d=some ρ1/\body ρ1 S=.nx (mk (L++g d) x') S) →
  ∀(L0:List D) (x0:α),L0.length+(ds.flatMap g).length<=N->∃x',forD tg body ds (mk L0 x0) S=.nx (mk (L0++ds.flatMap g) x') S
 | [],_,L0,x0,_=>⟨x0,by simp [forD]⟩
 | d::ds,step,L0,x0,hN=>by
  rw [List.flatMap_cons,List.length_append] at hN
  obtain ⟨ρ1,x',e1,e2⟩:=step d List.mem_cons_self L0 x0 (by omega)
  obtain ⟨x2,e3⟩:=forD_acc mk g N (ds:=ds) (fun d hd=>step d (List.mem_cons_of_mem _ hd)) (L0++g d) x' (by rw [List.length_append];omega)
  refine ⟨x2,?_⟩
  unfold forD
  rw [e1]
  dsimp only
  rw [e2]
  dsimp only
  rw [e3,List.flatMap_cons,List.append_assoc]
theorem rangeD_len{lo hi:Int}:(rangeD lo hi).length=(hi-lo).toNat:=by unfold rangeD;simp
theorem flat_len{α:Type}{g:α->List D}{m:Nat}:∀{ds:List α},(∀d∈ds,(g d).length<=m)->(ds.flatMap g).length<=ds.length*m
 | [],_=>by simp
 | d::ds,h=>by
  have h1:=h d List.mem_cons_self
  have h2:=flat_len (ds:=ds) fun d hd=>h d (List.mem_cons_of_mem _ hd)
  rw [List.flatMap_cons,List.length_append,List.length_cons,Nat.succ_mul];omega
theorem pl_pl{i j:Nat}:(plD i j).pl=true:=rfl
theorem ne_self{d:D}(h:d.pl=true)(f:d.fit 9=true):neD d d=some (.bl false):=by
 unfold neD pyEq
 rw [f,(eqv_pl d d h h).mpr rfl];rfl
theorem eq_self{d:D}(h:d.pl=true)(f:d.fit 9=true):eqD d d=some (.bl true):=by
 unfold eqD pyEq
 rw [f,(eqv_pl d d h h).mpr rfl];rfl
theorem nin_mem{d:D}{l:List D}(h:d.pl=true)(hl:D.pls l=true)(f:d.fit 8=true)(fl:D.fits 8 l=true)(m:d∈l):ninD d (.lst l)=some (.bl false):=by
 unfold ninD
 simp only [seqOf,f,fl,Bool.and_self,if_true]
 rw [(mem_pl h hl).mpr m];rfl
end S2
namespace S2
open PySem
open L2 hiding D
structure TOk(ts:Z2):Prop where
 four:∀t∈ts,t.length=4
 le:ts.length<=100
def colT(ts:Z2)(n:Int)(s:Nat):Int:=(ts.getD n.toNat []).getD s 0
theorem tiles_get{ts:Z2}(ht:TOk ts){n:Int}(h0:0<=n)(h1:n<ts.length):atI (ts.map tileD) n=some (.tup ([colT ts n 0,colT ts n 1,colT ts n 2,colT ts n 3].map D.int)):=by
 rw [atI_cast h0,List.getElem?_map,List.getElem?_eq_getElem (by omega)]
 have h4:=ht.four _ (List.getElem_mem (show n.toNat<ts.length by omega))
 have e:ts.getD n.toNat []=ts[n.toNat]:=by rw [List.getD_eq_getElem?_getD,List.getElem?_eq_getElem (by omega)];rfl
 unfold colT
 rw [e]
 generalize ts[n.toNat]=t at *
 match t,h4 with
 | [a,b,c,d],_=>rfl
theorem run_whole_i{i:Int}{S:Sto}:r_is_whole [.int i] S=.ok (.bl true) S:=by simp [r_is_whole,v_run,f_is_whole,instD]
theorem run_whole_n{S:Sto}:r_is_whole [.non] S=.ok (.bl false) S:=by simp [r_is_whole,v_run,f_is_whole,instD]
theorem run_has_number{ts:List D}{o:Option Int}{S:Sto}(h:∀x,o=some x->0<=x/\x<ts.length):r_has_number [.tup ts,oD o] S=.ok (.bl o.isSome) S:=by
 cases o with
 | none=>simp [r_has_number,v_run,f_has_number,oD,run_whole_n]
 | some x=>obtain ⟨h0,h1⟩:=h x rfl;simp [r_has_number,v_run,f_has_number,oD,run_whole_i,h0,h1]
theorem run_has_place{r c:Nat}{g:Z1}{i j:Int}{S:Sto}(h1:1<=r):r_has_place [flr r c g,.tup [.int i,.int j]] S=.ok (.bl (decide ((0<=i/\i<r)/\0<=j/\j<c))) S:=by
 have ht:r_is_tuple_of [.tup [.int i,.int j],.int 2,.int 2] S=.ok (.bl true) S:=by rw [run_tuple_of];simp
 by_cases a:0<=i
 ·by_cases b:i<r
  ·by_cases d:0<=j
   ·by_cases e:j<c<;>simp [r_has_place,v_run,f_has_place,ht,run_whole_i,run_size h1,a,b,d,e]
   ·simp [r_has_place,v_run,f_has_place,ht,run_whole_i,run_size h1,a,b,d]
  ·simp [r_has_place,v_run,f_has_place,ht,run_whole_i,run_size h1,a,b]
 ·simp [r_has_place,v_run,f_has_place,ht,run_whole_i,run_size h1,a]
def InT(ts:Z2)(g:Z1):Prop:=∀i j x,g i j=some x->0<=x/\x<ts.length
def edgeO(ts:Z2)(r c:Nat)(g:Z1)(i j s:Nat):Option Int:=if i<r/\j<c then (g i j).map fun x=>colT ts x s else none
theorem run_edge{ts:Z2}{r c:Nat}{g:Z1}{i j s:Nat}{S:Sto}(ht:TOk ts)(hg:InT ts g)(h1:1<=r)(hs:s<4):r_edge_at [.tup (ts.map tileD),flr r c g,plD i j,.int s] S=.ok (oD (edgeO ts r c g i j s)) S:=by
 unfold edgeO
 by_cases h:i<r/\j<c
 ·have hp:r_has_place [flr r c g,plD i j] S=.ok (.bl true) S:=by rw [run_has_place h1];congr 3;simp;omega
  have hn:=run_number (g:=g) (S:=S) h.1 h.2
  have hh:=run_has_number (ts:=ts.map tileD) (o:=g i j) (S:=S) (fun x hx=>by simpa using hg i j x hx)
  rw [if_pos h]
  cases hx:g i j with
  | none =>
   rw [hx] at hn hh
   simp only [oD] at hn hh
   simp [r_edge_at,v_run,f_edge_at,hp,hn,hh,oD]
  | some x =>
   obtain ⟨x0,x1⟩:=hg i j x hx
   rw [hx] at hn hh
   have e:=tiles_get ht x0 x1
   have es:atI ([colT ts x 0,colT ts x 1,colT ts x 2,colT ts x 3].map D.int) (s:Int)=some (.int (colT ts x s)):=by
    rw [atI_nat']
    match s,hs with
    | 0,_=>rfl
    | 1,_=>rfl
    | 2,_=>rfl
    | 3,_=>rfl
   simp only [oD] at hn hh
   simp only [List.map_cons,List.map_nil] at e es
   simp [r_edge_at,v_run,f_edge_at,hp,hn,hh,oD,e,es]
 ·have hp:r_has_place [flr r c g,plD i j] S=.ok (.bl false) S:=by rw [run_has_place h1];congr 3;simp;omega
  rw [if_neg h]
  simp [r_edge_at,v_run,f_edge_at,hp,oD]
theorem run_east{ts:Z2}{r c:Nat}{g:Z1}{i j:Nat}{S:Sto}(ht:TOk ts)(hg:InT ts g)(h1:1<=r):r_colours_east [.tup (ts.map tileD),flr r c g,plD i j] S=.ok (.tup [oD (edgeO ts r c g i j 1),oD (edgeO ts r c g i (j+1) 3)]) S:=by
 have e1:r_edge_at [.tup (ts.map tileD),flr r c g,.tup [.int i,.int j],.int 1] S=_:=run_edge (i:=i) (j:=j) (s:=1) (S:=S) (c:=c) ht hg h1 (by omega)
 have e2:r_edge_at [.tup (ts.map tileD),flr r c g,.tup [.int i,.int ((j:Int)+1)],.int 3] S=_:=run_edge (i:=i) (j:=j+1) (s:=3) (S:=S) (c:=c) ht hg h1 (by omega)
 simp [r_colours_east,v_run,f_colours_east,plD,e1,e2]
theorem run_south{ts:Z2}{r c:Nat}{g:Z1}{i j:Nat}{S:Sto}(ht:TOk ts)(hg:InT ts g)(h1:1<=r):r_colours_south [.tup (ts.map tileD),flr r c g,plD i j] S=.ok (.tup [oD (edgeO ts r c g i j 2),oD (edgeO ts r c g (i+1) j 0)]) S:=by
 have e1:r_edge_at [.tup (ts.map tileD),flr r c g,.tup [.int i,.int j],.int 2] S=_:=run_edge (i:=i) (j:=j) (s:=2) (S:=S) (c:=c) ht hg h1 (by omega)
 have e2:r_edge_at [.tup (ts.map tileD),flr r c g,.tup [.int ((i:Int)+1),.int j],.int 0] S=_:=run_edge (i:=i+1) (j:=j) (s:=0) (S:=S) (c:=c) ht hg h1 (by omega)
 simp [r_colours_south,v_run,f_colours_south,plD,e1,e2]
def cl2:Option Int->Option Int->Bool | some a,some b=>!decide (a=b) | _,_=>false
theorem run_do_clash{a b:Option Int}{S:Sto}:r_do_clash [.tup [oD a,oD b]] S=.ok (.bl (cl2 a b)) S:=by
 cases a<;>cases b
 all_goals simp [r_do_clash,v_run,f_do_clash,oD,cl2,ninD,seqOf,memD,pyEq,D.py,PyData.eqv]
def clD(d:D)(s:Str):D:=.tup [d,.str s]
def clG(ts:Z2)(r c:Nat)(g:Z1):D->List D
 | .tup [.int i,.int j]=>(if cl2 (edgeO ts r c g i.toNat j.toNat 1) (edgeO ts r c g i.toNat (j.toNat+1) 3) then [clD (.tup [.int i,.int j]) "east"] else [])++(if cl2 (edgeO ts r c g i.toNat j.toNat 2) (edgeO ts r c g (i.toNat+1) j.toNat 0) then [clD (.tup [.int i,.int j]) "south"] else [])
 | _=>[]
def clL(ts:Z2)(r c:Nat)(g:Z1):List D:=(plsL r c).flatMap (clG ts r c g)
theorem clG_len{ts:Z2}{r c:Nat}{g:Z1}{d:D}:(clG ts r c g d).length<=2:=by
 unfold clG
 split
 ·rw [List.length_append];split<;>split<;>simp
 ·simp
theorem clL_len{ts:Z2}{r c:Nat}{g:Z1}(hr:r<=100)(hc:c<=100):(clL ts r c g).length<=20000:=by
 refine Nat.le_trans (flat_len fun d _=>clG_len) ?_
 rw [pls_len]
 have:r*c<=100*100:=Nat.mul_le_mul hr hc
 omega
theorem run_clashes{ts:Z2}{r c:Nat}{g:Z1}{S:Sto}(ht:TOk ts)(hg:InT ts g)(h1:1<=r)(hr:r<=100)(hc:c<=100):r_clashes [.tup (ts.map tileD),flr r c g] S=.ok (.lst (clL ts r c g)) S:=by
 obtain ⟨x',e⟩:=forD_acc (tg:=.one 3) (body:=b_clashes_1) (S:=S) (fun L (x:Option (Bool×D))=>[some (false,.tup (ts.map tileD)),some (false,flr r c g),some (true,.lst L),x]) (clG ts r c g) 50000 (ds:=plsL r c) (by
  intro d hd L x hL
  obtain ⟨i,j,hi,hj,rfl⟩:=pls_mem hd
  refine ⟨_,some (false,plD i j),rfl,?_⟩
  have e1:=run_east (i:=i) (j:=j) (S:=S) (c:=c) ht hg h1
  have e2:=run_south (i:=i) (j:=j) (S:=S) (c:=c) ht hg h1
  have hl:L.length<=100000:=by omega
  have hl1:L.length+1<=100000:=by omega
  simp only [plD] at e1 e2
  cases a1:cl2 (edgeO ts r c g i j 1) (edgeO ts r c g i (j+1) 3)<;>cases a2:cl2 (edgeO ts r c g i j 2) (edgeO ts r c g (i+1) j 0)<;>simp [b_clashes_1,plD,e1,e2,run_do_clash,a1,a2,clG,clD,hl,hl1]) [] none (by have:=clL_len (ts:=ts) (g:=g) hr hc;unfold clL at this;simp only [List.length_nil];omega)
 simp at e
 simp [r_clashes,v_run,f_clashes,run_places h1 hr hc,e,clL]
def fullB(r c:Nat)(g:Z1):Bool:=decide (∀i,i<r->∀j,j<c->(g i j).isSome=true)
theorem run_right{ts:Z2}{r c:Nat}{g:Z1}{S:Sto}(ht:TOk ts)(hg:InT ts g)(h1:1<=r)(hr:r<=100)(hc:c<=100):r_is_right [.tup (ts.map tileD),flr r c g] S=.ok (.bl (fullB r c g&&decide (clL ts r c g=[]))) S:=by
 have e:compD (.one 0) fYes (eFn r_has_number [(eVar 2),(eFn r_number_at [(eVar 1),(eVar 0)])]) [none,some (false,flr r c g),some (false,.tup (ts.map tileD))] (plsL r c) S=.ok ((plsL r c).map fun d=>.bl (laidP g d)) S:=by
  rw [compD_all]
  intro d hd
  obtain ⟨i,j,hi,hj,rfl⟩:=pls_mem hd
  exact ⟨_,rfl,by simp [run_number hi hj,run_has_number (ts:=ts.map tileD) (o:=g i j) (fun x hx=>by simpa using hg i j x hx),laidP]⟩
 have ea:(plsL r c).all (laidP g)=fullB r c g:=by
  rw [Bool.eq_iff_iff]
  unfold fullB
  rw [List.all_eq_true,decide_eq_true_iff]
  constructor
  ·intro H i hi j hj;simpa [laidP] using H (plD i j) (pls_in hi hj)
  ·intro H d hd
   obtain ⟨i,j,hi,hj,rfl⟩:=pls_mem hd
   simpa [laidP] using H i hi j hj
 have hl:(plsL r c).length<=100000:=by
  rw [pls_len]
  have:r*c<=100*100:=Nat.mul_le_mul hr hc
  omega
 have hz:decide ((clL ts r c g).length=0)=decide (clL ts r c g=[]):=by rw [decide_eq_decide];exact List.length_eq_zero_iff
 cases hf:fullB r c g
 ·simp [r_is_right,v_run,f_is_right,run_places h1 hr hc,e,hl,all_map,ea,hf]
 ·simp [r_is_right,v_run,f_is_right,run_places h1 hr hc,e,hl,all_map,ea,hf,run_clashes ht hg h1 hr hc]
end S2
namespace S2
open PySem
open L2 hiding D
end S2
namespace S2
open PySem
open L2 hiding D
def fitT(ts:Z2)(c:Nat)(t:List Int)(n:Int):Bool:=decide ((0<t.length % c->colT ts (t.getLastD 0) 1=colT ts n 3)/\(c<=t.length->colT ts (t.getD (t.length-c) 0) 2=colT ts n 0))
def InR(ts:Z2)(t:List Int):Prop:=∀x∈t,0<=x/\x<ts.length
end S2
namespace S2
open PySem
open L2 hiding D
theorem getD_app{t:List Int}{n:Int}{m:Nat}:(t++[n]).getD m 0=if m<t.length then t.getD m 0 else if m=t.length then n else 0:=by
 simp only [List.getD_eq_getElem?_getD]
 by_cases h:m<t.length
 ·rw [List.getElem?_append_left h,if_pos h]
 ·rw [List.getElem?_append_right (by omega),if_neg h]
  by_cases e:m=t.length
  ·subst e;simp
  ·rw [if_neg e,List.getElem?_eq_none (by simp;omega)];rfl
def unI:D->Int | .int i=>i | _=>0
section
variable{ts:Z2}{c:Nat}{S:Sto}{s1 s3 s4:Option (Bool×D)}
end
end S2
namespace S2
open PySem
open L2 hiding D
def tupL:D->List D | .tup l=>l | _=>[]
end S2
namespace S2
open PySem
open L2 hiding D
end S2
namespace S2
open PySem
open L2 hiding D
def kTry(und:Str->Str->Bool)(C:Str)(i j:Nat):Fo->Fo
 | .ex c ρ' S'=>if und c C&&decide (i<ρ'.length) then .nx ((ρ'.set j (some (false,.exc c))).set i none) S' else .bad
 | o=>o
section
variable{ρ:Env}{S:Sto}{f g:Fe}{a:Fs}
@[simp] theorem k_try1{und:Str->Str->Bool}{C:Str}{i j:Nat}:kTry und C i j (.nx ρ S)=.nx ρ S:=(rfl)
@[simp] theorem k_try2{und:Str->Str->Bool}{C c:Str}{i j:Nat}:kTry und C i j (.ex c ρ S)=if und c C&&decide (i<ρ.length) then .nx ((ρ.set j (some (false,.exc c))).set i none) S else .bad:=(rfl)
@[simp] theorem v_isx{w:Str->Str->Option Bool}{C c:Str}:isxD w C (.exc c)=(w c C).map .bl:=(rfl)
@[simp] theorem v_nonE{c:Str}:isNon (.exc c)=false:=(rfl)
@[simp] theorem v_nonL{l:List D}:isNon (.lst l)=false:=(rfl)
@[simp] theorem v_mulL{l:List D}{j:Int}:mulLD (.lst l) (.int j)=if decide (0<=j/\j<=1000/\l.length<=1000) then some (.lst (List.replicate j.toNat l).flatten) else none:=(rfl)
end
abbrev Gf:=Nat->Nat->Option Int
def ov(g h:Gf):Gf:=fun i j=>(h i j).or (g i j)
def un(g h:Gf):Gf:=fun i j=>if (h i j).isSome then none else g i j
end S2
namespace S2
open PySem
open L2 hiding D
theorem flr_congr{r c:Nat}{g h:Z1}(e:∀i j,i<r->j<c->g i j=h i j):flr r c g=flr r c h:=by
 unfold flr flrL rowD rowL
 congr 1
 apply List.map_congr_left
 intro i hi
 congr 1
 apply List.map_congr_left
 intro j hj
 rw [e i j (List.mem_range.mp hi) (List.mem_range.mp hj)]
end S2
namespace S2
open PySem
open L2 hiding D
end S2
namespace S2
open PySem
open L2 hiding D
def kFld(c f:Str):Out D->Out D | .ok d S=>(match fldD c f d S with | some r=>.ok r S | none=>.bad) | .exc c S=>.exc c S | .bad=>.bad
def kMeth2(G:List D->Sto->Out D)(d:D):Out (List D)->Out D | .ok ds S=>G (d::ds) S | .exc c S=>.exc c S | .bad=>.bad
def kMeth(c m:Str)(G:List D->Sto->Out D)(fs:List Fe)(ρ:Env):Out D->Out D | .ok d S=>if methOk c m d S then kMeth2 G d (evalL fs ρ S) else .bad | .exc c S=>.exc c S | .bad=>.bad
def kMk2(n:Nat):Out D->Out D | .ok r S=>(match r with | .non=>.ok (.ref n) S | _=>.bad) | .exc c S=>.exc c S | .bad=>.bad
def kMk(c:Str)(dds:List D)(G:List D->Sto->Out D):Out (List D)->Out D | .ok ds S=>kMk2 S.length (G (.ref S.length::(ds++dds)) (S++[⟨c,[]⟩])) | .exc c S=>.exc c S | .bad=>.bad
def kNin2(c f:Str)(dk:D):Out D->Out D | .ok d S=>(match nkOf dk,dicD c f d S with | some k,some (_,_,ds)=>.ok (.bl (dlook k ds).isNone) S | _,_=>.bad) | .exc c S=>.exc c S | .bad=>.bad
def kNin(c f:Str)(fo:Fe)(ρ:Env):Out D->Out D | .ok d S=>kNin2 c f d (fo ρ S) | .exc c S=>.exc c S | .bad=>.bad
def kGet(c f:Str)(o:Option NK):Out D->Out D | .ok d S=>(match o,dicD c f d S with | some k,some (_,_,ds)=>(match dlook k ds with | some r=>.ok r S | none=>.bad) | _,_=>.bad) | .exc c S=>.exc c S | .bad=>.bad
section
variable{ρ:Env}{S:Sto}{f g h k:Fe}
@[simp] theorem v_eFld{c x:Str}:eFld c x f ρ S=kFld c x (f ρ S):=by unfold eFld;cases f ρ S<;>rfl
@[simp] theorem k_fld{c x:Str}{d:D}:kFld c x (.ok d S)=(match fldD c x d S with | some r=>.ok r S | none=>.bad):=(rfl)
@[simp] theorem v_eMeth{c m:Str}{G:List D->Sto->Out D}{fs:List Fe}:eMeth c m G f fs ρ S=kMeth c m G fs ρ (f ρ S):=by
 unfold eMeth
 cases f ρ S with
 | ok d S1 =>
  show (if methOk c m d S1 then (evalL fs ρ S1).bind fun ds S2=>G (d::ds) S2 else .bad)=(if methOk c m d S1 then kMeth2 G d (evalL fs ρ S1) else .bad)
  cases evalL fs ρ S1<;>rfl
 | exc c S=>rfl
 | bad=>rfl
@[simp] theorem k_meth{c m:Str}{G:List D->Sto->Out D}{fs:List Fe}{d:D}:kMeth c m G fs ρ (.ok d S)=if methOk c m d S then kMeth2 G d (evalL fs ρ S) else .bad:=(rfl)
@[simp] theorem k_meth2{G:List D->Sto->Out D}{d:D}{ds:List D}:kMeth2 G d (.ok ds S)=G (d::ds) S:=(rfl)
@[simp] theorem v_eMk{c:Str}{dds:List D}{G:List D->Sto->Out D}{fs:List Fe}:eMk c dds G fs ρ S=kMk c dds G (evalL fs ρ S):=by
 unfold eMk
 cases evalL fs ρ S with
 | ok ds S1 =>
  show ((G (.ref S1.length::(ds++dds)) (S1++[⟨c,[]⟩])).bind fun r S2=>match r with | .non=>.ok (.ref S1.length) S2 | _=>.bad)=kMk2 S1.length (G (.ref S1.length::(ds++dds)) (S1++[⟨c,[]⟩]))
  cases G (.ref S1.length::(ds++dds)) (S1++[⟨c,[]⟩])<;>rfl
 | exc c S=>rfl
 | bad=>rfl
@[simp] theorem k_mk{c:Str}{dds:List D}{G:List D->Sto->Out D}{ds:List D}:kMk c dds G (.ok ds S)=kMk2 S.length (G (.ref S.length::(ds++dds)) (S++[⟨c,[]⟩])):=(rfl)
@[simp] theorem k_mk2{n:Nat}:kMk2 n (.ok .non S)=.ok (.ref n) S:=(rfl)
@[simp] theorem v_eNin{c x:Str}:eNin c x f g ρ S=kNin c x g ρ (f ρ S):=by
 unfold eNin
 cases f ρ S with
 | ok d S1 =>
  show ((g ρ S1).bind fun d' S2=>match nkOf d,dicD c x d' S2 with | some k,some (_,_,ds)=>.ok (.bl (dlook k ds).isNone) S2 | _,_=>.bad)=kNin2 c x d (g ρ S1)
  cases g ρ S1<;>rfl
 | exc c S=>rfl
 | bad=>rfl
@[simp] theorem k_nin{c x:Str}{d:D}:kNin c x g ρ (.ok d S)=kNin2 c x d (g ρ S):=(rfl)
@[simp] theorem k_nin2{c x:Str}{dk d:D}:kNin2 c x dk (.ok d S)=(match nkOf dk,dicD c x d S with | some k,some (_,_,ds)=>.ok (.bl (dlook k ds).isNone) S | _,_=>.bad):=(rfl)
@[simp] theorem v_eGet{c x:Str}{i:Nat}:eGetK c x f i ρ S=kGet c x (keyI ρ i) (f ρ S):=by unfold eGetK;cases f ρ S<;>rfl
@[simp] theorem k_get{c x:Str}{d:D}{o:Option NK}:kGet c x o (.ok d S)=(match o,dicD c x d S with | some k,some (_,_,ds)=>(match dlook k ds with | some r=>.ok r S | none=>.bad) | _,_=>.bad):=(rfl)
end
def wOb(T Gd Sz:D)(b:Bool)(ds:List (D×D)):Ob:=⟨"Ways",[("tiles",false,T),("ground",false,Gd),("size",false,Sz),("is_round",false,.bl b),("known",true,.dic ds)]⟩
theorem oDn_oD(o:Option Int):oDn o=oD o:=by cases o<;>rfl
structure WAt(S:Sto)(n:Nat)(ts:Z2)(gr:Z4)(r c:Nat)(b:Bool)(ds:List (D×D)):Prop where
 at_:S[n]?=some (wOb (.tup (ts.map tileD)) (.lst (gr.map oD)) (.tup [.int r,.int c]) b ds)
section
variable{S:Sto}{n:Nat}{ts:Z2}{gr:Z4}{r c:Nat}{b:Bool}{ds:List (D×D)}
theorem WAt.tiles(h:WAt S n ts gr r c b ds):fldD "Ways" "tiles" (.ref n) S=some (.tup (ts.map tileD)):=by
 unfold fldD;dsimp only;rw [h.at_];rfl
theorem WAt.ground(h:WAt S n ts gr r c b ds):fldD "Ways" "ground" (.ref n) S=some (.lst (gr.map oD)):=by
 unfold fldD;dsimp only;rw [h.at_];rfl
theorem WAt.size(h:WAt S n ts gr r c b ds):fldD "Ways" "size" (.ref n) S=some (.tup [.int r,.int c]):=by
 unfold fldD;dsimp only;rw [h.at_];rfl
theorem WAt.round(h:WAt S n ts gr r c b ds):fldD "Ways" "is_round" (.ref n) S=some (.bl b):=by
 unfold fldD;dsimp only;rw [h.at_];rfl
theorem WAt.known(h:WAt S n ts gr r c b ds):dicD "Ways" "known" (.ref n) S=some (n,wOb (.tup (ts.map tileD)) (.lst (gr.map oD)) (.tup [.int r,.int c]) b ds,ds):=by
 unfold dicD;dsimp only;rw [h.at_];rfl
theorem WAt.meth(h:WAt S n ts gr r c b ds)(m:Str)(hm:(m == "tiles")=false/\(m == "ground")=false/\(m == "size")=false/\(m == "is_round")=false/\(m == "known")=false):methOk "Ways" m (.ref n) S=true:=by
 unfold methOk
 dsimp only
 rw [h.at_]
 obtain ⟨h1,h2,h3,h4,h5⟩:=hm
 simp [wOb,List.lookup_cons,h1,h2,h3,h4,h5]
theorem WAt.len(h:WAt S n ts gr r c b ds):n<S.length:=(List.getElem?_eq_some_iff.mp h.at_).1
theorem WAt.put(h:WAt S n ts gr r c b ds)(ds':List (D×D)):WAt (S.set n (wOb (.tup (ts.map tileD)) (.lst (gr.map oD)) (.tup [.int r,.int c]) b ds')) n ts gr r c b ds':=⟨by rw [List.getElem?_set_self h.len]⟩
def seamD(s:Z4):D:=.tup (s.map oD)
theorem seam_key{k:Int}{s:Z4}:nkOf (.tup [.int k,seamD s])=some (k,s):=by
 have:seamD s=.tup (s.map oDn):=by unfold seamD;rw [show oDn=oD from funext oDn_oD]
 rw [this]
 exact nkOf_nkD (k,s)
theorem flat_rep{α:Type}{a:α}:∀m:Nat,(List.replicate m [a]).flatten=List.replicate m a
 | 0=>rfl
 | m+1=>by rw [List.replicate_succ,List.flatten_cons,flat_rep m,List.replicate_succ];rfl
theorem run_first_seam(h:WAt S n ts gr r c b ds)(hc:c<=100):r_Ways_first_seam [.ref n] S=.ok (seamD (List.replicate (c+2) none)) S:=by
 have e:mulD (.tup [.non]) (.int ((c:Int)+2))=some (seamD (List.replicate (c+2) none)):=by
  show (if _ then _ else _)=_
  rw [if_pos (by simp;omega),show ((c:Int)+2).toNat=c+2 by omega,flat_rep]
  simp [seamD,oD]
 simp [r_Ways_first_seam,v_run,f_Ways_first_seam,h.size,e]
theorem run_ends_row{k:Nat}(h:WAt S n ts gr r c b ds)(hc:1<=c):r_Ways_ends_row [.ref n,.int k] S=.ok (.bl (decide ((k+1) % c=0))) S:=by
 have e:(((k:Int)+1) % (c:Int))=(((k+1) % c:Nat):Int):=by rw [Int.natCast_emod];rfl
 have e3:(((k:Int)+1) % (c:Int)=0)=((k+1) % c=0):=propext (by rw [e];omega)
 simp [r_Ways_ends_row,v_run,f_Ways_ends_row,h.size,show 0<c from hc,e3]
def crO(ts:Z2)(c k:Nat)(s:Z4)(x:Int):Option Int:=if k % c=0 then some (colT ts x 3) else (s.getLastD none)
def behO(ts:Z2)(L c:Nat)(b:Bool)(k:Nat)(s:Z4)(x:Int):List (Option Int) :=
 (if (k+1) % c=0 then none else some (colT ts x 1))::((s.drop 2).dropLast++[if L<=k+c then none else some (colT ts x 2),if b&&!decide ((k+1) % c=0) then crO ts c k s x else none])
def tl(ts:Z2)(x:Int):D:=.tup [.int (colT ts x 0),.int (colT ts x 1),.int (colT ts x 2),.int (colT ts x 3)]
def okO:Option Int->Int->Bool | none,_=>true | some a,y=>decide (a=y)
def fitO(ts:Z2)(c:Nat)(b:Bool)(k:Nat)(s:Z4)(x:Int):Bool :=
 okO (s.getD 0 none) (colT ts x 3)&&okO (s.getD 1 none) (colT ts x 0)&&(!b||!decide ((k+1) % c=0)||decide (some (colT ts x 1)=crO ts c k s x))
theorem run_suits{o:Option Int}{y:Int}:r_suits [oD o,.int y] S=.ok (.bl (okO o y)) S:=by
 cases o<;>simp [r_suits,v_run,f_suits,oD,okO]
theorem last_seam{s:Z4}(h:s≠[]):atI (s.map oD) (-1)=some (oD (s.getLastD none)):=by
 have hl:0<s.length:=List.length_pos_iff.mpr h
 unfold atI ixN
 rw [List.length_map,if_neg (by omega),if_pos (by omega)]
 show (s.map oD)[(-1+(s.length:Int)).toNat]?=_
 rw [show (-1+(s.length:Int)).toNat=s.length-1 by omega,List.getElem?_map,List.getLastD_eq_getLast?,List.getLast?_eq_getElem?,List.getElem?_eq_getElem (by omega)]
 rfl
theorem run_colour_round{k:Nat}{s:Z4}{x:Int}(h:WAt S n ts gr r c b ds)(hc:1<=c)(hs:s.length=c+2):r_Ways_colour_round [.ref n,.int k,seamD s,tl ts x] S=.ok (oD (crO ts c k s x)) S:=by
 have e:((k:Int) % (c:Int))=((k % c:Nat):Int):=by rw [Int.natCast_emod]
 have e3:((k:Int) % (c:Int)=0)=(k % c=0):=propext (by rw [e];omega)
 have el:=last_seam (s:=s) (by rintro rfl;simp at hs)
 by_cases z:k % c=0
 ·simp [r_Ways_colour_round,v_run,f_Ways_colour_round,h.size,show 0<c from hc,e3,z,crO,tl,oD]
 ·simp [r_Ways_colour_round,v_run,f_Ways_colour_round,h.size,show 0<c from hc,e3,z,crO,seamD,el]
theorem cut_mid{α:Type}{l:List α}(h:3<=l.length):cutD l (some 2) (some (-1))=(l.drop 2).dropLast:=by
 unfold cutD
 have e1:HT.sIx l.length 0 (some 2)=2:=by
  unfold HT.sIx
  simp
  omega
 have e2:HT.sIx l.length l.length (some (-1))=l.length-1:=by
  unfold HT.sIx
  simp
  omega
 rw [e1,e2,List.dropLast_eq_take,List.length_drop]
 congr 1
theorem run_seam_behind{k:Nat}{s:Z4}{x:Int}(h:WAt S n ts gr r c b ds)(hc:1<=c)(hc2:c<=100)(hs:s.length=c+2):r_Ways_seam_behind [.ref n,.int k,seamD s,tl ts x] S=.ok (seamD (behO ts gr.length c b k s x)) S:=by
 have e1:=run_ends_row (k:=k) h hc
 have e2:=run_colour_round (k:=k) (s:=s) (x:=x) h hc hs
 have m1:=h.meth "ends_row" (by decide +kernel)
 have m2:=h.meth "colour_round" (by decide +kernel)
 have eg:((gr.length:Int)<=(k:Int)+(c:Int))=(gr.length<=k+c):=propext (by omega)
 have ec:cutD (s.map oD) (some 2) (some (-1))=((s.drop 2).dropLast).map oD:=by
  rw [cut_mid (by rw [List.length_map];omega),List.map_dropLast,List.map_drop]
 have hl:((s.drop 2).dropLast).length<=100:=by rw [List.length_dropLast,List.length_drop,hs];omega
 unfold behO
 unfold seamD at e2 ⊢
 have tlE:tl ts x=.tup [.int (colT ts x 0),.int (colT ts x 1),.int (colT ts x 2),.int (colT ts x 3)]:=rfl
 generalize (s.drop 2).dropLast=M at ec hl
 generalize s.map oD=sd at e2 ec
 generalize crO ts c k s x=cr at e2
 rw [tlE] at e2 ⊢
 have l1:1+M.length<=100000:=by omega
 have l2:M.length+1+2<=100000:=by omega
 have l3:M.length+1+1+1<=100000:=by omega
 by_cases z1:(k+1) % c=0<;>by_cases z2:gr.length<=k+c<;>cases b <;>
  simp [r_Ways_seam_behind,v_run,f_Ways_seam_behind,h.size,h.ground,h.round,m1,m2,e1,e2,eg,z1,z2,ec,l1,l2,l3,oD]
end
end S2
namespace S2
open PySem
open L2 hiding D
def numO(ts:Z2):Option Int->List Int | none=>(List.range ts.length).map fun (i:Nat)=>(i:Int) | some x=>[x]
theorem numO_in{ts:Z2}{o:Option Int}(ho:∀x,o=some x->0<=x/\x<ts.length):∀x∈numO ts o,0<=x/\x<ts.length:=by
 intro x hx
 cases o with
 | none =>
  obtain ⟨i,hi,rfl⟩:=List.mem_map.mp hx
  have:=List.mem_range.mp hi
  omega
 | some y=>rw [List.mem_singleton.mp hx];exact ho y rfl
section
variable{S:Sto}{n:Nat}{ts:Z2}{gr:Z4}{r c:Nat}{b:Bool}{ds:List (D×D)}
theorem run_numbers_for{k:Nat}{o:Option Int}(h:WAt S n ts gr r c b ds)(ht:ts.length<=100)(hk:gr[k]?=some o)(ho:∀x,o=some x->0<=x/\x<ts.length):r_Ways_numbers_for [.ref n,.int k] S=.ok (.lst ((numO ts o).map D.int)) S:=by
 have e1:atI (gr.map oD) (k:Int)=some (oD o):=by rw [atI_nat',List.getElem?_map,hk];rfl
 have e2:=run_has_number (ts:=ts.map tileD) (o:=o) (S:=S) (fun x hx=>by simpa using ho x hx)
 cases o with
 | none =>
  have e3:lrD (.int (ts.length:Int))=some (.lst (((List.range ts.length).map fun (i:Nat)=>(i:Int)).map D.int)):=by
   show (if decide (0<=(ts.length:Int)/\(ts.length:Int)<=1000)=true then _ else none)=_
   rw [if_pos (decide_eq_true ⟨by omega,by omega⟩),Int.toNat_natCast,List.map_map]
   rfl
  simp [r_Ways_numbers_for,v_run,f_Ways_numbers_for,h.ground,h.tiles,e1,oD,e3,numO]
 | some x =>
  simp only [oD] at e2
  simp [r_Ways_numbers_for,v_run,f_Ways_numbers_for,h.ground,h.tiles,e1,oD,e2,numO]
theorem run_fits{k:Nat}{s:Z4}{x:Int}(h:WAt S n ts gr r c b ds)(hc:1<=c)(hs:s.length=c+2):r_Ways_fits [.ref n,.int k,seamD s,tl ts x] S=.ok (.bl (fitO ts c b k s x)) S:=by
 have e1:=run_ends_row (k:=k) h hc
 have e2:=run_colour_round (k:=k) (s:=s) (x:=x) h hc hs
 have m1:=h.meth "ends_row" (by decide +kernel)
 have m2:=h.meth "colour_round" (by decide +kernel)
 have m3:=h.meth "fits_round" (by decide +kernel)
 have tlE:tl ts x=.tup [.int (colT ts x 0),.int (colT ts x 1),.int (colT ts x 2),.int (colT ts x 3)]:=rfl
 have e3:r_Ways_fits_round [.ref n,.int k,seamD s,tl ts x] S=.ok (.bl (!b||!decide ((k+1) % c=0)||decide (some (colT ts x 1)=crO ts c k s x))) S:=by
  have eq:∀o:Option Int,eqD (.int (colT ts x 1)) (oD o)=some (.bl (decide (some (colT ts x 1)=o))):=by
   intro o
   cases o with
   | none=>rfl
   | some y=>simp [oD]
  rw [tlE] at e2 ⊢
  generalize seamD s=sd at e2 ⊢
  generalize crO ts c k s x=cr at e2 ⊢
  cases b with
  | false=>simp [r_Ways_fits_round,v_run,f_Ways_fits_round,h.round]
  | true=>by_cases z:(k+1) % c=0<;>simp [r_Ways_fits_round,v_run,f_Ways_fits_round,h.round,m1,m2,e1,e2,z,eq]
 have g0:(s.map oD)[0]?=some (oD (s.getD 0 none)):=by
  rw [List.getElem?_map,List.getD_eq_getElem?_getD,List.getElem?_eq_getElem (by omega)];rfl
 have g1:(s.map oD)[1]?=some (oD (s.getD 1 none)):=by
  rw [List.getElem?_map,List.getD_eq_getElem?_getD,List.getElem?_eq_getElem (by omega)];rfl
 have s0:=run_suits (S:=S) (o:=s.getD 0 none) (y:=colT ts x 3)
 have s1:=run_suits (S:=S) (o:=s.getD 1 none) (y:=colT ts x 0)
 unfold fitO
 generalize (!b||!decide ((k+1) % c=0)||decide (some (colT ts x 1)=crO ts c k s x))=rr at e3 ⊢
 unfold seamD at e3 ⊢
 generalize s.map oD=sd at e3 g0 g1 ⊢
 generalize s.getD 0 none=q0 at g0 s0 ⊢
 generalize s.getD 1 none=q1 at g1 s1 ⊢
 rw [tlE] at e3 ⊢
 cases h0:okO q0 (colT ts x 3)<;>cases h1:okO q1 (colT ts x 0)<;>rw [h0] at s0<;>rw [h1] at s1 <;>
  simp [r_Ways_fits,v_run,f_Ways_fits,g0,g1,s0,s1,m3,e3]
def chD(p:Int×List (Option Int)):D:=.tup [.int p.1,seamD p.2]
def chs(ts:Z2)(gr:Z4)(c:Nat)(b:Bool)(k:Nat)(s:Z4):List (Int×List (Option Int)) :=
 ((numO ts (gr.getD k none)).filter (fitO ts c b k s)).map fun x=>(x,behO ts gr.length c b k s x)
def chG(ts:Z2)(L c:Nat)(b:Bool)(k:Nat)(s:Z4):D->List D
 | .int x=>if fitO ts c b k s x then [chD (x,behO ts L c b k s x)] else []
 | _=>[]
theorem chG_flat{L:Nat}{k:Nat}{s:Z4}:∀l:List Int,(l.map D.int).flatMap (chG ts L c b k s)=((l.filter (fitO ts c b k s)).map fun x=>(x,behO ts L c b k s x)).map chD
 | []=>rfl
 | x::l=>by
  rw [List.map_cons,List.flatMap_cons,chG_flat l,List.filter_cons]
  show (if fitO ts c b k s x then [chD (x,behO ts L c b k s x)] else [])++_=_
  cases fitO ts c b k s x<;>simp
theorem run_choices{k:Nat}{s:Z4}(h:WAt S n ts gr r c b ds)(ht:TOk ts)(hk:k<gr.length)(hg:∀o∈gr,∀x,o=some x->0<=x/\x<ts.length)(hc:1<=c)(hc2:c<=100)(hs:s.length=c+2) :
  r_Ways_choices [.ref n,.int k,seamD s] S=.ok (.lst ((chs ts gr c b k s).map chD)) S:=by
 have hk':gr[k]?=some (gr.getD k none):=by rw [List.getD_eq_getElem?_getD,List.getElem?_eq_getElem hk];rfl
 have ho:=hg _ (List.mem_of_getElem? hk')
 have e1:=run_numbers_for h ht.le hk' ho
 have m1:=h.meth "numbers_for" (by decide +kernel)
 have m2:=h.meth "fits" (by decide +kernel)
 have m3:=h.meth "seam_behind" (by decide +kernel)
 have hin:=numO_in ho
 have hlen:(numO ts (gr.getD k none)).length<=100:=by
  cases gr.getD k none with
  | none=>simp only [numO,List.length_map,List.length_range];exact ht.le
  | some x=>simp [numO]
 unfold chs
 generalize numO ts (gr.getD k none)=nums at e1 hin hlen ⊢
 have fl:((nums.map D.int).flatMap (chG ts gr.length c b k s)).length<=100:=by
  rw [chG_flat,List.length_map,List.length_map]
  exact Nat.le_trans (List.length_filter_le _ _) hlen
 obtain ⟨x',e⟩:=forD_acc (tg:=.one 4) (body:=b_Ways_choices_1) (S:=S) (fun L (x:Option (Bool×D)×Option (Bool×D))=>[some (false,.ref n),some (false,.int k),some (false,seamD s),some (true,.lst L),x.1,x.2]) (chG ts gr.length c b k s) 50000 (ds:=nums.map D.int) (by
  intro d hd L x hL
  obtain ⟨y,hy,rfl⟩:=List.mem_map.mp hd
  obtain ⟨y0,y1⟩:=hin y hy
  have et:=tiles_get ht y0 y1
  have et':atI (ts.map tileD) y=some (tl ts y):=et
  have ef:=run_fits (k:=k) (s:=s) (x:=y) h hc hs
  have eb:=run_seam_behind (k:=k) (s:=s) (x:=y) h hc hc2 hs
  have hLs:L.length<=100000:=by omega
  refine ⟨_,(some (false,.int y),some (false,tl ts y)),rfl,?_⟩
  show b_Ways_choices_1 [some (false,.ref n),some (false,.int k),some (false,seamD s),some (true,.lst L),some (false,.int y),x.2] S=.nx [some (false,.ref n),some (false,.int k),some (false,seamD s),some (true,.lst (L++(if fitO ts c b k s y then [chD (y,behO ts gr.length c b k s y)] else []))),some (false,.int y),some (false,tl ts y)] S
  cases hf:fitO ts c b k s y with
  | true =>
   rw [hf] at ef
   simp [b_Ways_choices_1,h.tiles,et',m2,ef,m3,eb,chD,hLs]
  | false =>
   rw [hf] at ef
   simp [b_Ways_choices_1,h.tiles,et',m2,ef]) [] (none,none) (by simp only [List.length_nil];omega)
 rw [chG_flat] at e
 simp only [List.nil_append] at e
 generalize ((nums.filter (fitO ts c b k s)).map fun x=>(x,behO ts gr.length c b k s x)).map chD=res at e ⊢
 simp [r_Ways_choices,v_run,f_Ways_choices,m1,e1,e]
end
end S2
namespace S2
open PySem
open L2 hiding D
def kPutK2(c x:Str)(i:Nat)(ρ:Env)(r:D):Out D->Fo
 | .bad=>.bad
 | .exc c S2=>.ex c ρ S2
 | .ok d S2=>(match keyI ρ i,dicD c x d S2 with
   | some k,some (n,ob,ds)=>if (dlook k ds).isNone&&decide (ds.length<=1000000)&&nodupF ob then .nx ρ (S2.set n (ob.put x true (.dic (ds++[(nkD k,r)])))) else .bad
   | _,_=>.bad)
def kPutK(c x:Str)(f:Fe)(i:Nat)(ρ:Env):Out D->Fo
 | .bad=>.bad
 | .exc c S2=>.ex c ρ S2
 | .ok r S1=>kPutK2 c x i ρ r (f ρ S1)
@[simp] theorem v_sPutK{c x:Str}{f g:Fe}{i:Nat}{ρ:Env}{S:Sto}:sPutK c x f i g ρ S=kPutK c x f i ρ (g ρ S):=by
 unfold sPutK kPutK
 cases g ρ S with
 | ok r S1=>dsimp only;unfold kPutK2;cases f ρ S1<;>rfl
 | exc c S=>rfl
 | bad=>rfl
@[simp] theorem k_putK{c x:Str}{f:Fe}{i:Nat}{ρ:Env}{S:Sto}{r:D}:kPutK c x f i ρ (.ok r S)=kPutK2 c x i ρ r (f ρ S):=(rfl)
theorem k_putK2{c x:Str}{i n:Nat}{ρ:Env}{S:Sto}{r d:D}{k:NK}{ob:Ob}{ds:List (D×D)}(hk:keyI ρ i=some k)(hd:dicD c x d S=some (n,ob,ds))(h1:dlook k ds=none)(h2:ds.length<=1000000)(h3:nodupF ob=true):kPutK2 c x i ρ r (.ok d S)=.nx ρ (S.set n (ob.put x true (.dic (ds++[(nkD k,r)])))):=by
 show (match keyI ρ i,dicD c x d S with | some k,some (n,ob,ds)=>_ | _,_=>_)=_
 rw [hk,hd]
 show (if _ then _ else _)=_
 rw [if_pos]
 rw [h1,h3,decide_eq_true h2];rfl
def ways(ts:Z2)(gr:Z4)(c:Nat)(b:Bool):Nat->Nat->List (Option Int)->Nat
 | 0,_,_=>1
 | m+1,k,s=>((chs ts gr c b k s).map fun p=>ways ts gr c b m (k+1) p.2).sum
def putsQ(q:Nat):Nat->Nat
 | 0=>0
 | m+1=>1+q*putsQ q m
theorem dlook_app{k:NK}{q d:D}:∀ds:List (D×D),dlook k (ds++[(q,d)])=(dlook k ds).or (if nkOf q=some k then some d else none)
 | []=>by show (if _ then _ else _)=_;simp [dlook]
 | (q',d')::ds=>by
  show (if nkOf q'=some k then some d' else dlook k (ds++[(q,d)]))=_
  rw [dlook_app ds]
  show _=(if nkOf q'=some k then some d' else dlook k ds).or _
  split<;>simp
def Memo(ts:Z2)(gr:Z4)(c:Nat)(b:Bool)(ds:List (D×D)):Prop:=∀(k:Nat) s d,dlook ((k:Int),s) ds=some d->d=.int (ways ts gr c b (gr.length-k) k s)
theorem set_self{S:Sto}{n:Nat}{ob:Ob}(h:S[n]?=some ob):S.set n ob=S:=by
 obtain ⟨hn,e⟩:=List.getElem?_eq_some_iff.mp h
 apply List.ext_getElem?
 intro i
 by_cases z:n=i
 ·subst z;rw [List.getElem?_set_self hn,h]
 ·rw [List.getElem?_set_ne z]
theorem chs_len{ts:Z2}{gr:Z4}{c:Nat}{b:Bool}{k:Nat}{s:Z4}(h1:1<=ts.length):(chs ts gr c b k s).length<=ts.length:=by
 unfold chs
 rw [List.length_map]
 refine Nat.le_trans (List.length_filter_le _ _) ?_
 cases gr.getD k none with
 | none=>simp [numO]
 | some x=>simpa [numO] using h1
theorem beh_len{ts:Z2}{L c:Nat}{b:Bool}{k:Nat}{s:Z4}{x:Int}(hc:1<=c)(hs:s.length=c+2):(behO ts L c b k s x).length=c+2:=by
 unfold behO
 rw [List.length_cons,List.length_append,List.length_dropLast,List.length_drop,hs]
 simp only [List.length_cons,List.length_nil]
 omega
theorem chs_seam{ts:Z2}{gr:Z4}{c:Nat}{b:Bool}{k:Nat}{s:Z4}(hc:1<=c)(hs:s.length=c+2):∀p∈chs ts gr c b k s,p.2.length=c+2:=by
 intro p hp
 obtain ⟨x,_,rfl⟩:=List.mem_map.mp hp
 exact beh_len hc hs
theorem wsum_le{α:Type}{f:α->Nat}{m:Nat}:∀{l:List α},(∀x∈l,f x<=m)->(l.map f).sum<=l.length*m
 | [],_=>by simp
 | x::l,h=>by
  have h1:=h x List.mem_cons_self
  have h2:=wsum_le (l:=l) fun y hy=>h y (List.mem_cons_of_mem _ hy)
  rw [List.map_cons,List.sum_cons,List.length_cons,Nat.add_mul]
  omega
theorem ways_le{ts:Z2}{gr:Z4}{c:Nat}{b:Bool}(h1:1<=ts.length):∀m k s,ways ts gr c b m k s<=ts.length ^ m
 | 0,_,_=>by simp [ways]
 | m+1,k,s=>by
  unfold ways
  refine Nat.le_trans (wsum_le fun p _=>ways_le h1 m (k+1) p.2) ?_
  rw [Nat.pow_succ,Nat.mul_comm]
  exact Nat.mul_le_mul_left _ (chs_len h1)
structure CfOk(n:Nat)(ts:Z2)(gr:Z4)(r c:Nat)(b:Bool)(m:Nat)(rc:List D->Sto->Out D):Prop where
 run:∀(S:Sto) (ds:List (D×D)) (k:Nat) (s:Z4),WAt S n ts gr r c b ds->Memo ts gr c b ds->k+m=gr.length->s.length=c+2->ds.length+putsQ ts.length m<=1000000 →
  ∃ds',rc [.ref n,.int k,seamD s] S=.ok (.int (ways ts gr c b m k s)) (S.set n (wOb (.tup (ts.map tileD)) (.lst (gr.map oD)) (.tup [.int r,.int c]) b ds'))/\Memo ts gr c b ds'/\ds'.length<=ds.length+putsQ ts.length m/\∀k' s',k'<k->dlook (((k':Nat):Int),s') ds'=dlook (((k':Nat):Int),s') ds
section
variable{n:Nat}{ts:Z2}{gr:Z4}{r c:Nat}{b:Bool}
theorem comp_cnt{m k:Nat}{rc:List D->Sto->Out D}(C:CfOk n ts gr r c b m rc)(hk:k+1+m=gr.length):∀(l:List (Int×List (Option Int))) (S:Sto) (ds:List (D×D)),(∀p∈l,p.2.length=c+2)->WAt S n ts gr r c b ds->Memo ts gr c b ds->ds.length+l.length*putsQ ts.length m<=1000000 →
  ∃ds',compD (.one 0) fYes (eMeth "Ways" "count_from" rc (eVar 1) [(eBin addD (eBor 2) (eCon (.int 1))),(eBin ixD (eBor 0) (eCon (.int 1)))]) [none,some (false,.ref n),some (false,.int k)] (l.map chD) S
   = .ok (l.map fun p=>.int (ways ts gr c b m (k+1) p.2)) (S.set n (wOb (.tup (ts.map tileD)) (.lst (gr.map oD)) (.tup [.int r,.int c]) b ds'))/\Memo ts gr c b ds'/\ds'.length<=ds.length+l.length*putsQ ts.length m/\∀k' s',k'<k+1->dlook (((k':Nat):Int),s') ds'=dlook (((k':Nat):Int),s') ds
 | [],S,ds,_,W,M,_=>⟨ds,by rw [set_self W.at_];rfl,M,by simp,fun _ _ _=>rfl⟩
 | p::l,S,ds,hl,W,M,hz=>by
  rw [List.length_cons,Nat.add_mul] at hz
  obtain ⟨ds1,e1,M1,z1,u1⟩:=C.run S ds (k+1) p.2 W M hk (hl p List.mem_cons_self) (by omega)
  obtain ⟨ds2,e2,M2,z2,u2⟩:=comp_cnt C hk l _ ds1 (fun q hq=>hl q (List.mem_cons_of_mem _ hq)) (W.put ds1) M1 (by omega)
  refine ⟨ds2,?_,M2,by rw [List.length_cons,Nat.add_mul];omega,fun k' s' hk'=>(u2 k' s' hk').trans (u1 k' s' hk')⟩
  rw [List.set_set] at e2
  have mo:=W.meth "count_from" (by decide +kernel)
  have e1':rc [.ref n,.int ((k:Int)+1),seamD p.2] S=_:=e1
  unfold compD
  rw [List.map_cons]
  dsimp only
  generalize hob:wOb (.tup (ts.map tileD)) (.lst (gr.map oD)) (.tup [.int r,.int c]) b ds1=ob1 at *
  simp [chD,mo,e1',e2]
theorem cf_zero{f:Nat}:CfOk n ts gr r c b 0 (recD 4 false f_Ways_count_from (f+1)) where
 run:=fun S ds k s W M hk hs hz=>by
  refine ⟨ds,?_,M,Nat.le_add_right _ _,fun _ _ _=>rfl⟩
  rw [set_self W.at_]
  have hk':k=gr.length:=by omega
  subst hk'
  show runD 4 false (f_Ways_count_from _) _ _=_
  simp [v_run,f_Ways_count_from,W.ground,ways]
theorem cf_succ{m f:Nat}(C:CfOk n ts gr r c b m (recD 4 false f_Ways_count_from f))(ht:TOk ts)(h1:1<=ts.length)(hg:∀o∈gr,∀x,o=some x->0<=x/\x<ts.length)(hc:1<=c)(hc2:c<=100)(hp:ts.length ^ m<=1000000):CfOk n ts gr r c b (m+1) (recD 4 false f_Ways_count_from (f+1)) where
 run:=fun S ds k s W M hk hs hz=>by
  have hkl:k<gr.length:=by omega
  have hne:decide ((k:Int)=(gr.length:Int))=false:=decide_eq_false (by omega)
  have ek:=seam_key (k:=(k:Int)) (s:=s)
  show ∃ds',runD 4 false (f_Ways_count_from _) _ _=_/\_
  generalize recD 4 false f_Ways_count_from f=rc at C
  cases hd:dlook ((k:Int),s) ds with
  | some d =>
   have hd':=M k s d hd
   rw [show gr.length-k=m+1 by omega] at hd'
   subst hd'
   refine ⟨ds,?_,M,Nat.le_add_right _ _,fun _ _ _=>rfl⟩
   rw [set_self W.at_]
   generalize seamD s=sd at ek
   generalize ways ts gr c b (m+1) k s=cc at hd
   simp [v_run,f_Ways_count_from,W.ground,W.known,hne,ek,hd,keyI]
  | none =>
   have hcl:=chs_len (gr:=gr) (c:=c) (b:=b) (k:=k) (s:=s) h1
   have hmul:(chs ts gr c b k s).length*putsQ ts.length m<=ts.length*putsQ ts.length m:=Nat.mul_le_mul_right _ hcl
   have hz':ds.length+(1+ts.length*putsQ ts.length m)<=1000000:=hz
   have ech:=run_choices (k:=k) (s:=s) W ht hkl hg hc hc2 hs
   obtain ⟨ds1,e1,M1,z1,u1⟩:=comp_cnt C (k:=k) (by omega) (chs ts gr c b k s) S ds (chs_seam hc hs) W M (by omega)
   have hd1:dlook ((k:Int),s) ds1=none:=(u1 k s (Nat.lt_succ_self k)).trans hd
   have hsum:sumD [.lst ((chs ts gr c b k s).map fun p=>D.int (ways ts gr c b m (k+1) p.2:Nat))]=some (.int (ways ts gr c b (m+1) k s:Nat)):=by
    have ei:∀l:List (Int×List (Option Int)),intsOf (l.map fun p=>D.int (ways ts gr c b m (k+1) p.2:Nat))=some (l.map fun p=>((ways ts gr c b m (k+1) p.2:Nat):Int)):=by
     intro l
     induction l with
     | nil=>rfl
     | cons p l ih=>rw [List.map_cons,List.map_cons];simp [intsOf,ih]
    have es:∀l:List (Int×List (Option Int)),(l.map fun p=>((ways ts gr c b m (k+1) p.2:Nat):Int)).sum=(((l.map fun p=>ways ts gr c b m (k+1) p.2).sum:Nat):Int):=by
     intro l
     induction l with
     | nil=>rfl
     | cons p l ih=>rw [List.map_cons,List.map_cons,List.sum_cons,List.sum_cons,ih,Int.natCast_add]
    show (intsOf _).bind _=_
    rw [ei]
    show (if _ then some (D.int _) else none)=_
    rw [if_pos,es]
    ·rfl
    ·rw [Bool.and_eq_true]
     refine ⟨decide_eq_true (by rw [List.length_map];exact Nat.le_trans hcl (Nat.le_trans ht.le (by decide))),?_⟩
     rw [List.all_eq_true]
     intro x hx
     obtain ⟨p,_,rfl⟩:=List.mem_map.mp hx
     have:=ways_le (gr:=gr) (c:=c) (b:=b) h1 m (k+1) p.2
     exact decide_eq_true (by omega)
   have W1:=W.put ds1
   have mo:=W.meth "choices" (by decide +kernel)
   have hlen:(chs ts gr c b k s).length<=100000:=Nat.le_trans hcl (Nat.le_trans ht.le (by decide))
   have hnd:nodupF (wOb (.tup (ts.map tileD)) (.lst (gr.map oD)) (.tup [.int r,.int c]) b ds1)=true:=by
    unfold nodupF
    show decide ((["tiles","ground","size","is_round","known"]:List Str).Nodup)=true
    decide +kernel
   have hput:(wOb (.tup (ts.map tileD)) (.lst (gr.map oD)) (.tup [.int r,.int c]) b ds1).put "known" true (.dic (ds1++[(nkD ((k:Int),s),.int (ways ts gr c b (m+1) k s:Nat))]))=wOb (.tup (ts.map tileD)) (.lst (gr.map oD)) (.tup [.int r,.int c]) b (ds1++[(nkD ((k:Int),s),.int (ways ts gr c b (m+1) k s:Nat))]):=by rfl
   refine ⟨ds1++[(nkD ((k:Int),s),.int (ways ts gr c b (m+1) k s:Nat))],?_,?_,?_,?_⟩
   ·have W2:=W.put (ds1++[(nkD ((k:Int),s),.int (ways ts gr c b (m+1) k s:Nat))])
    have hl2:dlook ((k:Int),s) (ds1++[(nkD ((k:Int),s),.int (ways ts gr c b (m+1) k s:Nat))])=some (.int (ways ts gr c b (m+1) k s:Nat)):=by
     rw [dlook_app,hd1,nkOf_nkD,if_pos rfl];rfl
    generalize hres:(chs ts gr c b k s).map (fun p=>D.int (ways ts gr c b m (k+1) p.2:Nat))=res at e1 hsum
    have hrl:res.length<=100000:=by rw [<-hres,List.length_map];exact hlen
    have hkey:keyI [some (false,D.ref n),some (false,.int k),some (false,seamD s),some (false,.tup [.int k,seamD s])] 3=some ((k:Int),s):=ek
    have hpk:=k_putK2 (r:=.int (ways ts gr c b (m+1) k s:Nat)) hkey W1.known hd1 (by omega) hnd
    rw [hput,List.set_set] at hpk
    have hkn:=W2.known
    have hkn0:=W.known
    have hgr:=W.ground
    generalize wOb (.tup (ts.map tileD)) (.lst (gr.map oD)) (.tup [.int r,.int c]) b (ds1++[(nkD ((k:Int),s),.int (ways ts gr c b (m+1) k s:Nat))])=ob2 at hpk hkn ⊢
    generalize wOb (.tup (ts.map tileD)) (.lst (gr.map oD)) (.tup [.int r,.int c]) b ds1=ob1 at hpk e1
    generalize ds1++[(nkD ((k:Int),s),D.int (ways ts gr c b (m+1) k s:Nat))]=ds2 at hkn hl2
    generalize ways ts gr c b (m+1) k s=vv at hsum hpk hl2 ⊢
    generalize seamD s=sd at ek ech hkey hpk ⊢
    generalize (chs ts gr c b k s).map chD=cs at ech e1
    simp [v_run,f_Ways_count_from,hgr,hkn0,hne,ek,hd,mo,ech,e1,hrl,hsum,hpk,hkey,hkn,hl2]
   ·intro k' s' d h'
    rw [dlook_app] at h'
    cases h2:dlook ((k':Int),s') ds1 with
    | some d'=>rw [h2] at h';cases h';exact M1 k' s' _ h2
    | none =>
     rw [h2,nkOf_nkD] at h'
     have h'':(if some ((k:Int),s)=some ((k':Int),s') then some (D.int (ways ts gr c b (m+1) k s:Nat)) else none)=some d:=h'
     split at h''
     ·rename_i ee
      cases h''
      have ee':=Option.some.inj ee
      have ek':k=k':=by have z:(k:Int)=(k':Int):=congrArg Prod.fst ee';omega
      have es':s=s':=congrArg Prod.snd ee'
      subst ek';subst es'
      rw [show gr.length-k=m+1 by omega]
     ·cases h''
   ·rw [List.length_append,List.length_singleton]
    show _<=ds.length+(1+ts.length*putsQ ts.length m)
    omega
   ·intro k' s' hk'
    rw [dlook_app,u1 k' s' (by omega),nkOf_nkD,if_neg]
    ·cases dlook ((k':Int),s') ds<;>rfl
    ·intro z
     have:=congrArg Prod.fst (Option.some.inj z)
     simp at this
     omega
end
end S2
namespace S2
open PySem
open L2 hiding D
def kFldS2(c x:Str)(ρ:Env)(r:D):Out D->Fo
 | .bad=>.bad
 | .exc c S2=>.ex c ρ S2
 | .ok (.ref n) S2=>(match S2[n]? with
   | some ob=>if decide (ob.cls=c)&&decide (ob.fs.length<1000) then .nx ρ (S2.set n (ob.put x false r)) else .bad
   | none=>.bad)
 | .ok _ _=>.bad
def kFldS(c x:Str)(f:Fe)(ρ:Env):Out D->Fo
 | .bad=>.bad
 | .exc c S2=>.ex c ρ S2
 | .ok r S1=>kFldS2 c x ρ r (f ρ S1)
@[simp] theorem v_sFldS{c x:Str}{f g:Fe}{ρ:Env}{S:Sto}:sFldS c x f g ρ S=kFldS c x f ρ (g ρ S):=by
 unfold sFldS kFldS
 cases g ρ S with
 | ok r S1 =>
  dsimp only
  unfold kFldS2
  cases f ρ S1 with
  | ok d S2=>cases d<;>rfl
  | exc c S=>rfl
  | bad=>rfl
 | exc c S=>rfl
 | bad=>rfl
@[simp] theorem k_fldS{c x:Str}{f:Fe}{ρ:Env}{S:Sto}{r:D}:kFldS c x f ρ (.ok r S)=kFldS2 c x ρ r (f ρ S):=(rfl)
theorem k_fldS2{c x:Str}{n:Nat}{ρ:Env}{S:Sto}{r:D}{fs:List (Str×Bool×D)}(h:fs.length<1000)(hn:S.length=n):kFldS2 c x ρ r (.ok (.ref n) (S++[⟨c,fs⟩]))=.nx ρ (S++[⟨c,putFd x false r fs⟩]):=by
 subst hn
 show (match (S++[(⟨c,fs⟩:Ob)])[S.length]? with | some ob=>_ | none=>_)=_
 rw [List.getElem?_append_right (Nat.le_refl _),Nat.sub_self]
 show (if _ then Fo.nx ρ ((S++[(⟨c,fs⟩:Ob)]).set S.length _) else _)=_
 rw [if_pos,List.set_append_right _ _ (Nat.le_refl _),Nat.sub_self]
 ·rfl
 ·rw [Bool.and_eq_true];exact ⟨decide_eq_true rfl,decide_eq_true h⟩
theorem v_fldD0{c x:Str}{n i:Nat}{ρ:Env}{S:Sto}{fs:List (Str×Bool×D)}(hi:ρ[i]?=some (some (false,.ref n)))(h:fs.length<1000)(hn:S.length=n):sFldD c x i ρ (S++[⟨c,fs⟩])=.nx ρ (S++[⟨c,putFd x true (.dic []) fs⟩]):=by
 subst hn
 unfold sFldD
 rw [hi]
 show (match (S++[(⟨c,fs⟩:Ob)])[S.length]? with | some ob=>_ | none=>_)=_
 rw [List.getElem?_append_right (Nat.le_refl _),Nat.sub_self]
 show (if _ then Fo.nx ρ ((S++[(⟨c,fs⟩:Ob)]).set S.length _) else _)=_
 rw [if_pos,List.set_append_right _ _ (Nat.le_refl _),Nat.sub_self]
 ·rfl
 ·rw [Bool.and_eq_true];exact ⟨decide_eq_true rfl,decide_eq_true h⟩
theorem putFd_len{x:Str}{o:Bool}{d:D}:∀{gs:List (Str×Bool×D)},(putFd x o d gs).length<=gs.length+1
 | []=>by simp [putFd]
 | (y,z)::gs=>by
  unfold putFd
  split
  ·simp
  ·have:=putFd_len (x:=x) (o:=o) (d:=d) (gs:=gs)
   simp only [List.length_cons];omega
def groundL(r c:Nat)(g:Z1):List (Option Int):=(List.range r).flatMap fun i=>(List.range c).map fun j=>g i j
def nmAt(g:Z1):D->D | .tup [.int i,.int j]=>oD (g i.toNat j.toNat) | _=>.non
theorem ground_map{r c:Nat}{g:Z1}:(plsL r c).map (nmAt g)=(groundL r c g).map oD:=by
 unfold plsL groundL
 rw [List.map_flatMap,List.map_flatMap]
 congr 1
 funext i
 rw [List.map_map,List.map_map]
 rfl
theorem ground_len{r c:Nat}{g:Z1}:(groundL r c g).length=r*c:=by
 have:=congrArg List.length (ground_map (r:=r) (c:=c) (g:=g))
 rw [List.length_map,List.length_map,pls_len] at this
 exact this.symm
theorem run_ways{r c:Nat}{g:Z1}{T:D}{b:Bool}{S:Sto}(h1:1<=r)(hr:r<=100)(hc:c<=100) :
  r_Ways___init__ [.ref S.length,T,flr r c g,.bl b] (S++[⟨"Ways",[]⟩])=.ok .non (S++[wOb T (.lst ((groundL r c g).map oD)) (.tup [.int r,.int c]) b []]):=by
 have e1:∀S',r_places_of [flr r c g] S'=.ok (.lst (plsL r c)) S':=fun S'=>run_places h1 hr hc
 have e2:∀S',r_size_of [flr r c g] S'=.ok (.tup [.int r,.int c]) S':=fun S'=>run_size h1
 have e3:∀S',compD (.one 0) fYes (eFn r_number_at [(eVar 1),(eVar 0)]) [none,some (false,flr r c g)] (plsL r c) S'=.ok ((groundL r c g).map oD) S':=fun S'=>by
  rw [<-ground_map]
  refine compD_all fun d hd=>?_
  obtain ⟨i,j,hi,hj,rfl⟩:=pls_mem hd
  refine ⟨_,rfl,?_⟩
  have:=run_number (g:=g) (S:=S') hi hj
  simp [this]
  rfl
 have hl:((groundL r c g).map oD).length<=100000:=by
  rw [List.length_map,ground_len]
  exact Nat.le_trans (Nat.mul_le_mul hr hc) (by decide)
 generalize (groundL r c g).map oD=gl at e3 hl
 generalize flr r c g=fl at *
 have l1:=putFd_len (x:="tiles") (o:=false) (d:=T) (gs:=[])
 have l2:=putFd_len (x:="ground") (o:=false) (d:=.lst gl) (gs:=putFd "tiles" false T [])
 have l3:=putFd_len (x:="size") (o:=false) (d:=.tup [.int r,.int c]) (gs:=putFd "ground" false (.lst gl) (putFd "tiles" false T []))
 have l4:=putFd_len (x:="is_round") (o:=false) (d:=.bl b) (gs:=putFd "size" false (.tup [.int r,.int c]) (putFd "ground" false (.lst gl) (putFd "tiles" false T [])))
 have p1:=fun (x:Str) (ρ:Env) (d:D) (fs:List (Str×Bool×D)) (h:fs.length<1000)=>k_fldS2 (c:="Ways") (x:=x) (ρ:=ρ) (S:=S) (r:=d) (fs:=fs) h rfl
 have l0:([]:List (Str×Bool×D)).length=0:=rfl
 have p2:=v_fldD0 (c:="Ways") (x:="known") (i:=0) (ρ:=[some (false,.ref S.length),some (false,T),some (false,fl),some (false,.bl b)]) (S:=S) (n:=S.length) (fs:=putFd "is_round" false (.bl b) (putFd "size" false (.tup [.int r,.int c]) (putFd "ground" false (.lst gl) (putFd "tiles" false T [])))) rfl (by omega) rfl
 have q1:=p1 "tiles" [some (false,.ref S.length),some (false,T),some (false,fl),some (false,.bl b)] T [] (by omega)
 have q2:=p1 "ground" [some (false,.ref S.length),some (false,T),some (false,fl),some (false,.bl b)] (.lst gl) (putFd "tiles" false T []) (by omega)
 have q3:=p1 "size" [some (false,.ref S.length),some (false,T),some (false,fl),some (false,.bl b)] (.tup [.int r,.int c]) (putFd "ground" false (.lst gl) (putFd "tiles" false T [])) (by omega)
 have q4:=p1 "is_round" [some (false,.ref S.length),some (false,T),some (false,fl),some (false,.bl b)] (.bl b) (putFd "size" false (.tup [.int r,.int c]) (putFd "ground" false (.lst gl) (putFd "tiles" false T []))) (by omega)
 clear l1 l2 l3 l4 l0
 have fin:(⟨"Ways",putFd "known" true (.dic []) (putFd "is_round" false (.bl b) (putFd "size" false (.tup [.int r,.int c]) (putFd "ground" false (.lst gl) (putFd "tiles" false T []))))⟩:Ob)=wOb T (.lst gl) (.tup [.int r,.int c]) b []:=by rfl
 rw [fin] at p2
 generalize putFd "is_round" false (.bl b) (putFd "size" false (.tup [.int r,.int c]) (putFd "ground" false (.lst gl) (putFd "tiles" false T [])))=f4 at *
 generalize putFd "size" false (.tup [.int r,.int c]) (putFd "ground" false (.lst gl) (putFd "tiles" false T []))=f3 at *
 generalize putFd "ground" false (.lst gl) (putFd "tiles" false T [])=f2 at *
 generalize putFd "tiles" false T []=f1 at *
 generalize wOb T (.lst gl) (.tup [.int r,.int c]) b []=ob at *
 simp [r_Ways___init__,v_run,f_Ways___init__,e1,e2,e3,hl,q1,q2,q3,q4,p2]
theorem cf_all{n:Nat}{ts:Z2}{gr:Z4}{r c:Nat}{b:Bool}(ht:TOk ts)(h1:1<=ts.length)(hg:∀o∈gr,∀x,o=some x->0<=x/\x<ts.length)(hc:1<=c)(hc2:c<=100):∀m f,m+1<=f->ts.length ^ m<=1000000->CfOk n ts gr r c b m (recD 4 false f_Ways_count_from f)
 | 0,f+1,_,_=>cf_zero
 | m+1,f+1,hf,hp=>by
  have hp':ts.length ^ m<=1000000:=Nat.le_trans (Nat.pow_le_pow_right h1 (Nat.le_succ m)) hp
  exact cf_succ (cf_all ht h1 hg hc hc2 m f (by omega) hp') ht h1 hg hc hc2 hp'
theorem run_count_all{n:Nat}{ts:Z2}{gr:Z4}{r c:Nat}{b:Bool}{S:Sto}(W:WAt S n ts gr r c b [])(ht:TOk ts)(h1:1<=ts.length)(hg:∀o∈gr,∀x,o=some x->0<=x/\x<ts.length)(hc:1<=c)(hc2:c<=100)(hm:gr.length<=30)(hp:ts.length ^ gr.length<=1000000)(hq:putsQ ts.length gr.length<=1000000) :
  ∃ds',r_Ways_count_all [.ref n] S=.ok (.int (ways ts gr c b gr.length 0 (List.replicate (c+2) none))) (S.set n (wOb (.tup (ts.map tileD)) (.lst (gr.map oD)) (.tup [.int r,.int c]) b ds')):=by
 obtain ⟨ds',e,_⟩:=(cf_all (n:=n) (r:=r) (b:=b) ht h1 hg hc hc2 gr.length 40 (by omega) hp).run S [] 0 (List.replicate (c+2) none) W (fun k s d h=>by cases h) (by omega) (List.length_replicate ..) (by simpa using hq)
 refine ⟨ds',?_⟩
 have e':r_Ways_count_from [.ref n,.int 0,seamD (List.replicate (c+2) none)] S=_:=e
 have e2:=run_first_seam W hc2
 have m1:=W.meth "count_from" (by decide +kernel)
 have m2:=W.meth "first_seam" (by decide +kernel)
 generalize wOb (.tup (ts.map tileD)) (.lst (gr.map oD)) (.tup [.int r,.int c]) b ds'=ob at *
 simp [r_Ways_count_all,v_run,f_Ways_count_all,m1,m2,e2,e']
def waysN(ts:Z2)(r c:Nat)(g:Z1)(b:Bool):Nat:=ways ts (groundL r c g) c b (r*c) 0 (List.replicate (c+2) none)
theorem run_count_fills{ts:Z2}{r c:Nat}{g:Z1}{S:Sto}(ht:TOk ts)(h1:1<=ts.length)(hg:InT ts g)(hr1:1<=r)(hr:r<=100)(hc:1<=c)(hc2:c<=100)(hm:r*c<=30)(hp:ts.length ^ (r*c)<=1000000)(hq:putsQ ts.length (r*c)<=1000000) :
  ∃S',r_count_fills [.tup (ts.map tileD),flr r c g] S=.ok (.int (waysN ts r c g false)) S':=by
 have e1:=run_ways (T:=.tup (ts.map tileD)) (b:=false) (S:=S) (g:=g) (c:=c) hr1 hr hc2
 have W:WAt (S++[wOb (.tup (ts.map tileD)) (.lst ((groundL r c g).map oD)) (.tup [.int r,.int c]) false []]) S.length ts (groundL r c g) r c false []:=⟨by rw [List.getElem?_append_right (Nat.le_refl _),Nat.sub_self];rfl⟩
 have hgl:∀o∈groundL r c g,∀x,o=some x->0<=x/\x<ts.length:=by
  intro o ho x hx
  obtain ⟨i,_,ho⟩:=List.mem_flatMap.mp ho
  obtain ⟨j,_,rfl⟩:=List.mem_map.mp ho
  exact hg i j x hx
 obtain ⟨ds',e2⟩:=run_count_all W ht h1 hgl hc hc2 (by rw [ground_len];exact hm) (by rw [ground_len];exact hp) (by rw [ground_len];exact hq)
 rw [ground_len] at e2
 have m:=W.meth "count_all" (by decide +kernel)
 obtain ⟨S',hS⟩:∃S',(S++[wOb (.tup (ts.map tileD)) (.lst ((groundL r c g).map oD)) (.tup [.int r,.int c]) false []]).set S.length (wOb (.tup (ts.map tileD)) (.lst ((groundL r c g).map oD)) (.tup [.int r,.int c]) false ds')=S':=⟨_,rfl⟩
 rw [hS] at e2
 clear hS
 refine ⟨S',?_⟩
 unfold waysN
 generalize wOb (.tup (ts.map tileD)) (.lst ((groundL r c g).map oD)) (.tup [.int r,.int c]) false []=ob at *
 simp [r_count_fills,v_run,f_count_fills,e1,m,e2]
end S2
namespace S2
open PySem
open L2 hiding D
def numAll(ts:Z2):List Int:=(List.range ts.length).map fun (i:Nat)=>(i:Int)
def nextF(ts:Z2)(c:Nat)(o:Option Int)(t:List Int):List (List Int):=((numAll ts).filter fun x=>okO o x&&fitT ts c t x).map fun x=>t++[x]
def fillsF(ts:Z2)(gr:Z4)(c:Nat):Nat->List (List Int)
 | 0=>[[]]
 | k+1=>(fillsF ts gr c k).flatMap (nextF ts c (gr.getD k none))
theorem flat_lenG{α β:Type}{g:α->List β}{m:Nat}:∀{l:List α},(∀x∈l,(g x).length<=m)->(l.flatMap g).length<=l.length*m
 | [],_=>by simp
 | x::l,h=>by
  have h1:=h x List.mem_cons_self
  have h2:=flat_lenG (l:=l) fun y hy=>h y (List.mem_cons_of_mem _ hy)
  rw [List.flatMap_cons,List.length_append,List.length_cons,Nat.add_mul]
  omega
structure FillG(ts:Z2)(k:Nat)(F:Z2):Prop where
 mem:∀t∈F,t.length=k/\InR ts t
theorem fillsF_ok{ts:Z2}{gr:Z4}{c:Nat}:∀k,FillG ts k (fillsF ts gr c k)
 | 0=>⟨fun t ht=>by rw [List.mem_singleton.mp ht];exact ⟨rfl,fun x hx=>(List.not_mem_nil hx).elim⟩⟩
 | k+1=>⟨fun t ht=>by
  obtain ⟨u,hu,ht⟩:=List.mem_flatMap.mp ht
  obtain ⟨x,hx,rfl⟩:=List.mem_map.mp ht
  obtain ⟨h1,h2⟩:=(fillsF_ok (ts:=ts) (gr:=gr) (c:=c) k).mem u hu
  refine ⟨by rw [List.length_append,h1];rfl,fun y hy=>?_⟩
  rcases List.mem_append.mp hy with hy | hy
  ·exact h2 y hy
  ·rw [List.mem_singleton.mp hy]
   obtain ⟨i,hi,rfl⟩:=List.mem_map.mp (List.mem_filter.mp hx).1
   have:=List.mem_range.mp hi
   omega⟩
section
variable{ts:Z2}{c:Nat}{S:Sto}{s1 s3 s4:Option (Bool×D)}{o:Option Int}
end
theorem wanted{r c:Nat}{g:Z1}:(flrL r c g).flatMap tupL=(groundL r c g).map oD:=by
 unfold flrL groundL
 rw [List.flatMap_map,List.map_flatMap]
 congr 1
 funext i
 show rowL c (g i)=_
 rw [List.map_map]
 rfl
end S2
namespace S2
open PySem
open L2 hiding D
def extN(ts:Z2)(gr:Z4)(c:Nat):Nat->List Int->Nat
 | 0,_=>1
 | m+1,t=>((nextF ts c (gr.getD t.length none) t).map (extN ts gr c m)).sum
theorem sum_flat{α:Type}{f:α->Nat}{h:α->List α}:∀l:List α,((l.flatMap h).map f).sum=(l.map fun t=>((h t).map f).sum).sum
 | []=>rfl
 | t::l=>by rw [List.flatMap_cons,List.map_append,List.sum_append,sum_flat l,List.map_cons,List.sum_cons]
theorem fills_ext{ts:Z2}{gr:Z4}{c:Nat}:∀m k,(fillsF ts gr c (k+m)).length=((fillsF ts gr c k).map (extN ts gr c m)).sum
 | 0,k=>by
  show (fillsF ts gr c k).length=_
  generalize fillsF ts gr c k=F
  induction F with
  | nil=>rfl
  | cons t F ih=>rw [List.length_cons,ih,List.map_cons,List.sum_cons];simp [extN];omega
 | m+1,k=>by
  rw [show k+(m+1)=(k+1)+m by omega,fills_ext m (k+1)]
  show (((fillsF ts gr c k).flatMap _).map _).sum=_
  rw [sum_flat]
  congr 1
  apply List.map_congr_left
  intro t ht
  show _=((nextF ts c (gr.getD t.length none) t).map (extN ts gr c m)).sum
  rw [((fillsF_ok k).mem t ht).1]
theorem fills_len{ts:Z2}{gr:Z4}{c L:Nat}:(fillsF ts gr c L).length=extN ts gr c L []:=by
 have:=fills_ext (ts:=ts) (gr:=gr) (c:=c) L 0
 rw [Nat.zero_add] at this
 rw [this]
 simp [fillsF]
structure SeamOk(ts:Z2)(L c:Nat)(t:List Int)(s:Z4):Prop where
 len:s.length=c+2
 west:s.getD 0 none=if t.length % c=0 then none else some (colT ts (t.getLastD 0) 1)
 north:∀j,j<c->s.getD (1+j) none=if t.length+j<c\/L<=t.length+j then none else some (colT ts (t.getD (t.length+j-c) 0) 2)
theorem SeamOk.first{ts:Z2}{L c:Nat}:SeamOk ts L c [] (List.replicate (c+2) none) where
 len:=List.length_replicate ..
 west:=by simp [List.getD_eq_getElem?_getD,List.getElem?_replicate]
 north:=fun j hj=>by
  rw [if_pos (.inl (by simpa using hj))]
  rw [List.getD_eq_getElem?_getD,List.getElem?_replicate]
  split<;>rfl
theorem SeamOk.next{ts:Z2}{L c:Nat}{t:List Int}{s:Z4}{x:Int}(h:SeamOk ts L c t s)(hc:1<=c):SeamOk ts L c (t++[x]) (behO ts L c false t.length s x) where
 len:=beh_len hc h.len
 west:=by
  rw [List.length_append,List.length_singleton]
  show (if (t.length+1) % c=0 then none else some (colT ts x 1))=_
  simp [List.getLastD_eq_getLast?]
 north:=fun j hj=>by
  have hm:((s.drop 2).dropLast).length=c-1:=by rw [List.length_dropLast,List.length_drop,h.len];omega
  rw [List.length_append,List.length_singleton]
  show ((if (t.length+1) % c=0 then none else some (colT ts x 1))::((s.drop 2).dropLast++[if L<=t.length+c then none else some (colT ts x 2),if false&&!decide ((t.length+1) % c=0) then crO ts c t.length s x else none])).getD (1+j) none=_
  rw [show 1+j=j+1 by omega,List.getD_cons_succ]
  by_cases hl:j<c-1
  ·rw [List.getD_eq_getElem?_getD,List.getElem?_append_left (by rw [hm];exact hl),List.getElem?_dropLast,if_pos (by rw [List.length_drop,h.len];omega),List.getElem?_drop,<-List.getD_eq_getElem?_getD]
   have hn:=h.north (j+1) (by omega)
   rw [show 2+j=1+(j+1) by omega,hn]
   rw [show t.length+1+j=t.length+(j+1) by omega]
   by_cases z:t.length+(j+1)<c\/L<=t.length+(j+1)
   ·rw [if_pos z,if_pos z]
   ·rw [if_neg z,if_neg z,getD_app,if_pos (by omega)]
  ·have hj':j=c-1:=by omega
   subst hj'
   rw [List.getD_eq_getElem?_getD,List.getElem?_append_right (by rw [hm];exact Nat.le_refl _),hm,Nat.sub_self]
   show (if L<=t.length+c then none else some (colT ts x 2))=_
   have e:(t++[x]).getD (t.length+1+(c-1)-c) 0=x:=by
    rw [getD_app,show t.length+1+(c-1)-c=t.length by omega,if_neg (Nat.lt_irrefl _),if_pos rfl]
   rw [e,show t.length+1+(c-1)=t.length+c by omega]
   have:¬ t.length+c<c:=by omega
   simp [this]
theorem fit_seam{ts:Z2}{L c:Nat}{t:List Int}{s:Z4}{x:Int}(h:SeamOk ts L c t s)(hc:1<=c)(hL:t.length<L):fitO ts c false t.length s x=fitT ts c t x:=by
 unfold fitO fitT
 have h1:=h.north 0 (by omega)
 rw [Nat.add_zero,Nat.add_zero] at h1
 rw [h.west,h1]
 have hL':¬ L<=t.length:=by omega
 simp only [Bool.not_false,Bool.true_or,Bool.and_true]
 rw [Bool.eq_iff_iff,Bool.and_eq_true,decide_eq_true_iff]
 have a:okO (if t.length % c=0 then none else some (colT ts (t.getLastD 0) 1)) (colT ts x 3)=true↔(0<t.length % c->colT ts (t.getLastD 0) 1=colT ts x 3):=by
  by_cases z:t.length % c=0
  ·rw [if_pos z];simp [okO,z]
  ·rw [if_neg z]
   have z':0<t.length % c:=by omega
   simp [okO,z']
 have b:okO (if t.length<c\/L<=t.length then none else some (colT ts (t.getD (t.length-c) 0) 2)) (colT ts x 0)=true↔(c<=t.length->colT ts (t.getD (t.length-c) 0) 2=colT ts x 0):=by
  by_cases z:t.length<c
  ·rw [if_pos (.inl z)]
   have z':¬ c<=t.length:=by omega
   simp [okO,z']
  ·have z':c<=t.length:=by omega
   rw [if_neg (by simp only [not_or];exact ⟨z,hL'⟩)]
   simp [okO,z']
 rw [a,b]
theorem num_filter{ts:Z2}{o:Option Int}{p:Int->Bool}(ho:∀x,o=some x->0<=x/\x<ts.length):(numAll ts).filter (fun x=>okO o x&&p x)=(numO ts o).filter p:=by
 cases o with
 | none =>
  show (numAll ts).filter (fun x=>true&&p x)=(numAll ts).filter p
  simp
 | some y =>
  obtain ⟨y0,y1⟩:=ho y rfl
  have e:(numAll ts).filter (fun x=>decide (y=x))=[y]:=by
   obtain ⟨n,rfl⟩:=Int.eq_ofNat_of_zero_le y0
   have hn:n<ts.length:=by omega
   unfold numAll
   rw [List.filter_map]
   have hf:(List.range ts.length).filter ((fun x=>decide ((n:Int)=x))∘fun (i:Nat)=>(i:Int))=[n]:=by
    have:((fun x=>decide ((n:Int)=x))∘fun (i:Nat)=>(i:Int))=fun i=>decide (i=n):=by
     funext i
     simp only [Function.comp]
     congr 1
     exact propext ⟨fun z=>by omega,fun z=>by omega⟩
    rw [this]
    generalize ts.length=N at hn
    clear y1
    induction N with
    | zero=>omega
    | succ N ih =>
     rw [List.range_succ,List.filter_append]
     by_cases z:n<N
     ·rw [ih z]
      have:¬ N=n:=by omega
      simp [this]
     ·have:N=n:=by omega
      subst this
      have h0:(List.range N).filter (fun i=>decide (i=N))=[]:=by
       rw [List.filter_eq_nil_iff]
       intro i hi
       have:=List.mem_range.mp hi
       simp;omega
      rw [h0];simp
   rw [hf];rfl
  show (numAll ts).filter (fun x=>decide (y=x)&&p x)=[y].filter p
  rw [<-e,List.filter_filter]
  congr 1
  funext x
  exact Bool.and_comm _ _
theorem ways_ext{ts:Z2}{gr:Z4}{c:Nat}(hc:1<=c)(hg:∀o∈gr,∀x,o=some x->0<=x/\x<ts.length):∀m t s,SeamOk ts gr.length c t s->t.length+m=gr.length->ways ts gr c false m t.length s=extN ts gr c m t
 | 0,_,_,_,_=>rfl
 | m+1,t,s,h,hl=>by
  have hk:t.length<gr.length:=by omega
  have ho:∀x,gr.getD t.length none=some x->0<=x/\x<ts.length:=by
   rw [List.getD_eq_getElem?_getD,List.getElem?_eq_getElem hk]
   exact hg _ (List.getElem_mem hk)
  show ((chs ts gr c false t.length s).map fun p=>ways ts gr c false m (t.length+1) p.2).sum=((nextF ts c (gr.getD t.length none) t).map (extN ts gr c m)).sum
  unfold chs nextF
  rw [num_filter ho,List.map_map,List.map_map]
  have e:(numO ts (gr.getD t.length none)).filter (fitO ts c false t.length s)=(numO ts (gr.getD t.length none)).filter (fitT ts c t):=by
   congr 1
   funext x
   exact fit_seam h hc hk
  rw [e]
  congr 1
  apply List.map_congr_left
  intro x _
  show ways ts gr c false m (t.length+1) (behO ts gr.length c false t.length s x)=extN ts gr c m (t++[x])
  have:=ways_ext hc hg m (t++[x]) _ (h.next (x:=x) hc) (by rw [List.length_append,List.length_singleton];omega)
  rw [List.length_append,List.length_singleton] at this
  exact this
theorem ground_in{ts:Z2}{r c:Nat}{g:Z1}(hg:InT ts g):∀o∈groundL r c g,∀x,o=some x->0<=x/\x<ts.length:=by
 intro o ho x hx
 obtain ⟨i,_,ho⟩:=List.mem_flatMap.mp ho
 obtain ⟨j,_,rfl⟩:=List.mem_map.mp ho
 exact hg i j x hx
theorem ways_fills{ts:Z2}{r c:Nat}{g:Z1}(hc:1<=c)(hg:InT ts g):waysN ts r c g false=(fillsF ts (groundL r c g) c (r*c)).length:=by
 rw [fills_len]
 unfold waysN
 exact ways_ext hc (ground_in hg) (r*c) [] _ (by rw [ground_len];exact SeamOk.first) (by rw [ground_len];simp)
end S2
namespace S2
open PySem
open L2 hiding D
theorem cut_nat{α:Type}{l:List α}{n:Nat}:cutD l (some (n:Int)) none=l.drop n:=by
 unfold cutD
 rw [HT.sIx_nat]
 simp [HT.sIx]
 by_cases h:n<=l.length
 ·rw [Nat.min_eq_left h];exact List.take_of_length_le (by simp)
 ·rw [List.drop_eq_nil_of_le (show l.length<=n by omega),List.drop_eq_nil_of_le (by omega)];simp
theorem cut_to{α:Type}{l:List α}{n:Nat}(h:n<=l.length):cutD l none (some (n:Int))=l.take n:=by
 unfold cutD
 rw [HT.sIx_nat]
 simp [HT.sIx,Nat.min_eq_left h]
end S2
namespace S2
open PySem
open L2 hiding D
def putG(g:Z1)(i j:Nat)(o:Option Int):Nat->Nat->Option Int:=fun a b=>if a=i/\b=j then o else g a b
theorem row_set{c j:Nat}{g:Nat->Option Int}{o:Option Int}:(rowL c g).set j (oD o)=rowL c fun b=>if b=j then o else g b:=by
 apply List.ext_getElem?
 intro k
 by_cases hk:k<c
 ·rw [rowL_get hk]
  by_cases e:j=k
  ·subst e
   rw [List.getElem?_set_self (by rw [rowL_len];exact hk),if_pos rfl]
  ·rw [List.getElem?_set_ne e,rowL_get hk,if_neg (fun z=>e z.symm)]
 ·rw [List.getElem?_eq_none (by rw [List.length_set,rowL_len];omega),List.getElem?_eq_none (by rw [rowL_len];omega)]
theorem flr_set{r c i j:Nat}{g:Z1}{o:Option Int}:(flrL r c g).set i (rowD c fun b=>if b=j then o else g i b)=flrL r c (putG g i j o):=by
 apply List.ext_getElem?
 intro k
 by_cases hk:k<r
 ·rw [flrL_get hk]
  by_cases e:i=k
  ·subst e
   rw [List.getElem?_set_self (by rw [flrL_len];exact hk)]
   congr 3
   funext b
   unfold putG
   by_cases z:b=j<;>simp [z]
  ·rw [List.getElem?_set_ne e,flrL_get hk]
   congr 3
   funext b
   unfold putG
   rw [if_neg (fun z=>e z.1.symm)]
 ·rw [List.getElem?_eq_none (by rw [List.length_set,flrL_len];omega),List.getElem?_eq_none (by rw [flrL_len];omega)]
theorem cut_set{α:Type}{l:List α}{j:Nat}{x:α}(h:j<l.length):cutD l none (some (j:Int))++x::cutD l (some ((j:Int)+1)) none=l.set j x:=by
 rw [cut_to (by omega),show ((j:Int)+1)=((j+1:Nat):Int) by omega,cut_nat,List.set_eq_take_append_cons_drop,if_pos h]
theorem run_with_number{r c i j:Nat}{g:Z1}{o:Option Int}{S:Sto}(hi:i<r)(hj:j<c)(hr:r<=100)(hc:c<=100):r_with_number [flr r c g,plD i j,oD o] S=.ok (flr r c (putG g i j o)) S:=by
 have e0:atI (flrL r c g) (i:Int)=some (rowD c (g i)):=by rw [atI_nat',flrL_get hi]
 have e1:cutD (rowL c (g i)) none (some (j:Int))++oD o::cutD (rowL c (g i)) (some ((j:Int)+1)) none=rowL c fun b=>if b=j then o else g i b:=by rw [cut_set (by rw [rowL_len];exact hj),row_set]
 have e2:cutD (flrL r c g) none (some (i:Int))++(rowD c fun b=>if b=j then o else g i b)::cutD (flrL r c g) (some ((i:Int)+1)) none=flrL r c (putG g i j o):=by rw [cut_set (by rw [flrL_len];exact hi),flr_set]
 have l1:=congrArg List.length e1
 have l2:=congrArg List.length e2
 rw [List.length_append,List.length_cons,rowL_len] at l1
 rw [List.length_append,List.length_cons,flrL_len] at l2
 unfold flr
 rw [<-e2]
 unfold rowD at e0 ⊢
 rw [<-e1]
 generalize q1:cutD (rowL c (g i)) none (some (j:Int))=a1 at *
 generalize q2:cutD (rowL c (g i)) (some ((j:Int)+1)) none=a2 at *
 generalize q3:cutD (flrL r c g) none (some (i:Int))=b1 at *
 generalize q4:cutD (flrL r c g) (some ((i:Int)+1)) none=b2 at *
 have p1:a1.length+1<=100000:=by omega
 have p2:a1.length+1+a2.length<=100000:=by omega
 have p3:b1.length+1<=100000:=by omega
 have p4:b1.length+1+b2.length<=100000:=by omega
 simp [r_with_number,v_run,f_with_number,plD,e0,q1,q2,q3,q4,p1,p2,p3,p4]
end S2
namespace S2
open PySem
open L2 hiding D
@[simp] theorem v_isb{x y:Bool}:isbD (.bl x) (.bl y)=some (.bl (decide (x=y))):=(rfl)
theorem forD_relS{tg:Tg}{body:Fs}{ds:List D}(Iv:Nat->Env->Sto->Prop)(step:∀k d ρ S,ds[k]?=some d->Iv k ρ S->∃ρ1 ρ2 S2,tg.put ρ d=some ρ1/\body ρ1 S=.nx ρ2 S2/\Iv (k+1) ρ2 S2){ρ:Env}{S:Sto}(h0:Iv 0 ρ S):∃ρ' S',forD tg body ds ρ S=.nx ρ' S'/\Iv ds.length ρ' S':=by
 have go:∀(n:Nat) (es:List D) (k:Nat) (ρ:Env) (S:Sto),es.length=n->ds.drop k=es->k+n=ds.length->Iv k ρ S->∃ρ' S',forD tg body es ρ S=.nx ρ' S'/\Iv ds.length ρ' S':=by
  intro n
  induction n with
  | zero =>
   intro es k ρ S hl he hk hi
   obtain rfl:es=[]:=List.eq_nil_of_length_eq_zero hl
   exact ⟨ρ,S,rfl,by rw [show ds.length=k by omega];exact hi⟩
  | succ n ih =>
   intro es k ρ S hl he hk hi
   cases es with
   | nil=>cases hl
   | cons d es =>
    have hd:ds[k]?=some d:=by
     have:=congrArg (fun l=>l[0]?) he
     rw [List.getElem?_drop] at this
     simpa using this
    obtain ⟨ρ1,ρ2,S2,e1,e2,hi2⟩:=step k d ρ S hd hi
    obtain ⟨ρ',S',e3,e4⟩:=ih es (k+1) ρ2 S2 (by simpa using hl) (by rw [<-List.drop_drop,he];rfl) (by omega) hi2
    refine ⟨ρ',S',?_,e4⟩
    unfold forD
    rw [e1]
    dsimp only
    rw [e2]
    exact e3
 exact go ds.length ds 0 ρ S rfl (by simp) (by omega) h0
theorem run_outside{r c i j:Nat}{g:Z1}{S:Sto}(h1:1<=r)(hi:i<r)(hj:j<c):r_refuse_outside [flr r c g,plD i j] S=.ok .non S:=by
 have hp:r_has_place [flr r c g,plD i j] S=.ok (.bl true) S:=by rw [run_has_place h1];congr 3;simp;omega
 simp [r_refuse_outside,v_run,f_refuse_outside,hp]
theorem run_may_lie{ts:List D}{o:Option Int}{S:Sto}(h:∀x,o=some x->0<=x/\x<ts.length):r_may_lie [.tup ts,oD o] S=.ok (.bl true) S:=by
 have e:=run_has_number (ts:=ts) (o:=o) (S:=S) h
 cases o with
 | none=>simp [r_may_lie,v_run,f_may_lie,oD]
 | some x =>
  simp only [oD] at e
  simp [r_may_lie,v_run,f_may_lie,oD,e]
theorem run_with_tile{ts:Z2}{r c i j:Nat}{g:Z1}{o:Option Int}{S:Sto}(h:∀x,o=some x->0<=x/\x<ts.length)(h1:1<=r)(hi:i<r)(hj:j<c)(hr:r<=100)(hc:c<=100):r_with_tile [.tup (ts.map tileD),flr r c g,plD i j,oD o] S=.ok (flr r c (putG g i j o)) S:=by
 have e1:=run_outside (g:=g) (S:=S) h1 hi hj
 have e2:=run_may_lie (ts:=ts.map tileD) (o:=o) (S:=S) (fun x hx=>by simpa using h x hx)
 have e3:=run_with_number (g:=g) (o:=o) (S:=S) hi hj hr hc
 generalize flr r c g=fl at *
 generalize flr r c (putG g i j o)=fl' at *
 generalize plD i j=pp at *
 generalize oD o=od at *
 simp [r_with_tile,v_run,f_with_tile,e1,e2,e3]
def PutsOk(q m:Nat):Prop:=putsQ q m+m*(putsQ q m+q*putsQ q m)<=1000000/\q ^ m<=80000
instance{q m:Nat}:Decidable (PutsOk q m):=by unfold PutsOk;exact inferInstance
theorem puts5:∀{q:Nat},q<=5->∀{m:Nat},m<=6->PutsOk q m:=by
 have h:∀q,q<6->∀m,m<7->PutsOk q m:=by decide
 intro q hq m hm;exact h q (by omega) m (by omega)
structure FP(ts:Z2)(r c:Nat):Prop where
 ht:TOk ts
 h1:1<=ts.length
 h4:PutsOk ts.length (r*c)
 r1:1<=r
 c1:1<=c
 rc:r*c<=6
theorem FP.r6{ts:Z2}{r c:Nat}(h:FP ts r c):r<=6:=by
 have:=h.rc;have:=h.c1
 exact Nat.le_trans (Nat.le_mul_of_pos_right r h.c1) h.rc
theorem FP.c6{ts:Z2}{r c:Nat}(h:FP ts r c):c<=6:=Nat.le_trans (Nat.le_mul_of_pos_left c h.r1) h.rc
theorem puts_le(q:Nat)(m:Nat)(h:PutsOk q m):putsQ q m<=1000000/\q ^ m<=80000:=⟨by have:=h.1;omega,h.2⟩
def fillsG(ts:Z2)(r c:Nat)(g:Z1):List (List Int):=fillsF ts (groundL r c g) c (r*c)
section
variable{ts:Z2}{r c:Nat}{g:Z1}
theorem run_count(P:FP ts r c)(hg:InT ts g)(S:Sto):∃S',r_count_fills [.tup (ts.map tileD),flr r c g] S=.ok (.int ((fillsG ts r c g).length:Nat)) S':=by
 obtain ⟨b1,b2⟩:=puts_le ts.length (r*c) P.h4
 obtain ⟨S',e⟩:=run_count_fills (S:=S) P.ht P.h1 hg P.r1 (by have:=P.r6;omega) P.c1 (by have:=P.c6;omega) (by have:=P.rc;omega) (by omega) b1
 rw [ways_fills P.c1 hg] at e
 exact ⟨S',e⟩
end
end S2
namespace S2
open PySem
open L2 hiding D
def pairsL(r c:Nat):List (Nat×Nat):=(List.range r).flatMap fun i=>(List.range c).map fun j=>(i,j)
theorem ground_pairs{r c:Nat}{g:Z1}:groundL r c g=(pairsL r c).map fun p=>g p.1 p.2:=by
 unfold groundL pairsL
 rw [List.map_flatMap]
 congr 1
 funext i
 rw [List.map_map]
 rfl
theorem pairs_mem{r c:Nat}{p:Nat×Nat}(h:p∈pairsL r c):p.1<r/\p.2<c:=by
 obtain ⟨i,hi,h⟩:=List.mem_flatMap.mp h
 obtain ⟨j,hj,rfl⟩:=List.mem_map.mp h
 exact ⟨List.mem_range.mp hi,List.mem_range.mp hj⟩
def LeG(r c:Nat)(g h:Z1):Prop:=∀i j,i<r->j<c->g i j=none\/g i j=h i j
theorem put_in{ts:Z2}{g:Z1}{i j:Nat}{o:Option Int}(hg:InT ts g)(ho:∀x,o=some x->0<=x/\x<ts.length):InT ts (putG g i j o):=by
 intro a b x hx
 unfold putG at hx
 split at hx
 ·exact ho x hx
 ·exact hg a b x hx
section
variable{ts:Z2}{r c:Nat}{g:Z1}
end
end S2
namespace S2
open PySem
open L2 hiding D
section
variable{ts:Z2}{r c:Nat}{g:Z1}
theorem pl_inj{i j a b:Nat}(h:plD i j=plD a b):i=a/\j=b:=by
 unfold plD at h
 injection h with h
 injection h with h1 h2
 injection h2 with h2 h3
 injection h1 with h1
 injection h2 with h2
 omega
end
end S2
namespace S2
open PySem
open L2 hiding D
def selW{α:Type}(w:α->Nat):List α->Nat->Option (α×Nat)
 | [],_=>none
 | p::l,q=>if q<w p then some (p,q) else selW w l (q-w p)
theorem flat_sel{α β:Type}{f:α->List β}:∀(xs:List α) (q:Nat),(xs.flatMap f)[q]?=(selW (fun x=>(f x).length) xs q).bind fun p=>(f p.1)[p.2]?
 | [],q=>by simp [selW]
 | x::xs,q=>by
  rw [List.flatMap_cons]
  unfold selW
  by_cases h:q<(f x).length
  ·rw [if_pos h,List.getElem?_append_left h];rfl
  ·rw [if_neg h,List.getElem?_append_right (by omega),flat_sel xs]
theorem sel_mem{α:Type}{w:α->Nat}{p:α}{q':Nat}:∀{l:List α} {q:Nat},selW w l q=some (p,q')->p∈l/\q'<w p
 | [],q,h=>by cases h
 | x::l,q,h=>by
  unfold selW at h
  split at h
  ·rename_i hq;cases h;exact ⟨List.mem_cons_self,hq⟩
  ·obtain ⟨h1,h2⟩:=sel_mem h;exact ⟨List.mem_cons_of_mem _ h1,h2⟩
theorem sel_some{α:Type}{w:α->Nat}:∀{l:List α} {q:Nat},q<(l.map w).sum->∃p,selW w l q=some p
 | [],q,h=>by simp at h
 | x::l,q,h=>by
  unfold selW
  rw [List.map_cons,List.sum_cons] at h
  split
  ·exact ⟨_,rfl⟩
  ·exact sel_some (by omega)
theorem sel_map{α β:Type}{w:β->Nat}{g:α->β}:∀(l:List α) (q:Nat),selW w (l.map g) q=(selW (fun x=>w (g x)) l q).map fun p=>(g p.1,p.2)
 | [],q=>rfl
 | x::l,q=>by
  rw [List.map_cons]
  unfold selW
  split
  ·rfl
  ·exact sel_map l _
theorem sel_congr{α:Type}{w w':α->Nat}:∀(l:List α),(∀x∈l,w x=w' x)->∀q,selW w l q=selW w' l q
 | [],_,_=>rfl
 | x::l,h,q=>by
  unfold selW
  rw [h x List.mem_cons_self,sel_congr l (fun y hy=>h y (List.mem_cons_of_mem _ hy))]
def pathW(ts:Z2)(gr:Z4)(c:Nat)(b:Bool):Nat->Nat->List (Option Int)->Nat->Option (List Int)
 | 0,_,_,_=>some []
 | m+1,k,s,q=>(selW (fun p=>ways ts gr c b m (k+1) p.2) (chs ts gr c b k s) q).bind fun p=>(pathW ts gr c b m (k+1) p.1.2 p.2).map (p.1.1::·)
section
variable{n:Nat}{ts:Z2}{gr:Z4}{r c:Nat}{b:Bool}
theorem by_in{m k:Nat}(C:CfOk n ts gr r c b m r_Ways_count_from)(hk:k+1+m=gr.length){s1:Option (Bool×D)}{N:List D}(hN:N.length<=1000){p:Int×List (Option Int)}{q':Nat}:∀(cs:List (Int×List (Option Int))) (q:Nat) (S:Sto) (ds:List (D×D)) (s4 s6 s7:Option (Bool×D)),(∀p∈cs,p.2.length=c+2)->selW (fun p=>ways ts gr c b m (k+1) p.2) cs q=some (p,q')->WAt S n ts gr r c b ds->Memo ts gr c b ds->ds.length+cs.length*putsQ ts.length m<=1000000 →
  ∃ds' x6 x7,forD (.one 6) b_Ways_numbers_by_1 (cs.map chD) [some (false,.ref n),s1,some (true,.lst N),some (false,.int q),s4,some (false,.int k),s6,s7] S
   = .nx [some (false,.ref n),s1,some (true,.lst (N++[.int p.1])),some (false,.int q'),some (false,seamD p.2),some (false,.int k),x6,x7] (S.set n (wOb (.tup (ts.map tileD)) (.lst (gr.map oD)) (.tup [.int r,.int c]) b ds'))/\Memo ts gr c b ds'/\ds'.length<=ds.length+cs.length*putsQ ts.length m
 | [],q,S,ds,s4,s6,s7,_,e,_,_,_=>by cases e
 | p0::cs,q,S,ds,s4,s6,s7,hl,e,W,M,hz=>by
  rw [List.length_cons,Nat.add_mul] at hz
  obtain ⟨ds1,e1,M1,z1,_⟩:=C.run S ds (k+1) p0.2 W M hk (hl p0 List.mem_cons_self) (by omega)
  have e1':r_Ways_count_from [.ref n,.int ((k:Int)+1),seamD p0.2] S=_:=e1
  have mo:=W.meth "count_from" (by decide +kernel)
  have W1:=W.put ds1
  have hNs:N.length<=100000:=by omega
  have i0:ixD (chD p0) (.int 0)=some (.int p0.1):=rfl
  have i1:ixD (chD p0) (.int 1)=some (seamD p0.2):=rfl
  unfold selW at e
  by_cases h:q<ways ts gr c b m (k+1) p0.2
  ·rw [if_pos h] at e
   cases e
   refine ⟨ds1,some (false,chD p),some (false,.int (ways ts gr c b m (k+1) p.2:Nat)),?_,M1,by rw [List.length_cons,Nat.add_mul];omega⟩
   rw [List.map_cons]
   unfold forD
   generalize wOb (.tup (ts.map tileD)) (.lst (gr.map oD)) (.tup [.int r,.int c]) b ds1=ob at *
   generalize ways ts gr c b m (k+1) p.2=ww at *
   generalize chD p=cp at *
   generalize seamD p.2=sd at *
   simp [b_Ways_numbers_by_1,mo,i0,i1,e1',h,hNs]
  ·rw [if_neg h] at e
   obtain ⟨ds2,x6,x7,e2,M2,z2⟩:=by_in (s1:=s1) C hk hN cs (q-ways ts gr c b m (k+1) p0.2) _ ds1 s4 (some (false,chD p0)) (some (false,.int (ways ts gr c b m (k+1) p0.2:Nat))) (fun p hp=>hl p (List.mem_cons_of_mem _ hp)) e W1 M1 (by omega)
   refine ⟨ds2,x6,x7,?_,M2,by rw [List.length_cons,Nat.add_mul];omega⟩
   rw [List.set_set] at e2
   have hq:((q-ways ts gr c b m (k+1) p0.2:Nat):Int)=(q:Int)-((ways ts gr c b m (k+1) p0.2:Nat):Int):=by omega
   rw [hq] at e2
   rw [List.map_cons]
   unfold forD
   generalize wOb (.tup (ts.map tileD)) (.lst (gr.map oD)) (.tup [.int r,.int c]) b ds1=ob at *
   generalize ways ts gr c b m (k+1) p0.2=ww at *
   generalize chD p0=cp at *
   generalize seamD p0.2=sd at *
   simp [b_Ways_numbers_by_1,mo,i0,i1,e1',h,sAug]
   exact e2
end
end S2
namespace S2
open PySem
open L2 hiding D
theorem puts_mono{q:Nat}(h:1<=q):∀{m L:Nat},m<=L->putsQ q m<=putsQ q L:=by
 intro m L hml
 have step:∀n,putsQ q n<=putsQ q (n+1):=by
  intro n
  show _<=1+q*putsQ q n
  have:1*putsQ q n<=q*putsQ q n:=Nat.mul_le_mul_right _ h
  omega
 induction L with
 | zero=>rw [show m=0 by omega];exact Nat.le_refl _
 | succ L ih =>
  by_cases e:m=L+1
  ·rw [e];exact Nat.le_refl _
  ·exact Nat.le_trans (ih (by omega)) (step L)
theorem range_at{L k:Nat}{d:D}(h:(rangeD 0 (L:Int))[k]?=some d):k<L/\d=.int (k:Int):=by
 unfold rangeD at h
 simp only [Int.sub_zero,Int.toNat_natCast] at h
 rw [List.getElem?_map] at h
 by_cases hk:k<L
 ·rw [List.getElem?_range hk] at h
  refine ⟨hk,?_⟩
  have:=(Option.some.inj h).symm
  simpa using this
 ·rw [List.getElem?_eq_none (by simp;omega)] at h;cases h
section
variable{n:Nat}{ts:Z2}{gr:Z4}{r c:Nat}{b:Bool}
theorem run_numbers_by{S:Sto}{ds:List (D×D)}{q:Nat}(W:WAt S n ts gr r c b ds)(M:Memo ts gr c b ds)(ht:TOk ts)(h1:1<=ts.length)(hg:∀o∈gr,∀x,o=some x->0<=x/\x<ts.length)(hc:1<=c)(hc2:c<=100)(hm:gr.length<=30)(hp:ts.length ^ gr.length<=1000000)(hz:ds.length+gr.length*(ts.length*putsQ ts.length gr.length)<=1000000)(hq:q<ways ts gr c b gr.length 0 (List.replicate (c+2) none)) :
  ∃ds' t,pathW ts gr c b gr.length 0 (List.replicate (c+2) none) q=some t/\r_Ways_numbers_by [.ref n,.int q] S=.ok (.lst (t.map D.int)) (S.set n (wOb (.tup (ts.map tileD)) (.lst (gr.map oD)) (.tup [.int r,.int c]) b ds')):=by
 have e1:=run_first_seam W hc2
 have m1:=W.meth "first_seam" (by decide +kernel)
 obtain ⟨ρ',S',e2,t,s,q',ds',x5,x6,x7,rfl,rfl,M',z',hs,ht',hq',hpath⟩:=forD_relS (tg:=.one 5) (body:=b_Ways_numbers_by_2) (ds:=rangeD 0 (gr.length:Int)) (fun k ρ S'=>∃(t:List Int) (s:Z4) (q':Nat) (ds':List (D×D)) (x5 x6 x7:Option (Bool×D)),ρ=[some (false,.ref n),some (false,.int q),some (true,.lst (t.map D.int)),some (false,.int q'),some (false,seamD s),x5,x6,x7]/\S'=S.set n (wOb (.tup (ts.map tileD)) (.lst (gr.map oD)) (.tup [.int r,.int c]) b ds')/\Memo ts gr c b ds'/\ds'.length<=ds.length+k*(ts.length*putsQ ts.length gr.length)/\s.length=c+2/\t.length=k/\q'<ways ts gr c b (gr.length-k) k s/\(pathW ts gr c b (gr.length-k) k s q').map (t++·)=pathW ts gr c b gr.length 0 (List.replicate (c+2) none) q) (by
  rintro k d ρ S' hd ⟨t,s,q',ds',x5,x6,x7,rfl,rfl,M',z',hs,ht',hq',hpath⟩
  obtain ⟨hk,rfl⟩:=range_at hd
  obtain ⟨m,hmk⟩:∃m,gr.length-k=m+1:=⟨gr.length-k-1,by omega⟩
  rw [hmk] at hq' hpath
  have W':=W.put ds'
  have C:CfOk n ts gr r c b m r_Ways_count_from:=cf_all ht h1 hg hc hc2 m 40 (by omega) (Nat.le_trans (Nat.pow_le_pow_right h1 (by omega)) hp)
  have ech:=run_choices (k:=k) (s:=s) W' ht hk hg hc hc2 hs
  obtain ⟨⟨p,q2⟩,esel⟩:=sel_some (w:=fun p=>ways ts gr c b m (k+1) p.2) (l:=chs ts gr c b k s) hq'
  obtain ⟨hpm,hq2⟩:=sel_mem esel
  have hcl:=chs_len (gr:=gr) (c:=c) (b:=b) (k:=k) (s:=s) h1
  have hmul:(chs ts gr c b k s).length*putsQ ts.length m<=ts.length*putsQ ts.length gr.length:=Nat.mul_le_mul hcl (puts_mono h1 (by omega))
  have hkz:(k+1)*(ts.length*putsQ ts.length gr.length)<=gr.length*(ts.length*putsQ ts.length gr.length):=Nat.mul_le_mul_right _ hk
  have hk1:(k+1)*(ts.length*putsQ ts.length gr.length)=k*(ts.length*putsQ ts.length gr.length)+ts.length*putsQ ts.length gr.length:=by rw [Nat.add_mul,Nat.one_mul]
  obtain ⟨ds2,y6,y7,e3,M2,z2⟩:=by_in (s1:=some (false,.int q)) (N:=t.map D.int) C (by omega) (by rw [List.length_map];omega) (chs ts gr c b k s) q' _ ds' (some (false,seamD s)) x6 x7 (chs_seam hc hs) esel W' M' (by omega)
  rw [List.set_set] at e3
  have mo:=W'.meth "choices" (by decide +kernel)
  refine ⟨_,_,_,rfl,?_,t++[p.1],p.2,q2,ds2,some (false,.int k),y6,y7,rfl,rfl,M2,by omega,chs_seam hc hs p hpm,by rw [List.length_append,ht'];rfl,by rw [show gr.length-(k+1)=m by omega];exact hq2,?_⟩
  ·have em:(t++[p.1]).map D.int=t.map D.int++[D.int p.1]:=by rw [List.map_append];rfl
   rw [em]
   generalize wOb (.tup (ts.map tileD)) (.lst (gr.map oD)) (.tup [.int r,.int c]) b ds'=ob at *
   generalize wOb (.tup (ts.map tileD)) (.lst (gr.map oD)) (.tup [.int r,.int c]) b ds2=ob2 at *
   generalize (chs ts gr c b k s).map chD=cs at *
   generalize seamD s=sd at *
   generalize seamD p.2=sp at *
   simp [b_Ways_numbers_by_2,mo,ech,e3]
  ·rw [<-hpath,show gr.length-(k+1)=m by omega]
   show _=Option.map (t++·) ((selW (fun p=>ways ts gr c b m (k+1) p.2) (chs ts gr c b k s) q').bind fun p=>(pathW ts gr c b m (k+1) p.1.2 p.2).map (p.1.1::·))
   rw [esel]
   show _=Option.map (t++·) ((pathW ts gr c b m (k+1) p.2 q2).map (p.1::·))
   cases pathW ts gr c b m (k+1) p.2 q2 with
   | none=>rfl
   | some u=>simp)
  (ρ:=[some (false,.ref n),some (false,.int q),some (true,.lst []),some (false,.int q),some (false,seamD (List.replicate (c+2) none)),none,none,none]) (S:=S) ⟨[],List.replicate (c+2) none,q,ds,none,none,none,rfl,(set_self W.at_).symm,M,by omega,List.length_replicate ..,rfl,hq,by
   show Option.map (fun x=>[]++x) (pathW ts gr c b gr.length 0 _ q)=_
   cases pathW ts gr c b gr.length 0 (List.replicate (c+2) none) q<;>rfl⟩
 have hL:(rangeD 0 (gr.length:Int)).length=gr.length:=by unfold rangeD;simp
 rw [hL,Nat.sub_self] at hpath
 have hpath':pathW ts gr c b gr.length 0 (List.replicate (c+2) none) q=some t:=by
  rw [<-hpath]
  show some (t++[])=some t
  rw [List.append_nil]
 refine ⟨ds',t,hpath',?_⟩
 have hgl:-1000000<=(gr.length:Int)/\(gr.length:Int)<=1000000:=by omega
 have eg:=W.ground
 generalize wOb (.tup (ts.map tileD)) (.lst (gr.map oD)) (.tup [.int r,.int c]) b ds'=ob at *
 generalize seamD (List.replicate (c+2) none)=sd at *
 generalize t.map D.int=td at *
 simp [r_Ways_numbers_by,v_run,f_Ways_numbers_by,m1,e1,eg,hgl,e2]
end
end S2
namespace S2
open PySem
open L2 hiding D
def xsT(ts:Z2)(c:Nat)(o:Option Int)(t:List Int):List Int:=(numAll ts).filter fun x=>okO o x&&fitT ts c t x
def sufs(ts:Z2)(gr:Z4)(c:Nat):Nat->List Int->List (List Int)
 | 0,_=>[[]]
 | m+1,t=>(xsT ts c (gr.getD t.length none) t).flatMap fun x=>(sufs ts gr c m (t++[x])).map (x::·)
theorem flat_congr{α β:Type}{f g:α->List β}:∀{l:List α},(∀x∈l,f x=g x)->l.flatMap f=l.flatMap g
 | [],_=>rfl
 | x::l,h=>by rw [List.flatMap_cons,List.flatMap_cons,h x List.mem_cons_self,flat_congr fun y hy=>h y (List.mem_cons_of_mem _ hy)]
section
variable{ts:Z2}{gr:Z4}{c:Nat}
theorem sufs_len:∀m t,(sufs ts gr c m t).length=extN ts gr c m t
 | 0,_=>rfl
 | m+1,t=>by
  show ((xsT ts c (gr.getD t.length none) t).flatMap _).length=((nextF ts c (gr.getD t.length none) t).map (extN ts gr c m)).sum
  unfold nextF
  rw [List.length_flatMap,List.map_map]
  congr 1
  apply List.map_congr_left
  intro x _
  show ((sufs ts gr c m (t++[x])).map (x::·)).length=extN ts gr c m (t++[x])
  rw [List.length_map,sufs_len m]
theorem fills_sufs:∀m k,fillsF ts gr c (k+m)=(fillsF ts gr c k).flatMap fun t=>(sufs ts gr c m t).map (t++·)
 | 0,k=>by
  show fillsF ts gr c k=_
  generalize fillsF ts gr c k=F
  induction F with
  | nil=>rfl
  | cons t F ih=>rw [List.flatMap_cons,<-ih];simp [sufs]
 | m+1,k=>by
  rw [show k+(m+1)=(k+1)+m by omega,fills_sufs m (k+1)]
  show ((fillsF ts gr c k).flatMap (nextF ts c (gr.getD k none))).flatMap _=_
  rw [List.flatMap_assoc]
  apply flat_congr
  intro t ht
  have hl:=((fillsF_ok k).mem t ht).1
  show ((((numAll ts).filter fun x=>okO (gr.getD k none) x&&fitT ts c t x).map fun x=>t++[x]).flatMap _)=((xsT ts c (gr.getD t.length none) t).flatMap fun x=>(sufs ts gr c m (t++[x])).map (x::·)).map (t++·)
  rw [hl,List.flatMap_map,List.map_flatMap]
  apply flat_congr
  intro x _
  rw [List.map_map]
  apply List.map_congr_left
  intro u _
  simp
theorem fills_all{L:Nat}:fillsF ts gr c L=sufs ts gr c L []:=by
 have:=fills_sufs (ts:=ts) (gr:=gr) (c:=c) L 0
 rw [Nat.zero_add] at this
 rw [this]
 simp [fillsF]
theorem path_sufs(hc:1<=c)(hg:∀o∈gr,∀x,o=some x->0<=x/\x<ts.length):∀m t s q,SeamOk ts gr.length c t s->t.length+m=gr.length->q<ways ts gr c false m t.length s->pathW ts gr c false m t.length s q=(sufs ts gr c m t)[q]?
 | 0,_,_,q,_,_,hq=>by
  have hq':q<1:=hq
  rw [show q=0 by omega];rfl
 | m+1,t,s,q,h,hl,hq=>by
  have hk:t.length<gr.length:=by omega
  have ho:∀x,gr.getD t.length none=some x->0<=x/\x<ts.length:=by
   rw [List.getD_eq_getElem?_getD,List.getElem?_eq_getElem hk]
   exact hg _ (List.getElem_mem hk)
  have ex:(numO ts (gr.getD t.length none)).filter (fitO ts c false t.length s)=xsT ts c (gr.getD t.length none) t:=by
   unfold xsT
   rw [num_filter ho]
   congr 1
   funext x
   exact fit_seam h hc hk
  have wx:∀x,ways ts gr c false m (t.length+1) (behO ts gr.length c false t.length s x)=(sufs ts gr c m (t++[x])).length:=by
   intro x
   have:=ways_ext hc hg m (t++[x]) _ (h.next (x:=x) hc) (by rw [List.length_append,List.length_singleton];omega)
   rw [List.length_append,List.length_singleton] at this
   rw [this,sufs_len]
  show ((selW (fun p=>ways ts gr c false m (t.length+1) p.2) (chs ts gr c false t.length s) q).bind fun p=>(pathW ts gr c false m (t.length+1) p.1.2 p.2).map (p.1.1::·))=((xsT ts c (gr.getD t.length none) t).flatMap fun x=>(sufs ts gr c m (t++[x])).map (x::·))[q]?
  rw [flat_sel]
  unfold chs
  rw [ex,sel_map]
  have ec:=sel_congr (w:=fun x=>ways ts gr c false m (t.length+1) (behO ts gr.length c false t.length s x)) (w':=fun x=>((sufs ts gr c m (t++[x])).map (x::·)).length) (xsT ts c (gr.getD t.length none) t) (fun x _=>by rw [List.length_map];exact wx x) q
  show ((selW (fun x=>ways ts gr c false m (t.length+1) (behO ts gr.length c false t.length s x)) (xsT ts c (gr.getD t.length none) t) q).map fun p=>((p.1,behO ts gr.length c false t.length s p.1),p.2)).bind _=_
  rw [ec]
  cases hs:selW (fun x=>((sufs ts gr c m (t++[x])).map (x::·)).length) (xsT ts c (gr.getD t.length none) t) q with
  | none=>rfl
  | some p =>
   obtain ⟨x,q'⟩:=p
   obtain ⟨_,hq2⟩:=sel_mem hs
   rw [List.length_map] at hq2
   show (pathW ts gr c false m (t.length+1) (behO ts gr.length c false t.length s x) q').map (x::·)=((sufs ts gr c m (t++[x])).map (x::·))[q']?
   have ih:=path_sufs hc hg m (t++[x]) _ q' (h.next (x:=x) hc) (by rw [List.length_append,List.length_singleton];omega) (by
    rw [List.length_append,List.length_singleton,wx];exact hq2)
   rw [List.length_append,List.length_singleton] at ih
   rw [ih,List.getElem?_map]
end
theorem path_fills{ts:Z2}{r c:Nat}{g:Z1}{q:Nat}(hc:1<=c)(hg:InT ts g)(hq:q<(fillsG ts r c g).length):pathW ts (groundL r c g) c false (r*c) 0 (List.replicate (c+2) none) q=(fillsG ts r c g)[q]?:=by
 have hw:ways ts (groundL r c g) c false (r*c) 0 (List.replicate (c+2) none)=(fillsG ts r c g).length:=ways_fills hc hg
 have:=path_sufs (ts:=ts) (gr:=groundL r c g) (c:=c) hc (ground_in hg) (r*c) [] (List.replicate (c+2) none) q (by rw [ground_len];exact SeamOk.first) (by rw [ground_len];simp) (by show q<ways ts (groundL r c g) c false (r*c) 0 _;rw [hw];exact hq)
 unfold fillsG
 rw [fills_all]
 exact this
def wholeG(c:Nat)(t:List Int):Nat->Nat->Option Int:=fun i j=>some (t.getD (i*c+j) 0)
theorem cut_row{t:List Int}{r c i:Nat}(hl:t.length=r*c)(hi:i<r):cutD (t.map D.int) (some ((i:Int)*(c:Int))) (some (((i:Int)+1)*(c:Int)))=rowL c (wholeG c t i):=by
 have h1:i*c+c<=r*c:=by
  have:=Nat.mul_le_mul_right c (show i+1<=r by omega)
  rw [Nat.succ_mul] at this;exact this
 unfold cutD
 rw [show (i:Int)*(c:Int)=((i*c:Nat):Int) by rw [Int.natCast_mul],show ((i:Int)+1)*(c:Int)=((i*c+c:Nat):Int) by rw [Int.add_mul,Int.one_mul,Int.natCast_add,Int.natCast_mul],HT.sIx_nat,HT.sIx_nat,List.length_map,hl]
 rw [Nat.min_eq_left h1,Nat.min_eq_left (show i*c<=r*c by omega),show i*c+c-i*c=c by omega]
 apply List.ext_getElem?
 intro j
 rw [List.getElem?_take]
 by_cases hj:j<c
 ·rw [if_pos hj,List.getElem?_drop,rowL_get hj,List.getElem?_map,List.getElem?_eq_getElem (by omega)]
  simp [oD,wholeG,List.getD_eq_getElem?_getD,List.getElem?_eq_getElem (show i*c+j<t.length by omega)]
 ·rw [if_neg hj,List.getElem?_eq_none (by simp [rowL];omega)]
theorem run_in_rows{t:List Int}{r c:Nat}{S:Sto}(hl:t.length=r*c)(hc:c<=100)(hr:r<=100):r_in_rows [.lst (t.map D.int),.tup [.int r,.int c]] S=.ok (flr r c (wholeG c t)) S:=by
 have fc:fits64 (c:Int)=true:=f64_of (by omega) (by omega)
 have ec:=compD_all (tg:=.one 0) (elt:=eCall tupleD [(eSl (eBor 1) (some (eBin mulD (eBor 0) (eBin ixD (eBor 2) (eCon (.int 1))))) (some (eBin mulD (eBin addD (eBor 0) (eCon (.int 1))) (eBin ixD (eBor 2) (eCon (.int 1))))))]) (ρ0:=[none,some (false,.lst (t.map D.int)),some (false,.tup [.int r,.int c])]) (S:=S) (g:=fun d=>match d with | .int i=>rowD c (wholeG c t i.toNat) | _=>.non) (ds:=rangeD 0 (r:Int)) (by
  intro d hd
  obtain ⟨k,hk⟩:=List.getElem?_of_mem hd
  obtain ⟨hi,rfl⟩:=range_at hk
  refine ⟨_,rfl,?_⟩
  have e:=cut_row hl hi
  show _=Out.ok (D.tup (rowL c (wholeG c t ((k:Int).toNat)))) S
  rw [Int.toNat_natCast]
  generalize rowL c (wholeG c t k)=res at *
  generalize t.map D.int=td at *
  simp [fc,e])
 have er:(rangeD 0 (r:Int)).map (fun d=>match d with | .int i=>rowD c (wholeG c t i.toNat) | _=>.non)=flrL r c (wholeG c t):=by
  unfold rangeD flrL
  simp only [Int.sub_zero,Int.toNat_natCast,List.map_map]
  apply List.map_congr_left
  intro i _
  simp
 rw [er] at ec
 have hl2:(flrL r c (wholeG c t)).length<=100000:=by rw [flrL_len];omega
 have hr2:-1000000<=(r:Int)/\(r:Int)<=1000000:=by omega
 unfold flr
 generalize flrL r c (wholeG c t)=res at *
 generalize t.map D.int=td at *
 simp [r_in_rows,v_run,f_in_rows,hr2,ec,hl2]
end S2
namespace S2
open PySem
open L2 hiding D
section
variable{n:Nat}{ts:Z2}{gr:Z4}{r c:Nat}{b:Bool}{S:Sto}
theorem run_count_memo(W:WAt S n ts gr r c b [])(ht:TOk ts)(h1:1<=ts.length)(hg:∀o∈gr,∀x,o=some x->0<=x/\x<ts.length)(hc:1<=c)(hc2:c<=100)(hm:gr.length<=30)(hp:ts.length ^ gr.length<=1000000)(hq:putsQ ts.length gr.length<=1000000) :
  ∃ds',r_Ways_count_all [.ref n] S=.ok (.int (ways ts gr c b gr.length 0 (List.replicate (c+2) none))) (S.set n (wOb (.tup (ts.map tileD)) (.lst (gr.map oD)) (.tup [.int r,.int c]) b ds'))/\Memo ts gr c b ds'/\ds'.length<=putsQ ts.length gr.length:=by
 obtain ⟨ds',e,M,z,_⟩:=(cf_all (n:=n) (r:=r) (b:=b) ht h1 hg hc hc2 gr.length 40 (by omega) hp).run S [] 0 (List.replicate (c+2) none) W (fun k s d h=>by cases h) (by omega) (List.length_replicate ..) (by simpa using hq)
 refine ⟨ds',?_,M,by simpa using z⟩
 have e':r_Ways_count_from [.ref n,.int 0,seamD (List.replicate (c+2) none)] S=_:=e
 have e2:=run_first_seam W hc2
 have m1:=W.meth "count_from" (by decide +kernel)
 have m2:=W.meth "first_seam" (by decide +kernel)
 generalize wOb (.tup (ts.map tileD)) (.lst (gr.map oD)) (.tup [.int r,.int c]) b ds'=ob at *
 simp [r_Ways_count_all,v_run,f_Ways_count_all,m1,m2,e2,e']
theorem run_whole_by{q:Int}(W:WAt S n ts gr r c b [])(ht:TOk ts)(h1:1<=ts.length)(hg:∀o∈gr,∀x,o=some x->0<=x/\x<ts.length)(hc:1<=c)(hc2:c<=100)(hr:r<=100)(hrc:gr.length=r*c)(hm:gr.length<=30)(hp:ts.length ^ gr.length<=1000000)(hz:putsQ ts.length gr.length+gr.length*(ts.length*putsQ ts.length gr.length)<=1000000) :
  ∃S',r_Ways_whole_by [.ref n,.int q] S=(if 0<=q/\q<ways ts gr c b gr.length 0 (List.replicate (c+2) none) then .ok (flr r c (wholeG c ((pathW ts gr c b gr.length 0 (List.replicate (c+2) none) q.toNat).getD []))) S' else .exc "NoFill" S'):=by
 obtain ⟨ds',e1,M,z⟩:=run_count_memo W ht h1 hg hc hc2 hm hp (by omega)
 have m1:=W.meth "count_all" (by decide +kernel)
 by_cases h0:0<=q
 ·by_cases hN:q<ways ts gr c b gr.length 0 (List.replicate (c+2) none)
  ·obtain ⟨q',rfl⟩:=Int.eq_ofNat_of_zero_le h0
   have W':=W.put ds'
   have hq':q'<ways ts gr c b gr.length 0 (List.replicate (c+2) none):=by omega
   obtain ⟨ds2,t,et,e2⟩:=run_numbers_by (q:=q') W' M ht h1 hg hc hc2 hm hp (by omega) hq'
   rw [List.set_set] at e2
   have W2:=W.put ds2
   have es:=W2.size
   have m2:=W'.meth "numbers_by" (by decide +kernel)
   have htl:t.length=gr.length:=by
    have:∀m k s q t,pathW ts gr c b m k s q=some t->t.length=m:=by
     intro m
     induction m with
     | zero=>intro k s q t h;cases h;rfl
     | succ m ih =>
      intro k s q t h
      unfold pathW at h
      cases hs:selW (fun p=>ways ts gr c b m (k+1) p.2) (chs ts gr c b k s) q with
      | none=>rw [hs] at h;cases h
      | some p =>
       rw [hs] at h
       cases hp:pathW ts gr c b m (k+1) p.1.2 p.2 with
       | none =>
        have h':(pathW ts gr c b m (k+1) p.1.2 p.2).map (p.1.1::·)=some t:=h
        rw [hp] at h';cases h'
       | some u =>
        have h':(pathW ts gr c b m (k+1) p.1.2 p.2).map (p.1.1::·)=some t:=h
        rw [hp] at h';cases h'
        rw [List.length_cons,ih _ _ _ _ hp]
    exact this _ _ _ _ _ et
   have er:=run_in_rows (t:=t) (r:=r) (c:=c) (S:=S.set n (wOb (.tup (ts.map tileD)) (.lst (gr.map oD)) (.tup [.int r,.int c]) b ds2)) (by omega) hc2 hr
   refine ⟨S.set n (wOb (.tup (ts.map tileD)) (.lst (gr.map oD)) (.tup [.int r,.int c]) b ds2),?_⟩
   rw [if_pos ⟨h0,hN⟩,Int.toNat_natCast,et]
   show _=Out.ok (flr r c (wholeG c t)) _
   have hlt:q'<ways ts gr c b gr.length 0 (List.replicate (c+2) none):=hq'
   generalize ways ts gr c b gr.length 0 (List.replicate (c+2) none)=ww at *
   generalize wOb (.tup (ts.map tileD)) (.lst (gr.map oD)) (.tup [.int r,.int c]) b ds'=ob1 at *
   generalize wOb (.tup (ts.map tileD)) (.lst (gr.map oD)) (.tup [.int r,.int c]) b ds2=ob2 at *
   generalize flr r c (wholeG c t)=fl at *
   generalize t.map D.int=td at *
   simp [r_Ways_whole_by,v_run,f_Ways_whole_by,m1,e1,hlt,m2,e2,es,er]
  ·refine ⟨S.set n (wOb (.tup (ts.map tileD)) (.lst (gr.map oD)) (.tup [.int r,.int c]) b ds'),?_⟩
   rw [if_neg (fun z=>hN z.2)]
   generalize ways ts gr c b gr.length 0 (List.replicate (c+2) none)=ww at *
   generalize wOb (.tup (ts.map tileD)) (.lst (gr.map oD)) (.tup [.int r,.int c]) b ds'=ob1 at *
   simp [r_Ways_whole_by,v_run,f_Ways_whole_by,m1,e1,hN,h0]
 ·refine ⟨S,?_⟩
  rw [if_neg (fun z=>h0 z.1)]
  simp [r_Ways_whole_by,v_run,f_Ways_whole_by,h0]
end
theorem puts_le2(q m:Nat)(h:PutsOk q m):putsQ q m+m*(q*putsQ q m)<=1000000:=by
 have h1:=h.1
 have:m*(q*putsQ q m)<=m*(putsQ q m+q*putsQ q m):=Nat.mul_le_mul_left _ (Nat.le_add_left _ _)
 omega
theorem run_fill{ts:Z2}{r c:Nat}{g:Z1}(P:FP ts r c)(hg:InT ts g)(q:Int)(S:Sto) :
  ∃S',r_fill [.tup (ts.map tileD),flr r c g,.int q] S=(if 0<=q/\q<((fillsG ts r c g).length:Int) then .ok (flr r c (wholeG c ((fillsG ts r c g).getD q.toNat []))) S' else .exc "NoFill" S'):=by
 obtain ⟨b1,b2⟩:=puts_le ts.length (r*c) P.h4
 have b3:=puts_le2 ts.length (r*c) P.h4
 have r6:=P.r6
 have c6:=P.c6
 have e1:=run_ways (T:=.tup (ts.map tileD)) (b:=false) (S:=S) (g:=g) (c:=c) P.r1 (show r<=100 by omega) (show c<=100 by omega)
 have W:WAt (S++[wOb (.tup (ts.map tileD)) (.lst ((groundL r c g).map oD)) (.tup [.int r,.int c]) false []]) S.length ts (groundL r c g) r c false []:=⟨by rw [List.getElem?_append_right (Nat.le_refl _),Nat.sub_self];rfl⟩
 have gl:=ground_len (r:=r) (c:=c) (g:=g)
 have rc:=P.rc
 obtain ⟨S',e2⟩:=run_whole_by (q:=q) W P.ht P.h1 (ground_in hg) P.c1 (by omega) (by omega) gl (by omega) (by rw [gl];omega) (by rw [gl];exact b3)
 rw [gl] at e2
 have hw:ways ts (groundL r c g) c false (r*c) 0 (List.replicate (c+2) none)=(fillsG ts r c g).length:=ways_fills P.c1 hg
 rw [hw] at e2
 have m:=W.meth "whole_by" (by decide +kernel)
 refine ⟨S',?_⟩
 have ei:=run_whole_i (i:=q) (S:=S)
 by_cases h:0<=q/\q<((fillsG ts r c g).length:Int)
 ·rw [if_pos h] at e2 ⊢
  have hp:=path_fills (r:=r) (q:=q.toNat) P.c1 hg (by obtain ⟨x,y⟩:=h;omega)
  rw [hp,<-List.getD_eq_getElem?_getD] at e2
  generalize flr r c (wholeG c ((fillsG ts r c g).getD q.toNat []))=res at *
  generalize wOb (.tup (ts.map tileD)) (.lst ((groundL r c g).map oD)) (.tup [.int r,.int c]) false []=ob at *
  generalize flr r c g=fl at *
  simp [r_fill,v_run,f_fill,ei,e1,m,e2]
 ·rw [if_neg h] at e2 ⊢
  generalize wOb (.tup (ts.map tileD)) (.lst ((groundL r c g).map oD)) (.tup [.int r,.int c]) false []=ob at *
  generalize flr r c g=fl at *
  simp [r_fill,v_run,f_fill,ei,e1,m,e2]
end S2
namespace S2
open PySem
open L2 hiding D
def agN(gr:Z4)(k:Nat)(t:List Int):Bool:=(List.range k).all fun i=>okO (gr.getD i none) (t.getD i 0)
theorem agN_succ{gr:Z4}{k:Nat}{t:List Int}:agN gr (k+1) t=(agN gr k t&&okO (gr.getD k none) (t.getD k 0)):=by
 unfold agN
 rw [List.range_succ,List.all_append]
 simp
theorem agN_app{gr:Z4}{k:Nat}{t u:List Int}(h:k<=t.length):agN gr k (t++u)=agN gr k t:=by
 unfold agN
 rw [Bool.eq_iff_iff,List.all_eq_true,List.all_eq_true]
 have e:∀i∈List.range k,(t++u).getD i 0=t.getD i 0:=fun i hi=>by
  have:=List.mem_range.mp hi
  rw [List.getD_eq_getElem?_getD,List.getD_eq_getElem?_getD,List.getElem?_append_left (by omega)]
 constructor
 ·intro z i hi;have:=z i hi;rw [e i hi] at this;exact this
 ·intro z i hi;rw [e i hi];exact z i hi
theorem fills_filter{ts:Z2}{gr:Z4}{c:Nat}:∀k,fillsF ts gr c k=(fillsF ts [] c k).filter (agN gr k)
 | 0=>rfl
 | k+1=>by
  show (fillsF ts gr c k).flatMap _=((fillsF ts [] c k).flatMap _).filter _
  rw [fills_filter k]
  have hl:∀t∈fillsF ts [] c k,t.length=k:=fun t ht=>((fillsF_ok k).mem t ht).1
  generalize fillsF ts [] c k=F at hl
  have hn:([]:Z4).getD k none=none:=rfl
  rw [hn]
  induction F with
  | nil=>rfl
  | cons t F ih =>
   have ih':=ih fun u hu=>hl u (List.mem_cons_of_mem _ hu)
   have ht:=hl t List.mem_cons_self
   rw [List.flatMap_cons,List.filter_append,<-ih',List.filter_cons]
   have key:(nextF ts c none t).filter (agN gr (k+1))=if agN gr k t then nextF ts c (gr.getD k none) t else []:=by
    unfold nextF
    rw [List.filter_map]
    have ef:(agN gr (k+1)∘fun x=>t++[x])=fun x=>agN gr k t&&okO (gr.getD k none) x:=by
     funext x
     show agN gr (k+1) (t++[x])=_
     rw [agN_succ,agN_app (by omega)]
     have:(t++[x]).getD k 0=x:=by rw [List.getD_eq_getElem?_getD,List.getElem?_append_right (by omega),ht];simp
     rw [this]
    rw [ef,List.filter_filter]
    cases ha:agN gr k t with
    | true =>
     simp only [Bool.true_and,if_true]
     rfl
    | false =>
     have:∀l:List Int,l.filter (fun a=>(false&&okO (gr.getD k none) a)&&(okO none a&&fitT ts c t a))=[]:=by
      intro l;rw [List.filter_eq_nil_iff];intro a _;simp
     rw [this];rfl
   rw [key]
   cases agN gr k t with
   | true=>simp only [if_true,List.flatMap_cons]
   | false=>simp
def allF(ts:Z2)(r c:Nat):List (List Int):=fillsF ts [] c (r*c)
def agG(r c:Nat)(g:Z1)(t:List Int):Bool:=agN (groundL r c g) (r*c) t
theorem fillsG_filter{ts:Z2}{r c:Nat}{g:Z1}:fillsG ts r c g=(allF ts r c).filter (agG r c g):=fills_filter _
theorem pairs_get{r c:Nat}(hc:1<=c):∀{k:Nat},k<r*c->(pairsL r c)[k]?=some (k / c,k % c):=by
 induction r with
 | zero=>intro k h;omega
 | succ r ih =>
  intro k h
  have hl:(pairsL r c).length=r*c:=by
   have:=ground_len (r:=r) (c:=c) (g:=fun _ _=>none)
   rw [ground_pairs,List.length_map] at this;exact this
  have e:pairsL (r+1) c=pairsL r c++(List.range c).map fun j=>(r,j):=by
   unfold pairsL;rw [List.range_succ,List.flatMap_append];simp
  rw [e]
  by_cases z:k<r*c
  ·rw [List.getElem?_append_left (by omega)];exact ih z
  ·rw [List.getElem?_append_right (by omega),hl,List.getElem?_map]
   have h2:k<r*c+c:=by rw [Nat.succ_mul] at h;exact h
   rw [List.getElem?_range (by omega)]
   have hd:k / c=r:=by
    rw [Nat.div_eq_iff (by omega)]
    have:r*c=c*r:=Nat.mul_comm _ _
    constructor<;>first | omega | (rw [Nat.mul_comm];omega) | skip
    all_goals omega
   have hm:k % c=k-r*c:=by
    have:=Nat.div_add_mod k c
    rw [hd] at this
    rw [Nat.mul_comm] at this
    omega
   rw [hd,hm];rfl
theorem ground_get{r c k:Nat}{g:Z1}(hc:1<=c)(h:k<r*c):(groundL r c g).getD k none=g (k / c) (k % c):=by
 rw [ground_pairs,List.getD_eq_getElem?_getD,List.getElem?_map,pairs_get hc h];rfl
theorem div_lt'{r c k:Nat}(hc:1<=c)(h:k<r*c):k / c<r:=Nat.div_lt_of_lt_mul (by rw [Nat.mul_comm];exact h)
theorem ij_lt{r c i j:Nat}(hi:i<r)(hj:j<c):i*c+j<r*c:=by
 have:=Nat.mul_le_mul_right c (show i+1<=r by omega)
 rw [Nat.succ_mul] at this;omega
theorem ij_div{c i j:Nat}(hj:j<c):(i*c+j) / c=i/\(i*c+j) % c=j:=by
 have hc:0<c:=by omega
 constructor
 ·rw [Nat.mul_comm,Nat.mul_add_div hc,Nat.div_eq_of_lt hj,Nat.add_zero]
 ·rw [Nat.mul_comm,Nat.mul_add_mod,Nat.mod_eq_of_lt hj]
theorem agG_iff{r c:Nat}{g:Z1}{t:List Int}(hc:1<=c):agG r c g t=true↔∀i j,i<r->j<c->okO (g i j) (t.getD (i*c+j) 0)=true:=by
 unfold agG agN
 rw [List.all_eq_true]
 constructor
 ·intro h i j hi hj
  have:=h (i*c+j) (List.mem_range.mpr (ij_lt hi hj))
  rw [ground_get hc (ij_lt hi hj),(ij_div hj).1,(ij_div hj).2] at this
  exact this
 ·intro h k hk
  have hk:=List.mem_range.mp hk
  rw [ground_get hc hk]
  have:=h (k / c) (k % c) (div_lt' hc hk) (Nat.mod_lt _ hc)
  rw [Nat.mul_comm,Nat.div_add_mod] at this
  exact this
theorem okO_iff{o:Option Int}{x:Int}:okO o x=true↔o=none\/o=some x:=by
 cases o with
 | none=>simp [okO]
 | some y=>simp [okO]
structure RtL(ts:Z2)(c k:Nat)(t:List Int):Prop where
 len:t.length=k
 inr:InR ts t
 fit:∀i,i<k->fitT ts c (t.take i) (t.getD i 0)=true
theorem mem_numAll{ts:Z2}{x:Int}:x∈numAll ts↔0<=x/\x<ts.length:=by
 unfold numAll
 rw [List.mem_map]
 constructor
 ·rintro ⟨i,hi,rfl⟩
  have:=List.mem_range.mp hi
  omega
 ·intro h
  exact ⟨x.toNat,List.mem_range.mpr (by omega),by omega⟩
theorem mem_fills{ts:Z2}{c:Nat}:∀{k:Nat} {t:List Int},t∈fillsF ts [] c k↔RtL ts c k t
 | 0,t=>by
  constructor
  ·intro h
   rw [List.mem_singleton.mp h]
   exact ⟨rfl,fun x hx=>(List.not_mem_nil hx).elim,fun i hi=>by omega⟩
  ·intro h
   rw [List.eq_nil_of_length_eq_zero h.len]
   exact List.mem_singleton.mpr rfl
 | k+1,t=>by
  show t∈(fillsF ts [] c k).flatMap _↔_
  rw [List.mem_flatMap]
  constructor
  ·rintro ⟨u,hu,ht⟩
   have R:=mem_fills.mp hu
   unfold nextF at ht
   obtain ⟨x,hx,rfl⟩:=List.mem_map.mp ht
   obtain ⟨h1,h2⟩:=List.mem_filter.mp hx
   rw [Bool.and_eq_true] at h2
   have hx:=mem_numAll.mp h1
   refine ⟨by rw [List.length_append,R.len];rfl,fun y hy=>?_,fun i hi=>?_⟩
   ·rcases List.mem_append.mp hy with hy | hy
    ·exact R.inr y hy
    ·rw [List.mem_singleton.mp hy];exact hx
   ·by_cases z:i<k
    ·have e1:(u++[x]).take i=u.take i:=List.take_append_of_le_length (by rw [R.len];omega)
     have e2:(u++[x]).getD i 0=u.getD i 0:=by
      rw [List.getD_eq_getElem?_getD,List.getD_eq_getElem?_getD,List.getElem?_append_left (by rw [R.len];exact z)]
     rw [e1,e2];exact R.fit i z
    ·have hi':i=u.length:=by rw [R.len];omega
     subst hi'
     have e1:(u++[x]).take u.length=u:=by simp
     have e2:(u++[x]).getD u.length 0=x:=by
      rw [List.getD_eq_getElem?_getD,List.getElem?_append_right (Nat.le_refl _)];simp
     rw [e1,e2];exact h2.2
  ·intro R
   have hk:k<t.length:=by rw [R.len];omega
   have e:t=t.take k++[t.getD k 0]:=by
    have h1:t.getD k 0=t[k]:=by rw [List.getD_eq_getElem?_getD,List.getElem?_eq_getElem hk];rfl
    rw [h1,List.take_append_getElem hk,List.take_of_length_le (by rw [R.len];omega)]
   refine ⟨t.take k,mem_fills.mpr ⟨by rw [List.length_take,R.len];omega,fun x hx=>R.inr x (List.mem_of_mem_take hx),fun i hi=>?_⟩,?_⟩
   ·have h1:(t.take k).take i=t.take i:=by rw [List.take_take,Nat.min_eq_left (by omega)]
    have h2:(t.take k).getD i 0=t.getD i 0:=by
     rw [List.getD_eq_getElem?_getD,List.getD_eq_getElem?_getD,List.getElem?_take_of_lt hi]
    rw [h1,h2];exact R.fit i (by omega)
   ·have:t.take k++[t.getD k 0]∈nextF ts c none (t.take k):=by
     unfold nextF
     refine List.mem_map.mpr ⟨t.getD k 0,List.mem_filter.mpr ⟨mem_numAll.mpr ?_,?_⟩,rfl⟩
     ·have h1:t.getD k 0=t[k]:=by rw [List.getD_eq_getElem?_getD,List.getElem?_eq_getElem hk];rfl
      rw [h1];exact R.inr _ (List.getElem_mem hk)
     ·rw [R.fit k (by omega)];rfl
    rw [<-e] at this
    exact this
theorem nodup_fills{ts:Z2}{c:Nat}:∀{k:Nat},(fillsF ts [] c k).Nodup
 | 0=>by simp [fillsF]
 | k+1=>by
  show ((fillsF ts [] c k).flatMap _).Nodup
  have hl:∀t∈fillsF ts [] c k,t.length=k:=fun t ht=>((fillsF_ok k).mem t ht).1
  have hn:=nodup_fills (ts:=ts) (c:=c) (k:=k)
  generalize fillsF ts [] c k=F at hl hn
  have hN:(numAll ts).Nodup:=by
   unfold numAll
   rw [List.nodup_iff_pairwise_ne,List.pairwise_map]
   refine List.Pairwise.imp ?_ List.nodup_range
   intro a b h;omega
  induction F with
  | nil=>simp
  | cons t F ih =>
   rw [List.nodup_cons] at hn
   rw [List.flatMap_cons,List.nodup_append]
   refine ⟨?_,ih (fun u hu=>hl u (List.mem_cons_of_mem _ hu)) hn.2,?_⟩
   ·unfold nextF
    rw [List.nodup_iff_pairwise_ne,List.pairwise_map]
    refine List.Pairwise.imp ?_ (List.Pairwise.filter _ (List.nodup_iff_pairwise_ne.mp hN))
    intro a b h z
    have:=List.append_cancel_left z
    simp at this
    exact h this
   ·intro a ha b hb e
    subst e
    unfold nextF at ha
    obtain ⟨x,_,rfl⟩:=List.mem_map.mp ha
    obtain ⟨u,hu,hb⟩:=List.mem_flatMap.mp hb
    unfold nextF at hb
    obtain ⟨y,_,e⟩:=List.mem_map.mp hb
    have:=List.append_inj_left' e rfl
    subst this
    exact hn.1 hu
theorem all_nodup{ts:Z2}{r c:Nat}:(allF ts r c).Nodup:=nodup_fills
theorem fillsG_nodup{ts:Z2}{r c:Nat}{g:Z1}:(fillsG ts r c g).Nodup:=by
 rw [fillsG_filter,List.nodup_iff_pairwise_ne];exact List.Pairwise.filter _ (List.nodup_iff_pairwise_ne.mp all_nodup)
theorem mem_fillsG{ts:Z2}{r c:Nat}{g:Z1}{t:List Int}:t∈fillsG ts r c g↔RtL ts c (r*c) t/\agG r c g t=true:=by
 rw [fillsG_filter,List.mem_filter]
 show t∈fillsF ts [] c (r*c)/\_↔_
 rw [mem_fills]
structure RtG(ts:Z2)(r c:Nat)(G:Nat->Nat->Int):Prop where
 inr:∀i j,i<r->j<c->0<=G i j/\G i j<ts.length
 east:∀i j,i<r->j+1<c->colT ts (G i j) 1=colT ts (G i (j+1)) 3
 south:∀i j,i+1<r->j<c->colT ts (G i j) 2=colT ts (G (i+1) j) 0
def tnG(c:Nat)(t:List Int)(i j:Nat):Int:=t.getD (i*c+j) 0
def lsG(r c:Nat)(G:Nat->Nat->Int):List Int:=(pairsL r c).map fun p=>G p.1 p.2
theorem pairs_len{r c:Nat}:(pairsL r c).length=r*c:=by
 have:=ground_len (r:=r) (c:=c) (g:=fun _ _=>none)
 rw [ground_pairs,List.length_map] at this;exact this
theorem lsG_len{r c:Nat}{G:Nat->Nat->Int}:(lsG r c G).length=r*c:=by unfold lsG;rw [List.length_map,pairs_len]
theorem lsG_get{r c k:Nat}{G:Nat->Nat->Int}(hc:1<=c)(h:k<r*c):(lsG r c G).getD k 0=G (k / c) (k % c):=by
 unfold lsG
 rw [List.getD_eq_getElem?_getD,List.getElem?_map,pairs_get hc h];rfl
theorem tnG_lsG{r c i j:Nat}{G:Nat->Nat->Int}(hi:i<r)(hj:j<c):tnG c (lsG r c G) i j=G i j:=by
 unfold tnG
 rw [lsG_get (by omega) (ij_lt hi hj),(ij_div hj).1,(ij_div hj).2]
theorem lsG_tnG{r c:Nat}{t:List Int}(hc:1<=c)(hl:t.length=r*c):lsG r c (tnG c t)=t:=by
 apply List.ext_getElem?
 intro k
 by_cases h:k<r*c
 ·have e1:(lsG r c (tnG c t))[k]?=some ((lsG r c (tnG c t)).getD k 0):=by
   rw [List.getD_eq_getElem?_getD,List.getElem?_eq_getElem (by rw [lsG_len];exact h)];rfl
  have e2:t[k]?=some (t.getD k 0):=by
   rw [List.getD_eq_getElem?_getD,List.getElem?_eq_getElem (by omega)];rfl
  rw [e1,e2,lsG_get hc h]
  unfold tnG
  rw [Nat.mul_comm,Nat.div_add_mod]
 ·rw [List.getElem?_eq_none (by rw [lsG_len];omega),List.getElem?_eq_none (by omega)]
theorem lsG_congr{r c:Nat}{G G':Nat->Nat->Int}(h:∀i j,i<r->j<c->G i j=G' i j):lsG r c G=lsG r c G':=by
 unfold lsG
 apply List.map_congr_left
 intro p hp
 obtain ⟨h1,h2⟩:=pairs_mem hp
 exact h _ _ h1 h2
theorem take_getD{t:List Int}{i j:Nat}(h:j<i):(t.take i).getD j 0=t.getD j 0:=by
 rw [List.getD_eq_getElem?_getD,List.getD_eq_getElem?_getD,List.getElem?_take_of_lt h]
theorem take_last{t:List Int}{i:Nat}(h:i<t.length)(h0:0<i):(t.take i).getLastD 0=t.getD (i-1) 0:=by
 rw [List.getLastD_eq_getLast?,List.getLast?_eq_getElem?,List.length_take,Nat.min_eq_left (by omega),List.getElem?_take_of_lt (by omega),List.getD_eq_getElem?_getD]
theorem fit_take{ts:Z2}{r c i j:Nat}{t:List Int}(hc:1<=c)(hl:t.length=r*c)(hi:i<r)(hj:j<c):fitT ts c (t.take (i*c+j)) (t.getD (i*c+j) 0)=true↔((0<j->colT ts (tnG c t i (j-1)) 1=colT ts (tnG c t i j) 3)/\(0<i->colT ts (tnG c t (i-1) j) 2=colT ts (tnG c t i j) 0)):=by
 have hk:=ij_lt hi hj
 have e1:(t.take (i*c+j)).length=i*c+j:=by rw [List.length_take];omega
 unfold fitT
 rw [decide_eq_true_iff,e1,(ij_div hj).2]
 have a:0<j->(t.take (i*c+j)).getLastD 0=tnG c t i (j-1):=fun h=>by
  rw [take_last (by omega) (by omega)]
  unfold tnG
  congr 1;omega
 have hmul:0<i->(i-1)*c+c=i*c:=fun h=>by
  have:i=(i-1)+1:=by omega
  conv=>rhs;rw [this,Nat.succ_mul]
 have b:0<i->(t.take (i*c+j)).getD (i*c+j-c) 0=tnG c t (i-1) j:=fun h=>by
  have:=hmul h
  rw [take_getD (by omega)]
  unfold tnG
  congr 1;omega
 have cc:c<=i*c+j↔0<i:=by
  constructor
  ·intro h
   rcases Nat.eq_zero_or_pos i with z | z
   ·subst z;omega
   ·exact z
  ·intro h;have:=hmul h;omega
 rw [cc]
 constructor
 ·rintro ⟨x,y⟩
  exact ⟨fun h=>by rw [<-a h];exact x h,fun h=>by rw [<-b h];exact y h⟩
 ·rintro ⟨x,y⟩
  exact ⟨fun h=>by rw [a h];exact x h,fun h=>by rw [b h];exact y h⟩
theorem rtL_iff{ts:Z2}{r c:Nat}{t:List Int}(hc:1<=c):RtL ts c (r*c) t↔t.length=r*c/\RtG ts r c (tnG c t):=by
 constructor
 ·intro R
  have key:∀i j,i<r->j<c->_:=fun i j hi hj=>(fit_take hc R.len hi hj).mp (R.fit _ (ij_lt hi hj))
  refine ⟨R.len,⟨fun i j hi hj=>?_,fun i j hi hj=>?_,fun i j hi hj=>?_⟩⟩
  ·have hk:=ij_lt hi hj
   have e:tnG c t i j=t[i*c+j]'(by rw [R.len];exact hk):=by
    unfold tnG;rw [List.getD_eq_getElem?_getD,List.getElem?_eq_getElem (by rw [R.len];exact hk)];rfl
   rw [e];exact R.inr _ (List.getElem_mem _)
  ·exact (key i (j+1) hi hj).1 (by omega)
  ·exact (key (i+1) j hi hj).2 (by omega)
 ·rintro ⟨hl,G⟩
  refine ⟨hl,fun x hx=>?_,fun k hk=>?_⟩
  ·obtain ⟨k,hk,rfl⟩:=List.mem_iff_getElem.mp hx
   have hk':k<r*c:=by omega
   have:=G.inr (k / c) (k % c) (div_lt' hc hk') (Nat.mod_lt _ hc)
   unfold tnG at this
   rw [Nat.mul_comm,Nat.div_add_mod,List.getD_eq_getElem?_getD,List.getElem?_eq_getElem hk] at this
   exact this
  ·have hi:=div_lt' hc hk
   have hj:=Nat.mod_lt k hc
   have:=(fit_take (ts:=ts) hc hl hi hj).mpr ⟨fun h=>by have:=G.east (k / c) (k % c-1) hi (by omega);rw [show k % c-1+1=k % c by omega] at this;exact this,fun h=>by have:=G.south (k / c-1) (k % c) (by omega) hj;rw [show k / c-1+1=k / c by omega] at this;exact this⟩
   rw [Nat.mul_comm,Nat.div_add_mod] at this
   exact this
theorem RtG.congr{ts:Z2}{r c:Nat}{G G':Nat->Nat->Int}(h:∀i j,i<r->j<c->G i j=G' i j)(R:RtG ts r c G):RtG ts r c G' where
 inr:=fun i j hi hj=>by rw [<-h i j hi hj];exact R.inr i j hi hj
 east:=fun i j hi hj=>by rw [<-h i j hi (by omega),<-h i (j+1) hi hj];exact R.east i j hi hj
 south:=fun i j hi hj=>by rw [<-h i j (by omega) hj,<-h (i+1) j hi hj];exact R.south i j hi hj
theorem mem_fillsR{ts:Z2}{r c:Nat}{g:Z1}{t:List Int}(hc:1<=c):t∈fillsG ts r c g↔t.length=r*c/\RtG ts r c (tnG c t)/\∀i j,i<r->j<c->g i j=none\/g i j=some (tnG c t i j):=by
 rw [mem_fillsG,rtL_iff hc,agG_iff hc,and_assoc]
 constructor
 ·rintro ⟨a,b,h⟩;exact ⟨a,b,fun i j hi hj=>okO_iff.mp (h i j hi hj)⟩
 ·rintro ⟨a,b,h⟩;exact ⟨a,b,fun i j hi hj=>okO_iff.mpr (h i j hi hj)⟩
theorem mem_fillsL{ts:Z2}{r c:Nat}{g:Z1}{G:Nat->Nat->Int}(hc:1<=c):lsG r c G∈fillsG ts r c g↔RtG ts r c G/\∀i j,i<r->j<c->g i j=none\/g i j=some (G i j):=by
 rw [mem_fillsR hc]
 have e:∀i j,i<r->j<c->tnG c (lsG r c G) i j=G i j:=fun i j hi hj=>tnG_lsG hi hj
 constructor
 ·rintro ⟨_,b,h⟩;exact ⟨b.congr e,fun i j hi hj=>by rw [<-e i j hi hj];exact h i j hi hj⟩
 ·rintro ⟨b,h⟩;exact ⟨lsG_len,b.congr (fun i j hi hj=>(e i j hi hj).symm),fun i j hi hj=>by rw [e i j hi hj];exact h i j hi hj⟩
end S2
namespace S2
open PySem
open L2 hiding D
section
variable{ts:Z2}{r c:Nat}{g h:Z1}
theorem fills_congr(e:∀i j,i<r->j<c->g i j=h i j):fillsG ts r c g=fillsG ts r c h:=by
 have:groundL r c g=groundL r c h:=by
  rw [ground_pairs,ground_pairs]
  apply List.map_congr_left
  intro p hp
  obtain ⟨h1,h2⟩:=pairs_mem hp
  exact e _ _ h1 h2
 unfold fillsG;rw [this]
theorem fills_sub(hc:1<=c)(l:LeG r c g h):fillsG ts r c h=(fillsG ts r c g).filter (agG r c h):=by
 rw [fillsG_filter,fillsG_filter,List.filter_filter]
 apply List.filter_congr
 intro t _
 cases ha:agG r c h t with
 | false=>rfl
 | true =>
  have:=(agG_iff hc).mp ha
  have:agG r c g t=true:=(agG_iff hc).mpr fun i j hi hj=>by
   rcases l i j hi hj with z | z
   ·rw [z];rfl
   ·rw [z];exact this i j hi hj
  rw [this];rfl
theorem fill_at(hc:1<=c){t:List Int}(ht:t∈fillsG ts r c g){i j:Nat}(hi:i<r)(hj:j<c):g i j=none\/g i j=some (tnG c t i j):=((mem_fillsR hc).mp ht).2.2 i j hi hj
theorem fill_inr(hc:1<=c){t:List Int}(ht:t∈fillsG ts r c g){i j:Nat}(hi:i<r)(hj:j<c):0<=tnG c t i j/\tnG c t i j<ts.length:=((mem_fillsR hc).mp ht).2.1.inr i j hi hj
theorem le_put{i j:Nat}{o:Option Int}(hg:g i j=none\/g i j=o):LeG r c g (putG g i j o):=fun a b _ _=>by
 unfold putG
 by_cases z:a=i/\b=j
 ·rw [if_pos z];obtain ⟨rfl,rfl⟩:=z;exact hg
 ·rw [if_neg z];exact .inr rfl
theorem fills_put(hc:1<=c){i j:Nat}{x:Int}(hi:i<r)(hj:j<c)(hg:g i j=none\/g i j=some x):fillsG ts r c (putG g i j (some x))=(fillsG ts r c g).filter fun t=>decide (tnG c t i j=x):=by
 rw [fills_sub hc (le_put hg)]
 apply List.filter_congr
 intro t ht
 rw [Bool.eq_iff_iff,agG_iff hc,decide_eq_true_iff]
 constructor
 ·intro z
  have:=z i j hi hj
  unfold putG at this
  rw [if_pos ⟨rfl,rfl⟩] at this
  rcases okO_iff.mp this with w | w
  ·cases w
  ·exact (Option.some.inj w).symm
 ·intro z a b ha hb
  unfold putG
  by_cases w:a=i/\b=j
  ·rw [if_pos w];obtain ⟨rfl,rfl⟩:=w
   exact okO_iff.mpr (.inr (by rw [<-z];rfl))
  ·rw [if_neg w];exact okO_iff.mpr (fill_at hc ht ha hb)
theorem filter_len_eq{α:Type}{p:α->Bool}:∀{l:List α},(l.filter p).length=l.length↔∀x∈l,p x=true
 | []=>by simp
 | x::l=>by
  have ih:=filter_len_eq (p:=p) (l:=l)
  have le:=List.length_filter_le p l
  rw [List.filter_cons]
  cases hp:p x with
  | true=>simp [hp,ih]
  | false =>
   simp only [Bool.false_eq_true,if_false,List.length_cons]
   constructor
   ·intro z;omega
   ·intro z;have:=z x List.mem_cons_self;rw [hp] at this;cases this
def frst(ts:Z2)(r c:Nat)(g:Z1):List Int:=(fillsG ts r c g).getD 0 []
def frcB(ts:Z2)(r c:Nat)(g:Z1)(i j:Nat):Bool:=(g i j).isNone&&!(fillsG ts r c g).isEmpty&&decide (∀t∈fillsG ts r c g,tnG c t i j=tnG c (frst ts r c g) i j)
def frcD(ts:Z2)(r c:Nat)(g:Z1):D->List D
 | .tup [.int i,.int j]=>if frcB ts r c g i.toNat j.toNat then [.tup [plD i.toNat j.toNat,.int (tnG c (frst ts r c g) i.toNat j.toNat)]] else []
 | _=>[]
theorem frc_pl{i j:Nat}:frcD ts r c g (plD i j)=if frcB ts r c g i j then [.tup [plD i j,.int (tnG c (frst ts r c g) i j)]] else []:=by
 show (if frcB ts r c g ((i:Int).toNat) ((j:Int).toNat) then _ else _)=_
 rw [Int.toNat_natCast,Int.toNat_natCast]
def forcedL(ts:Z2)(r c:Nat)(g:Z1):List D:=(plsL r c).flatMap (frcD ts r c g)
def wfG(ts:Z2)(r c:Nat)(g:Z1):Nat->Nat->Option Int:=fun i j=>if frcB ts r c g i j then some (tnG c (frst ts r c g) i j) else g i j
theorem forced_nil(h:fillsG ts r c g=[]):forcedL ts r c g=[]:=by
 unfold forcedL
 rw [List.flatMap_eq_nil_iff]
 intro d hd
 obtain ⟨i,j,_,_,rfl⟩:=pls_mem hd
 rw [frc_pl]
 have:frcB ts r c g i j=false:=by unfold frcB;rw [h];simp
 rw [this];rfl
theorem mem_forced{d:D}:d∈forcedL ts r c g↔∃i j,i<r/\j<c/\frcB ts r c g i j=true/\d=.tup [plD i j,.int (tnG c (frst ts r c g) i j)]:=by
 unfold forcedL
 rw [List.mem_flatMap]
 constructor
 ·rintro ⟨p,hp,hd⟩
  obtain ⟨i,j,hi,hj,rfl⟩:=pls_mem hp
  rw [frc_pl] at hd
  split at hd
  ·rename_i hb;exact ⟨i,j,hi,hj,hb,List.mem_singleton.mp hd⟩
  ·exact (List.not_mem_nil hd).elim
 ·rintro ⟨i,j,hi,hj,hb,rfl⟩
  refine ⟨_,pls_in hi hj,?_⟩
  rw [frc_pl,if_pos hb];exact List.mem_singleton.mpr rfl
theorem frcD_len{d:D}:(frcD ts r c g d).length<=1:=by
 unfold frcD
 split
 ·split<;>simp
 ·simp
def bareP(g:Z1):D->Bool | .tup [.int i,.int j]=>(g i.toNat j.toNat).isNone | _=>false
theorem bare_pl{i j:Nat}:bareP g (plD i j)=(g i j).isNone:=by
 show (g ((i:Int).toNat) ((j:Int).toNat)).isNone=_
 rw [Int.toNat_natCast,Int.toNat_natCast]
theorem non_oN{o:Option Int}:isNon (oD o)=o.isNone:=by cases o<;>rfl
theorem run_bare{S:Sto}(h1:1<=r)(hr:r<=100)(hc:c<=100):r_bare_places [flr r c g] S=.ok (.lst ((plsL r c).filter (bareP g))) S:=by
 have e1:=run_places (g:=g) (S:=S) (c:=c) h1 hr hc
 have e2:=compD_map (tg:=.one 0) (c:=eBin isnD (eFn r_number_at [(eVar 1),(eVar 0)]) (eCon .non)) (elt:=eVar 0) (ρ0:=[none,some (false,flr r c g)]) (S:=S) (g:=id) (p:=bareP g) (ds:=plsL r c) (by
  intro d hd
  obtain ⟨i,j,hi,hj,rfl⟩:=pls_mem hd
  have n1:=run_number (g:=g) (S:=S) hi hj
  refine ⟨_,rfl,?_,fun _=>rfl⟩
  rw [bare_pl,<-non_oN]
  generalize flr r c g=fg at *
  generalize plD i j=pp at *
  simp [n1])
 rw [List.map_id] at e2
 have hl:((plsL r c).filter (bareP g)).length<=100000:=by
  refine Nat.le_trans (List.length_filter_le _ _) ?_
  rw [pls_len]
  exact Nat.le_trans (Nat.mul_le_mul hr hc) (by decide)
 generalize (plsL r c).filter (bareP g)=res at *
 generalize flr r c g=fg at *
 simp [r_bare_places,v_run,f_bare_places,e1,e2,hl]
theorem tn_whole{t:List Int}{i j:Nat}:wholeG c t i j=some (tnG c t i j):=rfl
theorem run_tile_at{i j:Nat}{S:Sto}(h1:1<=r)(hi:i<r)(hj:j<c):r_tile_at [flr r c g,plD i j] S=.ok (oD (g i j)) S:=by
 have e1:=run_outside (g:=g) (S:=S) h1 hi hj
 have e2:=run_number (g:=g) (S:=S) hi hj
 generalize flr r c g=fg at *
 generalize plD i j=pp at *
 simp [r_tile_at,v_run,f_tile_at,e1,e2]
theorem eq_int{a b:Int}:eqD (.int a) (.int b)=some (.bl (decide (a=b))):=by
 simp [eqD,pyEq,D.py,PyData.eqv];rfl
theorem ne_int{a b:Int}:neD (.int a) (.int b)=some (.bl (!decide (a=b))):=by
 simp [neD,pyEq,D.py,PyData.eqv];rfl
theorem frst_mem(h:fillsG ts r c g≠[]):frst ts r c g∈fillsG ts r c g:=by
 unfold frst
 cases hf:fillsG ts r c g with
 | nil=>exact absurd hf h
 | cons a l=>simp
theorem frc_count(P:FP ts r c)(hne:fillsG ts r c g≠[]){i j:Nat}(hi:i<r)(hj:j<c)(hb:g i j=none):decide (((fillsG ts r c (putG g i j (some (tnG c (frst ts r c g) i j)))).length:Int)=((fillsG ts r c g).length:Int))=frcB ts r c g i j:=by
 unfold frcB
 have he:(fillsG ts r c g).isEmpty=false:=by cases hf:fillsG ts r c g with | nil=>exact absurd hf hne | cons _ _=>rfl
 rw [fills_put P.c1 hi hj (.inl hb),hb,he]
 simp only [Option.isNone_none,Bool.not_false,Bool.true_and]
 congr 1
 rw [Int.ofNat_inj,filter_len_eq]
 simp
theorem run_forced(P:FP ts r c)(hg:InT ts g)(S:Sto):∃S',r_forced [.tup (ts.map tileD),flr r c g] S=.ok (.lst (forcedL ts r c g)) S':=by
 obtain ⟨S1,e1⟩:=run_count P hg S
 have q1:=eq_int (a:=((fillsG ts r c g).length:Nat)) (b:=0)
 by_cases hne:fillsG ts r c g=[]
 ·rw [forced_nil hne]
  rw [hne] at e1
  refine ⟨S1,?_⟩
  have q:eqD (.int 0) (.int 0)=some (.bl true):=rfl
  generalize flr r c g=fl at *
  simp at e1
  simp [r_forced,v_run,f_forced,e1,q]
 ·have hlen:0<(fillsG ts r c g).length:=List.length_pos_iff.mpr hne
  obtain ⟨S2,e2⟩:=run_fill P hg 0 S1
  rw [if_pos ⟨by omega,by omega⟩] at e2
  have e2':r_fill [.tup (ts.map tileD),flr r c g,.int 0] S1=.ok (flr r c (wholeG c (frst ts r c g))) S2:=e2
  have e3:=run_bare (g:=g) (S:=S2) P.r1 (show r<=100 by have:=P.r6;omega) (show c<=100 by have:=P.c6;omega)
  have r6:=P.r6
  have c6:=P.c6
  have hfl:((plsL r c).filter (bareP g)).flatMap (frcD ts r c g)=forcedL ts r c g:=by
   unfold forcedL
   have:∀l:List D,(∀d∈l,∃i j,i<r/\j<c/\d=plD i j)->(l.filter (bareP g)).flatMap (frcD ts r c g)=l.flatMap (frcD ts r c g):=by
    intro l
    induction l with
    | nil=>intro _;rfl
    | cons d l ih =>
     intro hm
     obtain ⟨i,j,_,_,rfl⟩:=hm d List.mem_cons_self
     have ih':=ih fun d hd=>hm d (List.mem_cons_of_mem _ hd)
     rw [List.filter_cons,bare_pl,List.flatMap_cons]
     cases hb:g i j with
     | none=>simp only [Option.isNone_none,if_true,List.flatMap_cons,ih']
     | some x =>
      have:frcD ts r c g (plD i j)=[]:=by
       rw [frc_pl]
       have:frcB ts r c g i j=false:=by unfold frcB;rw [hb];rfl
       rw [this];rfl
      simp only [Option.isNone_some,Bool.false_eq_true,if_false,ih',this,List.nil_append]
   exact this _ fun d hd=>pls_mem hd
  have hmem:∀d∈(plsL r c).filter (bareP g),∃i j,i<r/\j<c/\d=plD i j/\g i j=none:=fun d hd=>by
   obtain ⟨h1,h2⟩:=List.mem_filter.mp hd
   obtain ⟨i,j,hi,hj,rfl⟩:=pls_mem h1
   rw [bare_pl] at h2
   exact ⟨i,j,hi,hj,rfl,Option.isNone_iff_eq_none.mp h2⟩
  have hfin:=frst_mem hne
  have hsm:((plsL r c).filter (bareP g)).length<=100:=by
   refine Nat.le_trans (List.length_filter_le _ _) ?_
   rw [pls_len];have:=P.rc;omega
  rw [<-hfl]
  generalize (plsL r c).filter (bareP g)=ps at *
  obtain ⟨ρ',S3,e4,x5,x6,rfl⟩:=forD_relS (tg:=.one 5) (body:=b_forced_1) (ds:=ps) (fun k ρ S=>∃x5 x6,ρ=[some (false,.tup (ts.map tileD)),some (false,flr r c g),some (false,.int ((fillsG ts r c g).length:Nat)),some (false,flr r c (wholeG c (frst ts r c g))),some (true,.lst ((ps.take k).flatMap (frcD ts r c g))),x5,x6]) (by
   rintro k d ρ S hd ⟨x5,x6,rfl⟩
   obtain ⟨i,j,hi,hj,rfl,hb⟩:=hmem d (List.mem_of_getElem? hd)
   have et:ps.take (k+1)=ps.take k++[plD i j]:=by
    rw [List.take_add_one,hd];rfl
   rw [et,List.flatMap_append,List.flatMap_singleton,frc_pl]
   have hL:((ps.take k).flatMap (frcD ts r c g)).length<=100000:=by
    have:=flat_lenG (g:=frcD ts r c g) (m:=1) (l:=ps.take k) fun d _=>frcD_len
    rw [List.length_take] at this
    omega
   have n1:=run_number (g:=wholeG c (frst ts r c g)) (S:=S) hi hj
   rw [tn_whole] at n1
   have hx:=fill_inr P.c1 hfin hi hj
   have w:=run_with_tile (ts:=ts) (g:=g) (o:=some (tnG c (frst ts r c g) i j)) (S:=S) (fun x hx'=>by cases hx';exact hx) P.r1 hi hj (by omega) (by omega)
   obtain ⟨S',hcn⟩:=run_count (g:=putG g i j (some (tnG c (frst ts r c g) i j))) P (put_in hg fun x hx'=>by cases hx';exact hx) S
   have q:=eq_int (a:=((fillsG ts r c (putG g i j (some (tnG c (frst ts r c g) i j)))).length:Nat)) (b:=((fillsG ts r c g).length:Nat))
   rw [frc_count P hne hi hj hb] at q
   refine ⟨_,[some (false,.tup (ts.map tileD)),some (false,flr r c g),some (false,.int ((fillsG ts r c g).length:Nat)),some (false,flr r c (wholeG c (frst ts r c g))),some (true,.lst ((ps.take k).flatMap (frcD ts r c g)++if frcB ts r c g i j then [.tup [plD i j,.int (tnG c (frst ts r c g) i j)]] else [])),some (false,plD i j),some (false,.int (tnG c (frst ts r c g) i j))],S',rfl,?_,_,_,rfl⟩
   have ho:oD (some (tnG c (frst ts r c g) i j))=.int (tnG c (frst ts r c g) i j):=rfl
   rw [ho] at n1 w
   generalize (ps.take k).flatMap (frcD ts r c g)=L at *
   generalize (fillsG ts r c (putG g i j (some (tnG c (frst ts r c g) i j)))).length=n2 at *
   generalize (fillsG ts r c g).length=n3 at *
   generalize flr r c (putG g i j (some (tnG c (frst ts r c g) i j)))=f1 at *
   generalize flr r c (wholeG c (frst ts r c g))=f2 at *
   generalize flr r c g=fl at *
   generalize tnG c (frst ts r c g) i j=xx at *
   generalize plD i j=pp at *
   cases hbb:frcB ts r c g i j with
   | true=>rw [hbb] at q;simp [b_forced_1,n1,w,hcn,q,hL]
   | false=>rw [hbb] at q;simp [b_forced_1,n1,w,hcn,q])
   (ρ:=[some (false,.tup (ts.map tileD)),some (false,flr r c g),some (false,.int ((fillsG ts r c g).length:Nat)),some (false,flr r c (wholeG c (frst ts r c g))),some (true,.lst []),none,none]) (S:=S2) ⟨none,none,rfl⟩
  rw [List.take_length] at e4
  refine ⟨S3,?_⟩
  rw [decide_eq_false (by omega)] at q1
  generalize ps.flatMap (frcD ts r c g)=res at *
  generalize (fillsG ts r c g).length=n3 at *
  generalize flr r c (wholeG c (frst ts r c g))=f2 at *
  generalize flr r c g=fl at *
  simp [r_forced,v_run,f_forced,e1,q1,e2',e3,e4]
theorem wf_in(P:FP ts r c)(hg:InT ts g):∃h,InT ts h/\(∀i j,i<r->j<c->h i j=wfG ts r c g i j):=by
 refine ⟨fun i j=>if i<r/\j<c then wfG ts r c g i j else none,?_,fun i j hi hj=>if_pos ⟨hi,hj⟩⟩
 intro i j x hx
 dsimp only at hx
 split at hx
 ·rename_i hij
  unfold wfG at hx
  split at hx
  ·rename_i hb
   cases hx
   have hne:fillsG ts r c g≠[]:=by
    intro z;unfold frcB at hb;rw [z] at hb;simp at hb
   exact fill_inr P.c1 (frst_mem hne) hij.1 hij.2
  ·exact hg i j x hx
 ·cases hx
def stW(h:Z1):D->Nat->Nat->Option Int | .tup [.tup [.int i,.int j],.int x]=>putG h i.toNat j.toNat (some x) | _=>h
theorem st_pl{i j:Nat}{x:Int}{h:Z1}:stW h (.tup [plD i j,.int x])=putG h i j (some x):=by
 show putG h ((i:Int).toNat) ((j:Int).toNat) (some x)=_
 rw [Int.toNat_natCast,Int.toNat_natCast]
theorem fold_st{X:Nat->Nat->Int}:∀(L:List D) (h:Z1),(∀d∈L,∃i j:Nat,d=.tup [plD i j,.int (X i j)])->∀i j,((D.tup [plD i j,.int (X i j)])∈L->(L.foldl stW h) i j=some (X i j))/\((D.tup [plD i j,.int (X i j)]) ∉ L->(L.foldl stW h) i j=h i j)
 | [],h,_,i,j=>⟨fun z=>(List.not_mem_nil z).elim,fun _=>rfl⟩
 | d::L,h,hm,i,j=>by
  obtain ⟨a,b,rfl⟩:=hm d List.mem_cons_self
  obtain ⟨h1,h2⟩:=fold_st L (putG h a b (some (X a b))) (fun d hd=>hm d (List.mem_cons_of_mem _ hd)) i j
  rw [List.foldl_cons,st_pl]
  by_cases z:D.tup [plD i j,.int (X i j)]∈L
  ·exact ⟨fun _=>h1 z,fun w=>absurd (List.mem_cons_of_mem _ z) w⟩
  ·have h3:=h2 z
   constructor
   ·intro w
    rcases List.mem_cons.mp w with w | w
    ·injection w with w
     injection w with w1 w2
     obtain ⟨rfl,rfl⟩:=pl_inj w1
     rw [h3];unfold putG;rw [if_pos ⟨rfl,rfl⟩]
    ·exact absurd w z
   ·intro w
    rw [h3];unfold putG
    rw [if_neg]
    rintro ⟨rfl,rfl⟩
    exact w List.mem_cons_self
theorem fold_wf{i j:Nat}(hi:i<r)(hj:j<c):((forcedL ts r c g).foldl stW g) i j=wfG ts r c g i j:=by
 obtain ⟨h1,h2⟩:=fold_st (X:=fun i j=>tnG c (frst ts r c g) i j) (forcedL ts r c g) g (fun d hd=>by
  obtain ⟨i,j,_,_,_,e⟩:=mem_forced.mp hd
  exact ⟨i,j,e⟩) i j
 unfold wfG
 cases hb:frcB ts r c g i j with
 | true=>exact h1 (mem_forced.mpr ⟨i,j,hi,hj,hb,rfl⟩)
 | false =>
  refine h2 fun z=>?_
  obtain ⟨a,b,_,_,hb',e⟩:=mem_forced.mp z
  injection e with e
  injection e with e1 e2
  obtain ⟨rfl,rfl⟩:=pl_inj e1
  rw [hb] at hb';cases hb'
theorem run_with_forced(P:FP ts r c)(hg:InT ts g)(S:Sto):∃S',r_with_forced [.tup (ts.map tileD),flr r c g] S=.ok (flr r c (wfG ts r c g)) S':=by
 obtain ⟨S1,e1⟩:=run_forced P hg S
 have r6:=P.r6
 have c6:=P.c6
 have hmem:∀d∈forcedL ts r c g,∃i j,i<r/\j<c/\frcB ts r c g i j=true/\d=.tup [plD i j,.int (tnG c (frst ts r c g) i j)]:=fun d hd=>mem_forced.mp hd
 have hwf:flr r c ((forcedL ts r c g).foldl stW g)=flr r c (wfG ts r c g):=flr_congr fun i j hi hj=>fold_wf hi hj
 rw [<-hwf]
 generalize forcedL ts r c g=L at *
 obtain ⟨ρ',S2,e2,x3,x4,rfl⟩:=forD_relS (tg:=.tup [3,4]) (body:=b_with_forced_1) (ds:=L) (fun k ρ S=>∃x3 x4,ρ=[some (false,.tup (ts.map tileD)),some (false,flr r c g),some (false,flr r c ((L.take k).foldl stW g)),x3,x4]) (by
  rintro k d ρ S hd ⟨x3,x4,rfl⟩
  obtain ⟨i,j,hi,hj,hb,rfl⟩:=hmem d (List.mem_of_getElem? hd)
  have hne:fillsG ts r c g≠[]:=by
   intro z;unfold frcB at hb;rw [z] at hb;simp at hb
  have hx:=fill_inr P.c1 (frst_mem hne) hi hj
  rw [List.take_add_one,hd,List.foldl_append]
  show ∃ρ1 ρ2 S2,_/\_/\∃x3 x4,ρ2=[_,_,some (false,flr r c (stW ((L.take k).foldl stW g) (.tup [plD i j,.int (tnG c (frst ts r c g) i j)]))),x3,x4]
  rw [st_pl]
  generalize (L.take k).foldl stW g=h at *
  have w:=run_with_tile (ts:=ts) (g:=h) (o:=some (tnG c (frst ts r c g) i j)) (S:=S) (fun x hx'=>by cases hx';exact hx) P.r1 hi hj (by omega) (by omega)
  refine ⟨_,_,S,rfl,?_,some (false,plD i j),some (false,.int (tnG c (frst ts r c g) i j)),rfl⟩
  have ho:oD (some (tnG c (frst ts r c g) i j))=.int (tnG c (frst ts r c g) i j):=rfl
  rw [ho] at w
  generalize flr r c (putG h i j (some (tnG c (frst ts r c g) i j)))=f1 at *
  generalize flr r c h=f2 at *
  generalize flr r c g=fl at *
  generalize tnG c (frst ts r c g) i j=xx at *
  generalize plD i j=pp at *
  simp [b_with_forced_1,w])
  (ρ:=[some (false,.tup (ts.map tileD)),some (false,flr r c g),some (false,flr r c g),none,none]) (S:=S1) ⟨none,none,rfl⟩
 rw [List.take_length] at e2
 refine ⟨S2,?_⟩
 generalize flr r c (L.foldl stW g)=f1 at *
 generalize flr r c g=fl at *
 simp [r_with_forced,v_run,f_with_forced,e1,e2]
def cntN(ts:Z2)(r c:Nat)(g:Z1)(i j:Nat)(x:Int):Nat:=((fillsG ts r c g).filter fun t=>decide (tnG c t i j=x)).length
def cntL(ts:Z2)(r c:Nat)(g:Z1)(i j:Nat):List D:=(List.range ts.length).map fun x:Nat=>D.int (cntN ts r c g i j x:Nat)
theorem cnt_other(hc:1<=c){i j:Nat}{x y:Int}(hi:i<r)(hj:j<c)(h:g i j=some y)(hxy:y≠x):cntN ts r c g i j x=0:=by
 unfold cntN
 rw [List.length_eq_zero_iff,List.filter_eq_nil_iff]
 intro t ht
 rcases fill_at hc ht hi hj with z | z
 ·rw [h] at z;cases z
 ·rw [h] at z
  have:=Option.some.inj z
  simp;omega
theorem run_counts_at(P:FP ts r c)(hg:InT ts g){i j:Nat}(hi:i<r)(hj:j<c)(S:Sto):∃S',r_counts_at [.tup (ts.map tileD),flr r c g,plD i j] S=.ok (.lst (cntL ts r c g i j)) S':=by
 have r6:=P.r6
 have c6:=P.c6
 have tl:=P.ht.le
 have e1:=run_tile_at (g:=g) (S:=S) P.r1 hi hj
 obtain ⟨ρ',S2,e2,x5,x6,rfl⟩:=forD_relS (tg:=.one 5) (body:=b_counts_at_1) (ds:=rangeD 0 (ts.length:Int)) (fun k ρ S=>∃x5 x6,ρ=[some (false,.tup (ts.map tileD)),some (false,flr r c g),some (false,plD i j),some (false,oD (g i j)),some (true,.lst ((List.range k).map fun x:Nat=>D.int (cntN ts r c g i j x:Nat))),x5,x6]) (by
  rintro k d ρ S hd ⟨x5,x6,rfl⟩
  obtain ⟨hk,rfl⟩:=range_at hd
  rw [List.range_succ,List.map_append]
  have hL:((List.range k).map fun x:Nat=>D.int (cntN ts r c g i j x:Nat)).length<=100000:=by simp;omega
  have hx:∀x,some (k:Int)=some x->0<=x/\x<ts.length:=fun x hx=>by cases hx;omega
  have w:=run_with_tile (ts:=ts) (g:=g) (o:=some (k:Int)) (S:=S) hx P.r1 hi hj (by omega) (by omega)
  obtain ⟨S',hcn⟩:=run_count (g:=putG g i j (some (k:Int))) P (put_in hg hx) S
  have ho:oD (some (k:Int))=.int (k:Int):=rfl
  rw [ho] at w
  cases hgo:g i j with
  | none =>
   rw [fills_put P.c1 hi hj (.inl hgo)] at hcn
   have hcn':r_count_fills [.tup (ts.map tileD),flr r c (putG g i j (some (k:Int)))] S=.ok (.int (cntN ts r c g i j k:Nat)) S':=hcn
   refine ⟨_,_,S',rfl,?_,some (false,.int k),some (false,.bl true),rfl⟩
   show _=Fo.nx [_,_,_,_,some (true,.lst (_++[D.int (cntN ts r c g i j k:Nat)])),_,_] S'
   generalize (List.range k).map (fun x:Nat=>D.int (cntN ts r c g i j x:Nat))=L at *
   generalize cntN ts r c g i j k=cn at *
   generalize flr r c (putG g i j (some (k:Int)))=f1 at *
   generalize flr r c g=fl at *
   generalize plD i j=pp at *
   simp [b_counts_at_1,oD,w,hcn',hL]
  | some y =>
   have q:=eq_int (a:=y) (b:=(k:Int))
   by_cases hy:y=(k:Int)
   ·rw [fills_put P.c1 hi hj (.inr (by rw [hgo,hy]))] at hcn
    have hcn':r_count_fills [.tup (ts.map tileD),flr r c (putG g i j (some (k:Int)))] S=.ok (.int (cntN ts r c g i j k:Nat)) S':=hcn
    rw [decide_eq_true hy] at q
    refine ⟨_,_,S',rfl,?_,some (false,.int k),some (false,.bl true),rfl⟩
    show _=Fo.nx [_,_,_,_,some (true,.lst (_++[D.int (cntN ts r c g i j k:Nat)])),_,_] S'
    generalize (List.range k).map (fun x:Nat=>D.int (cntN ts r c g i j x:Nat))=L at *
    generalize cntN ts r c g i j k=cn at *
    generalize flr r c (putG g i j (some (k:Int)))=f1 at *
    generalize flr r c g=fl at *
    generalize plD i j=pp at *
    simp [b_counts_at_1,oD,w,hcn',hL,q]
   ·rw [decide_eq_false hy] at q
    refine ⟨_,_,S,rfl,?_,some (false,.int k),some (false,.bl false),rfl⟩
    show _=Fo.nx [_,_,_,_,some (true,.lst (_++[D.int (cntN ts r c g i j k:Nat)])),_,_] S
    rw [cnt_other P.c1 hi hj hgo hy]
    generalize (List.range k).map (fun x:Nat=>D.int (cntN ts r c g i j x:Nat))=L at *
    generalize flr r c g=fl at *
    generalize plD i j=pp at *
    simp [b_counts_at_1,oD,hL,q])
  (ρ:=[some (false,.tup (ts.map tileD)),some (false,flr r c g),some (false,plD i j),some (false,oD (g i j)),some (true,.lst []),none,none]) (S:=S) ⟨none,none,rfl⟩
 rw [rangeD_len] at e2
 simp only [Int.sub_zero,Int.toNat_natCast] at e2
 refine ⟨S2,?_⟩
 have hb:-1000000<=(ts.length:Int)/\(ts.length:Int)<=1000000:=by omega
 unfold cntL
 generalize (List.range ts.length).map (fun x:Nat=>D.int (cntN ts r c g i j x:Nat))=L at *
 generalize flr r c g=fl at *
 generalize plD i j=pp at *
 simp [r_counts_at,v_run,f_counts_at,e1,hb,e2]
def mayL(ts:Z2)(r c:Nat)(g:Z1)(i j:Nat):List D:=((List.range ts.length).filter fun x:Nat=>decide (0<cntN ts r c g i j x)).map fun x:Nat=>D.int x
theorem enum_range{n:Nat}{f:Nat->D}:enumD ((List.range n).map f)=(List.range n).map fun k:Nat=>D.tup [.int k,f k]:=by
 apply List.ext_getElem?
 intro k
 by_cases hk:k<n
 ·have h1:k<(enumD ((List.range n).map f)).length:=by rw [enumD_len,List.length_map,List.length_range];exact hk
  have h2:(enumD ((List.range n).map f))[k]?=some (enumD ((List.range n).map f))[k]:=List.getElem?_eq_getElem h1
  obtain ⟨y,e1,e2⟩:=enumD_get h2
  rw [h2,e2,List.getElem?_map,List.getElem?_range hk]
  rw [List.getElem?_map,List.getElem?_range hk] at e1
  cases e1;rfl
 ·rw [List.getElem?_eq_none (by rw [enumD_len,List.length_map,List.length_range];omega),List.getElem?_eq_none (by rw [List.length_map,List.length_range];omega)]
theorem run_may_stand(P:FP ts r c)(hg:InT ts g){i j:Nat}(hi:i<r)(hj:j<c)(S:Sto):∃S',r_may_stand [.tup (ts.map tileD),flr r c g,plD i j] S=.ok (.lst (mayL ts r c g i j)) S':=by
 obtain ⟨S1,e1⟩:=run_counts_at P hg hi hj S
 refine ⟨S1,?_⟩
 have e2:=compD_map (tg:=.tup [0,1]) (c:=eBin gtD (eBor 1) (eCon (.int 0))) (elt:=eVar 0) (ρ0:=[none,none]) (S:=S1) (g:=fun d=>match d with | .tup [a,_]=>a | _=>.non) (p:=fun d=>match d with | .tup [_,.int n]=>decide (0<n) | _=>false) (ds:=enumD (cntL ts r c g i j)) (by
  intro d hd
  unfold cntL at hd
  rw [enum_range] at hd
  obtain ⟨k,_,rfl⟩:=List.mem_map.mp hd
  refine ⟨_,rfl,?_,fun _=>rfl⟩
  simp)
 have e3:((enumD (cntL ts r c g i j)).filter (fun d=>match d with | .tup [_,.int n]=>decide (0<n) | _=>false)).map (fun d=>match d with | .tup [a,_]=>a | _=>.non)=mayL ts r c g i j:=by
  unfold cntL mayL
  rw [enum_range,List.filter_map,List.map_map]
  have ef:((fun d=>match d with | D.tup [_,.int n]=>decide (0<n) | _=>false)∘fun k:Nat=>D.tup [.int k,.int (cntN ts r c g i j k:Nat)])=fun x:Nat=>decide (0<cntN ts r c g i j x):=by
   funext k
   show decide ((0:Int)<(cntN ts r c g i j k:Nat))=_
   congr 1
   exact propext ⟨fun z=>by omega,fun z=>by omega⟩
  rw [ef]
  rfl
 rw [e3] at e2
 have hl:(mayL ts r c g i j).length<=100000:=by
  unfold mayL
  rw [List.length_map]
  refine Nat.le_trans (List.length_filter_le _ _) ?_
  rw [List.length_range];have:=P.ht.le;omega
 generalize mayL ts r c g i j=res at *
 generalize cntL ts r c g i j=cs at *
 generalize flr r c g=fl at *
 generalize plD i j=pp at *
 simp [r_may_stand,v_run,f_may_stand,e1,e2,hl]
end
theorem cl2_iff{a b:Option Int}:cl2 a b=false↔∀x y,a=some x->b=some y->x=y:=by
 cases a<;>cases b<;>simp [cl2]
theorem clash_iff{ts:Z2}{r c:Nat}{g:Z1}:clL ts r c g=[]↔∀i j,i<r->j<c->cl2 (edgeO ts r c g i j 1) (edgeO ts r c g i (j+1) 3)=false/\cl2 (edgeO ts r c g i j 2) (edgeO ts r c g (i+1) j 0)=false:=by
 unfold clL
 rw [List.flatMap_eq_nil_iff]
 have key:∀i j:Nat,clG ts r c g (plD i j)=[]↔cl2 (edgeO ts r c g i j 1) (edgeO ts r c g i (j+1) 3)=false/\cl2 (edgeO ts r c g i j 2) (edgeO ts r c g (i+1) j 0)=false:=by
  intro i j
  unfold clG
  simp only [plD,Int.toNat_natCast]
  by_cases a:cl2 (edgeO ts r c g i j 1) (edgeO ts r c g i (j+1) 3)=true<;>by_cases b:cl2 (edgeO ts r c g i j 2) (edgeO ts r c g (i+1) j 0)=true<;>simp [a,b]
 constructor
 ·intro h i j hi hj;exact (key i j).mp (h _ (pls_in hi hj))
 ·intro h d hd
  obtain ⟨i,j,hi,hj,rfl⟩:=pls_mem hd
  exact (key i j).mpr (h i j hi hj)
theorem right_iff{ts:Z2}{r c:Nat}{G:Nat->Nat->Int}(hG:∀i j,i<r->j<c->0<=G i j/\G i j<ts.length):clL ts r c (fun i j=>some (G i j))=[]↔RtG ts r c G:=by
 rw [clash_iff]
 have e:∀i j s,i<r->j<c->edgeO ts r c (fun i j=>some (G i j)) i j s=some (colT ts (G i j) s):=fun i j s hi hj=>by unfold edgeO;rw [if_pos ⟨hi,hj⟩];rfl
 have e':∀i j s,¬ (i<r/\j<c)->edgeO ts r c (fun i j=>some (G i j)) i j s=none:=fun i j s h=>by unfold edgeO;rw [if_neg h]
 constructor
 ·intro h
  refine ⟨hG,fun i j hi hj=>?_,fun i j hi hj=>?_⟩
  ·have:=(h i j hi (by omega)).1
   rw [e i j 1 hi (by omega),e i (j+1) 3 hi hj,cl2_iff] at this
   exact this _ _ rfl rfl
  ·have:=(h i j (by omega) hj).2
   rw [e i j 2 (by omega) hj,e (i+1) j 0 hi hj,cl2_iff] at this
   exact this _ _ rfl rfl
 ·intro R i j hi hj
  rw [cl2_iff,cl2_iff]
  constructor
  ·intro x y hx hy
   by_cases z:j+1<c
   ·rw [e i j 1 hi hj] at hx;rw [e i (j+1) 3 hi z] at hy
    cases hx;cases hy;exact R.east i j hi z
   ·rw [e' i (j+1) 3 (fun w=>z w.2)] at hy;cases hy
  ·intro x y hx hy
   by_cases z:i+1<r
   ·rw [e i j 2 hi hj] at hx;rw [e (i+1) j 0 z hj] at hy
    cases hx;cases hy;exact R.south i j z hj
   ·rw [e' (i+1) j 0 (fun w=>z w.1)] at hy;cases hy
theorem fitsB_iff{r c:Nat}{g h:Z1}:fitsB r c g h=true↔∀i j,i<r->j<c->h i j=none\/g i j=h i j:=by
 unfold fitsB
 rw [decide_eq_true_iff]
 exact ⟨fun z i j hi hj=>z i hi j hj,fun z i hi j hj=>z i j hi hj⟩
theorem run_is_fill{ts:Z2}{r c:Nat}{g:Z1}{G:Nat->Nat->Int}(P:FP ts r c)(hG:∀i j,0<=G i j/\G i j<ts.length)(S:Sto):r_is_fill [.tup (ts.map tileD),flr r c g,flr r c fun i j=>some (G i j)] S=.ok (.bl (decide (lsG r c G∈fillsG ts r c g))) S:=by
 have r6:=P.r6
 have c6:=P.c6
 have e1:=run_like (g:=g) (h:=fun i j=>some (G i j)) (r':=r) (c':=c) (c:=c) (S:=S) P.r1 (by omega)
 have hin:InT ts fun i j=>some (G i j):=fun i j x hx=>by cases hx;exact hG i j
 have e2:=run_right (g:=fun i j=>some (G i j)) (S:=S) (c:=c) P.ht hin P.r1 (by omega) (by omega)
 have e3:=run_tiles_of (g:=fun i j=>some (G i j)) (h:=g) (S:=S) (c:=c) P.r1 (by omega) (by omega)
 have hf:fullB r c (fun i j=>some (G i j))=true:=by unfold fullB;simp
 rw [hf,Bool.true_and] at e2
 simp only [and_self,decide_true] at e1
 have m:=mem_fillsL (ts:=ts) (g:=g) (r:=r) (G:=G) P.c1
 have rt:=right_iff (ts:=ts) (r:=r) (c:=c) (G:=G) fun i j _ _=>hG i j
 have ft:=fitsB_iff (r:=r) (c:=c) (g:=fun i j=>some (G i j)) (h:=g)
 by_cases hR:RtG ts r c G
 ·rw [decide_eq_true (rt.mpr hR)] at e2
  have:fitsB r c (fun i j=>some (G i j)) g=decide (lsG r c G∈fillsG ts r c g):=by
   rw [Bool.eq_iff_iff,ft,decide_eq_true_iff,m]
   constructor
   ·intro z;exact ⟨hR,fun i j hi hj=>(z i j hi hj).imp id Eq.symm⟩
   ·intro z i j hi hj;exact (z.2 i j hi hj).imp id Eq.symm
  rw [this] at e3
  generalize flr r c g=fl at *
  generalize flr r c (fun i j=>some (G i j))=fm at *
  simp [r_is_fill,v_run,f_is_fill,e1,e2,e3]
 ·rw [decide_eq_false (fun z=>hR (rt.mp z))] at e2
  rw [decide_eq_false (fun z=>hR (m.mp z).1)]
  generalize flr r c g=fl at *
  generalize flr r c (fun i j=>some (G i j))=fm at *
  simp [r_is_fill,v_run,f_is_fill,e1,e2]
end S2
namespace S2
open PySem
open L2 hiding D
theorem rowD_pl{c:Nat}{f:Nat->Option Int}:(rowD c f).pl=true:=by
 show D.pls (rowL c f)=true
 rw [D.pls_iff]
 intro d hd
 obtain ⟨j,_,rfl⟩:=List.mem_map.mp hd
 cases f j<;>rfl
theorem flrD_pl{r c:Nat}{g:Z1}:(flr r c g).pl=true:=by
 show D.pls (flrL r c g)=true
 rw [D.pls_iff]
 intro d hd
 obtain ⟨i,_,rfl⟩:=List.mem_map.mp hd
 exact rowD_pl
theorem rowD_fit{c n:Nat}{f:Nat->Option Int}:(rowD c f).fit (n+1)=true:=by
 show D.fits n (rowL c f)=true
 rw [D.fits_iff]
 intro d hd
 obtain ⟨j,_,rfl⟩:=List.mem_map.mp hd
 cases f j<;>simp [oD]
theorem flrD_fit{r c n:Nat}{g:Z1}:(flr r c g).fit (n+2)=true:=by
 show D.fits (n+1) (flrL r c g)=true
 rw [D.fits_iff]
 intro d hd
 obtain ⟨i,_,rfl⟩:=List.mem_map.mp hd
 exact rowD_fit
theorem eq_flr{r c:Nat}{g:Z1}:eqD (flr r c g) (flr r c g)=some (.bl true):=eq_self flrD_pl flrD_fit
theorem nin_of{d:D}{l:List D}(f:d.fit 8=true)(fl:D.fits 8 l=true):ninD d (.lst l)=some (.bl (!memD d l)):=by
 show (if d.fit 8&&D.fits 8 l then some (D.bl (!memD d l)) else none)=_
 rw [f,fl];rfl
theorem cut_take{α:Type}{l:List α}{n:Nat}:cutD l none (some (n:Int))=l.take n:=by
 unfold cutD
 have h2:HT.sIx l.length 0 none=0:=rfl
 rw [h2]
 simp only [HT.sIx_nat,Nat.sub_zero,List.drop_zero]
 by_cases h:n<=l.length
 ·rw [Nat.min_eq_left h]
 ·rw [Nat.min_eq_right (by omega),List.take_of_length_le (Nat.le_refl _),List.take_of_length_le (by omega)]
theorem compD_none{tg:Tg}{c elt:Fe}{ρ0:Env}{S:Sto}{ds:List D}(h:∀d∈ds,∃ρ1,tg.put ρ0 d=some ρ1/\c ρ1 S=.ok (.bl false) S):compD tg c elt ρ0 ds S=.ok [] S:=by
 rw [compD_map (g:=id) (p:=fun _=>false) (fun d hd=>by
  obtain ⟨ρ1,e1,e2⟩:=h d hd
  exact ⟨ρ1,e1,e2,fun z=>by cases z⟩)]
 simp
section
variable{ts:Z2}{r c:Nat}{g h:Z1}
theorem nodup_one{α:Type}{t:α}:∀{l:List α},l.Nodup->t∈l->(∀u∈l,u=t)->l=[t]
 | [],_,h,_=>(List.not_mem_nil h).elim
 | [u],_,_,h=>by rw [h u List.mem_cons_self]
 | u::v::l,n,_,h=>by
  have h1:=h u List.mem_cons_self
  have h2:=h v (List.mem_cons_of_mem _ List.mem_cons_self)
  rw [List.nodup_cons] at n
  exact absurd (by rw [h1,<-h2];exact List.mem_cons_self) n.1
theorem fill_len{t:List Int}(hc:1<=c)(ht:t∈fillsG ts r c g):t.length=r*c:=((mem_fillsR hc).mp ht).1
theorem fill_rt{t:List Int}(hc:1<=c)(ht:t∈fillsG ts r c g):RtG ts r c (tnG c t):=((mem_fillsR hc).mp ht).2.1
theorem tn_inj{t u:List Int}(hc:1<=c)(ht:t.length=r*c)(hu:u.length=r*c)(h:∀i j,i<r->j<c->tnG c t i j=tnG c u i j):t=u:=by
 rw [<-lsG_tnG hc ht,<-lsG_tnG hc hu];exact lsG_congr h
theorem fills_whole{t:List Int}(hc:1<=c)(ht:t∈fillsG ts r c g):fillsG ts r c (wholeG c t)=[t]:=by
 refine nodup_one fillsG_nodup ?_ fun u hu=>?_
 ·exact (mem_fillsR hc).mpr ⟨fill_len hc ht,fill_rt hc ht,fun i j _ _=>.inr rfl⟩
 ·refine tn_inj hc (fill_len hc hu) (fill_len hc ht) fun i j hi hj=>?_
  rcases fill_at hc hu hi hj with z | z
  ·cases z
  ·exact (Option.some.inj z).symm
theorem fills_subset{t:List Int}(hc:1<=c)(l:LeG r c g h)(ht:t∈fillsG ts r c h):t∈fillsG ts r c g:=by
 rw [fills_sub hc l] at ht;exact (List.mem_filter.mp ht).1
theorem fills_le(hc:1<=c)(l:LeG r c g h):(fillsG ts r c h).length<=(fillsG ts r c g).length:=by
 rw [fills_sub hc l];exact List.length_filter_le _ _
theorem frcB_iff{i j:Nat}:frcB ts r c g i j=true↔g i j=none/\fillsG ts r c g≠[]/\∀t∈fillsG ts r c g,tnG c t i j=tnG c (frst ts r c g) i j:=by
 unfold frcB
 rw [Bool.and_eq_true,Bool.and_eq_true,decide_eq_true_iff,and_assoc,Option.isNone_iff_eq_none]
 simp
theorem le_wf(hc:1<=c):LeG r c g (wfG ts r c g):=fun i j hi hj=>by
 unfold wfG
 split
 ·rename_i hb;exact .inl (frcB_iff.mp hb).1
 ·exact .inr rfl
theorem fills_wf(hc:1<=c):fillsG ts r c (wfG ts r c g)=fillsG ts r c g:=by
 rw [fills_sub hc (le_wf hc)]
 rw [List.filter_eq_self]
 intro t ht
 rw [agG_iff hc]
 intro i j hi hj
 rw [okO_iff]
 unfold wfG
 split
 ·rename_i hb;exact .inr (congrArg some ((frcB_iff.mp hb).2.2 t ht).symm)
 ·exact fill_at hc ht hi hj
theorem forced_wf(hc:1<=c):forcedL ts r c (wfG ts r c g)=[]:=by
 unfold forcedL
 rw [List.flatMap_eq_nil_iff]
 intro d hd
 obtain ⟨i,j,hi,hj,rfl⟩:=pls_mem hd
 rw [frc_pl,if_neg]
 intro hb
 obtain ⟨b1,b2,b3⟩:=frcB_iff.mp hb
 have hf:frst ts r c (wfG ts r c g)=frst ts r c g:=by unfold frst;rw [fills_wf hc]
 rw [fills_wf hc] at b2 b3
 rw [hf] at b3
 have hw:frcB ts r c g i j=false:=by
  cases hb':frcB ts r c g i j with
  | false=>rfl
  | true=>unfold wfG at b1;rw [if_pos hb'] at b1;cases b1
 have hg:g i j=none:=by unfold wfG at b1;rw [hw] at b1;exact b1
 have:frcB ts r c g i j=true:=frcB_iff.mpr ⟨hg,b2,b3⟩
 rw [hw] at this;cases this
theorem forced_full(hf:∀i j,i<r->j<c->g i j≠none):forcedL ts r c g=[]:=by
 unfold forcedL
 rw [List.flatMap_eq_nil_iff]
 intro d hd
 obtain ⟨i,j,hi,hj,rfl⟩:=pls_mem hd
 rw [frc_pl,if_neg]
 intro hb
 exact hf i j hi hj (frcB_iff.mp hb).1
theorem wf_none(h:fillsG ts r c g=[]):wfG ts r c g=g:=by
 funext i j
 unfold wfG
 rw [if_neg]
 intro hb
 exact (frcB_iff.mp hb).2.1 h
theorem forced_pls:D.pls (forcedL ts r c g)=true:=by
 rw [D.pls_iff]
 intro d hd
 obtain ⟨i,j,_,_,_,rfl⟩:=mem_forced.mp hd
 rfl
theorem forced_fits{n:Nat}:D.fits (n+3) (forcedL ts r c g)=true:=by
 rw [D.fits_iff]
 intro d hd
 obtain ⟨i,j,_,_,_,rfl⟩:=mem_forced.mp hd
 simp [D.fit,D.fits]
end
end S2
namespace S2.L22
open PySem
open L2 hiding D
noncomputable def b_law_1:Fs :=
  (sSeq (sFz [6,8] (sIf (eBin neD (eFn r_tile_at [(eVar 6),(eVar 8)]) (eBor 9)) (sSeq (sFz [] (sRet (eCon (.bl false)))) sNx) sNx)) sNx)
noncomputable def b_law_2:Fs :=
  (sSeq (sFz [1,4,8,6,8] (sAsg 13 false (eFn r_with_tile [(eVar 1),(eVar 4),(eVar 8),(eFn r_tile_at [(eVar 6),(eVar 8)])]))) (sSeq (sFz [0,2,0,3] (sAsg 14 false (eTup [(eFn r__law_pick [(eVar 0),(eCon (.int 93)),(eVar 2)]),(eFn r__law_pick [(eVar 0),(eCon (.int 94)),(eVar 3)])]))) (sSeq (sFz [1,4,14] (sAsg 15 true (eFn r_may_stand [(eVar 1),(eVar 4),(eVar 14)]))) (sSeq (sFz [1,13,14,15] (sIf (eBin neD (eComp 1 (.one 0) (eItemsA (eFn r_may_stand [(eVar 1),(eVar 13),(eVar 14)])) (eBin ninD (eBor 0) (eBor 1)) (eVar 0) [15]) (eLst [])) (sSeq (sFz [] (sRet (eCon (.bl false)))) sNx) sNx)) (sSeq (sFz [1,13] (sAsg 16 true (eFn r_forced [(eVar 1),(eVar 13)]))) (sSeq (sFz [7,16,8] (sIf (eBin neD (eComp 1 (.one 0) (eItemsA (eVar 7)) (eAnd (eBin ninD (eBor 0) (eBor 1)) (eBin neD (eBin ixD (eBor 0) (eCon (.int 0))) (eBor 2))) (eVar 0) [16,8]) (eLst [])) (sSeq (sFz [] (sRet (eCon (.bl false)))) sNx) sNx)) (sSeq (sFz [1,13,1,13,6] (sIf (eOr (eBin gtD (eFn r_count_fills [(eVar 1),(eVar 13)]) (eBor 5)) (eBin notbD (eFn r_is_fill [(eVar 1),(eVar 13),(eVar 6)]) (eCon (.bl true)))) (sSeq (sFz [] (sRet (eCon (.bl false)))) sNx) sNx)) (sSeq (sFz [13] (sAsg 4 false (eVar 13))) (sSeq (sFz [16] (sAsg 7 false (eVar 16))) sNx)))))))))
noncomputable def t_law_14:Fs:=sSeq (sFz [1,6,1,6] (sRet (eAnd (eBin eqD (eFn r_count_fills [(eVar 1),(eVar 6)]) (eCon (.int 1))) (eBin eqD (eFn r_forced [(eVar 1),(eVar 6)]) (eLst []))))) sNx
noncomputable def t_law_13:Fs:=sSeq (sFz [] (sFor (.one 8) (eItemsA (eSl (eBin addD (eSl (eBor 11) (some (eBor 12)) none) (eSl (eBor 11) none (some (eBor 12)))) none (some (eCon (.int 2))))) b_law_2)) t_law_14
noncomputable def t_law_12:Fs:=sSeq (sFz [0] (sAsg 12 false (eFn r__law_pick [(eVar 0),(eCon (.int 92)),(eCall lenD [(eBor 11)])]))) t_law_13
noncomputable def t_law_11:Fs:=sSeq (sFz [4] (sAsg 11 true (eFn r_places_of [(eVar 4)]))) t_law_12
noncomputable def t_law_10:Fs:=sSeq (sFz [1,10,1,10] (sIf (eOr (eBin neD (eFn r_count_fills [(eVar 1),(eVar 10)]) (eBor 5)) (eBin neD (eFn r_forced [(eVar 1),(eVar 10)]) (eLst []))) (sSeq (sFz [] (sRet (eCon (.bl false)))) sNx) sNx)) t_law_11
noncomputable def t_law_9:Fs:=sSeq (sFz [1,4] (sAsg 10 false (eFn r_with_forced [(eVar 1),(eVar 4)]))) t_law_10
noncomputable def t_law_8:Fs:=sSeq (sFz [7] (sFor (.tup [8,9]) (eItemsA (eVar 7)) b_law_1)) t_law_9
noncomputable def t_law_7:Fs:=sSeq (sFz [1,4] (sAsg 7 true (eFn r_forced [(eVar 1),(eVar 4)]))) t_law_8
noncomputable def t_law_6:Fs:=sSeq (sFz [1,4,0,5] (sAsg 6 false (eFn r_fill [(eVar 1),(eVar 4),(eFn r__law_pick [(eVar 0),(eCon (.int 91)),(eVar 5)])]))) t_law_7
noncomputable def t_law_5:Fs:=sSeq (sFz [] (sIf (eBin eqD (eBor 5) (eCon (.int 0))) (sSeq (sFz [1,4,1,4] (sRet (eAnd (eBin eqD (eFn r_forced [(eVar 1),(eVar 4)]) (eLst [])) (eBin eqD (eFn r_with_forced [(eVar 1),(eVar 4)]) (eBor 4))))) sNx) sNx)) t_law_6
noncomputable def t_law_4:Fs:=sSeq (sFz [1,4] (sAsg 5 false (eFn r_count_fills [(eVar 1),(eVar 4)]))) t_law_5
noncomputable def t_law_3:Fs:=sSeq (sFz [0,1,2,3] (sAsg 4 false (eFn r__law_floor [(eVar 0),(eCon (.int 100)),(eVar 1),(eVar 2),(eVar 3),(eCon (.int 6))]))) t_law_4
noncomputable def t_law_2:Fs:=sSeq (sFz [0] (sAsgT (.tup [2,3]) (eBin ixD (eLst [(eTup [(eCon (.int 1)),(eCon (.int 1))]),(eTup [(eCon (.int 1)),(eCon (.int 2))]),(eTup [(eCon (.int 2)),(eCon (.int 1))]),(eTup [(eCon (.int 2)),(eCon (.int 2))])]) (eFn r__law_pick [(eVar 0),(eCon (.int 90)),(eCon (.int 4))])))) t_law_3
noncomputable def t_law_1:Fs:=sSeq (sFz [0] (sAsg 1 false (eFn r__law_tiles [(eVar 0),(eCon (.int 0)),(eCon (.int 3))]))) t_law_2
noncomputable def f_law:Fs :=
  t_law_1
noncomputable def r_law:List S2.D->Sto->Out S2.D:=runD 17 false f_law
end S2.L22
namespace S2.L22
open PySem
open L2 hiding D
abbrev Sl:=Option (Bool×D)
section
variable{ts:Z2}{r c:Nat}{s0 s2 s3 s4 s5 s7 s8 s9 s10 s11 s12 s13 s14 s15 s16:Sl}
theorem tail14{g0:Z1}{t:List Int}(P:FP ts r c)(ht:t∈fillsG ts r c g0)(S:Sto) :
  ∃S',t_law_14 [s0,some (false,.tup (ts.map tileD)),s2,s3,s4,s5,some (false,flr r c (wholeG c t)),s7,s8,s9,s10,s11,s12,s13,s14,s15,s16] S=.rt (.bl true) S':=by
 obtain ⟨h,hin,he⟩:∃h,InT ts h/\(∀i j,i<r->j<c->h i j=wholeG c t i j):=by
  refine ⟨fun i j=>if i<r/\j<c then wholeG c t i j else none,?_,fun i j hi hj=>if_pos ⟨hi,hj⟩⟩
  intro i j x hx
  dsimp only at hx
  split at hx
  ·rename_i hij
   cases hx;exact fill_inr P.c1 ht hij.1 hij.2
  ·cases hx
 have ef:flr r c h=flr r c (wholeG c t):=flr_congr he
 obtain ⟨S1,e1⟩:=run_count P hin S
 obtain ⟨S2,e2⟩:=run_forced P hin S1
 rw [ef] at e1 e2
 rw [fills_congr he,fills_whole P.c1 ht] at e1
 rw [forced_full (fun i j hi hj=>by rw [he i j hi hj];exact fun z=>by cases z)] at e2
 refine ⟨S2,?_⟩
 have q1:eqD (.int 1) (.int 1)=some (.bl true):=rfl
 have q2:eqD (.lst []) (.lst [])=some (.bl true):=rfl
 generalize flr r c (wholeG c t)=fl at *
 simp at e1
 simp [t_law_14,e1,q1,e2,q2]
structure Iv(ts:Z2)(r c:Nat)(t:List Int)(m:Nat)(g:Z1):Prop where
 inT:InT ts g
 mem:t∈fillsG ts r c g
 le:(fillsG ts r c g).length<=m
theorem may_mem{g:Z1}{i j:Nat}{d:D}:d∈mayL ts r c g i j↔∃x:Nat,x<ts.length/\d=.int x/\∃t∈fillsG ts r c g,tnG c t i j=x:=by
 unfold mayL
 rw [List.mem_map]
 constructor
 ·rintro ⟨x,hx,rfl⟩
  obtain ⟨h1,h2⟩:=List.mem_filter.mp hx
  have h2':0<cntN ts r c g i j x:=of_decide_eq_true h2
  unfold cntN at h2'
  obtain ⟨u,hu⟩:=List.exists_mem_of_length_pos h2'
  obtain ⟨u1,u2⟩:=List.mem_filter.mp hu
  exact ⟨x,List.mem_range.mp h1,rfl,u,u1,of_decide_eq_true u2⟩
 ·rintro ⟨x,hx,rfl,u,hu,e⟩
  refine ⟨x,List.mem_filter.mpr ⟨List.mem_range.mpr hx,decide_eq_true ?_⟩,rfl⟩
  unfold cntN
  exact List.length_pos_of_mem (List.mem_filter.mpr ⟨hu,decide_eq_true e⟩)
theorem may_pls{g:Z1}{i j:Nat}:D.pls (mayL ts r c g i j)=true/\∀n,D.fits (n+1) (mayL ts r c g i j)=true:=by
 rw [D.pls_iff]
 refine ⟨fun d hd=>?_,fun n=>?_⟩
 ·obtain ⟨x,_,rfl,_⟩:=may_mem.mp hd;rfl
 ·rw [D.fits_iff];intro d hd;obtain ⟨x,_,rfl,_⟩:=may_mem.mp hd;rfl
theorem step2{g:Z1}{t:List Int}{m i j:Nat}{l:List Int}(P:FP ts r c)(I:Iv ts r c t m g)(hi:i<r)(hj:j<c)(S:Sto){fl:Bool} :
  ∃S' g' x13 x14 x15 x16,b_law_2 [some (false,.scr l),some (false,.tup (ts.map tileD)),some (false,.int r),some (false,.int c),some (false,flr r c g),some (false,.int m),some (false,flr r c (wholeG c t)),some (false,.lst (forcedL ts r c g)),some (false,plD i j),s9,s10,s11,s12,s13,s14,s15,s16] S
   = .nx [some (false,.scr l),some (false,.tup (ts.map tileD)),some (false,.int r),some (false,.int c),some (false,flr r c g'),some (false,.int m),some (false,flr r c (wholeG c t)),some (false,.lst (forcedL ts r c g')),some (false,plD i j),s9,s10,s11,s12,x13,x14,x15,x16] S'/\Iv ts r c t m g':=by
 have r6:=P.r6
 have c6:=P.c6
 have hx:=fill_inr P.c1 I.mem hi hj
 have hgx:=fill_at P.c1 I.mem hi hj
 have hxo:∀x,some (tnG c t i j)=some x->0<=x/\x<ts.length:=fun x hx'=>by cases hx';exact hx
 have hle:LeG r c g (putG g i j (some (tnG c t i j))):=le_put hgx
 have hin':InT ts (putG g i j (some (tnG c t i j))):=put_in I.inT hxo
 have hmem':t∈fillsG ts r c (putG g i j (some (tnG c t i j))):=by
  rw [fills_put P.c1 hi hj hgx]
  exact List.mem_filter.mpr ⟨I.mem,decide_eq_true rfl⟩
 have w1:=run_tile_at (g:=wholeG c t) (S:=S) P.r1 hi hj
 have w2:=run_with_tile (ts:=ts) (g:=g) (o:=some (tnG c t i j)) (S:=S) hxo P.r1 hi hj (by omega) (by omega)
 have w1':r_tile_at [flr r c (wholeG c t),plD i j] S=.ok (oD (some (tnG c t i j))) S:=w1
 have p1:=pick_nn l 93 (many:=(r:Int)) (by have:=P.r1;omega)
 have p2:=pick_nn l 94 (many:=(c:Int)) (by have:=P.c1;omega)
 have k1:=fun S=>run_pick (l:=l) (k:=93) (many:=(r:Int)) (S:=S) (by omega) (by have:=P.r1;omega)
 have k2:=fun S=>run_pick (l:=l) (k:=94) (many:=(c:Int)) (S:=S) (by omega) (by have:=P.c1;omega)
 obtain ⟨a,ha⟩:=Int.eq_ofNat_of_zero_le p1.1
 obtain ⟨b,hb⟩:=Int.eq_ofNat_of_zero_le p2.1
 rw [ha] at k1 p1
 rw [hb] at k2 p2
 have ha2:a<r:=by omega
 have hb2:b<c:=by omega
 obtain ⟨S1,m1⟩:=run_may_stand P I.inT ha2 hb2 S
 obtain ⟨S2,m2⟩:=run_may_stand P hin' ha2 hb2 S1
 have cm:=compD_none (tg:=.one 0) (c:=eBin ninD (eBor 0) (eBor 1)) (elt:=eVar 0) (ρ0:=[none,some (false,.lst (mayL ts r c g a b))]) (S:=S2) (ds:=mayL ts r c (putG g i j (some (tnG c t i j))) a b) (by
  intro d hd
  obtain ⟨x,hx,rfl,u,hu,e⟩:=may_mem.mp hd
  have hm:D.int (x:Int)∈mayL ts r c g a b:=may_mem.mpr ⟨x,hx,rfl,u,fills_subset P.c1 hle hu,e⟩
  have nn:=nin_mem (d:=.int (x:Int)) rfl may_pls.1 rfl (may_pls.2 7) hm
  refine ⟨_,rfl,?_⟩
  generalize mayL ts r c g a b=L at *
  simp [nn])
 obtain ⟨S3,f1⟩:=run_forced P hin' S2
 have cf:=compD_none (tg:=.one 0) (c:=eAnd (eBin ninD (eBor 0) (eBor 1)) (eBin neD (eBin ixD (eBor 0) (eCon (.int 0))) (eBor 2))) (elt:=eVar 0) (ρ0:=[none,some (false,.lst (forcedL ts r c (putG g i j (some (tnG c t i j))))),some (false,plD i j)]) (S:=S3) (ds:=forcedL ts r c g) (by
  intro d hd
  obtain ⟨a',b',ha',hb',hf,rfl⟩:=mem_forced.mp hd
  refine ⟨_,rfl,?_⟩
  obtain ⟨f1,f2,f3⟩:=frcB_iff.mp hf
  by_cases z:a'=i/\b'=j
  ·obtain ⟨rfl,rfl⟩:=z
   have nn:=ne_self (pl_pl (i:=a') (j:=b')) rfl
   have ix:ixD (D.tup [plD a' b',.int (tnG c (frst ts r c g) a' b')]) (.int 0)=some (plD a' b'):=rfl
   obtain ⟨bb,hbb⟩:∃bb,ninD (D.tup [plD a' b',.int (tnG c (frst ts r c g) a' b')]) (.lst (forcedL ts r c (putG g a' b' (some (tnG c t a' b')))))=some (.bl bb):=by
    exact ⟨_,nin_of rfl (forced_fits (n:=5))⟩
   generalize D.tup [plD a' b',.int (tnG c (frst ts r c g) a' b')]=dd at *
   generalize D.lst (forcedL ts r c (putG g a' b' (some (tnG c t a' b'))))=LL at *
   generalize plD a' b'=pp at *
   cases bb<;>simp [hbb,ix,nn]
  ·have hne:fillsG ts r c (putG g i j (some (tnG c t i j)))≠[]:=List.ne_nil_of_mem hmem'
   have e1:∀u∈fillsG ts r c (putG g i j (some (tnG c t i j))),tnG c u a' b'=tnG c (frst ts r c g) a' b':=fun u hu=>f3 u (fills_subset P.c1 hle hu)
   have e2:=e1 _ (frst_mem hne)
   have hm:D.tup [plD a' b',.int (tnG c (frst ts r c g) a' b')]∈forcedL ts r c (putG g i j (some (tnG c t i j))):=by
    refine mem_forced.mpr ⟨a',b',ha',hb',frcB_iff.mpr ⟨?_,hne,fun u hu=>by rw [e1 u hu,e2]⟩,by rw [e2]⟩
    unfold putG;rw [if_neg z];exact f1
   have nn:=nin_mem (d:=D.tup [plD a' b',.int (tnG c (frst ts r c g) a' b')]) rfl forced_pls rfl (forced_fits (n:=5)) hm
   generalize D.tup [plD a' b',.int (tnG c (frst ts r c g) a' b')]=dd at *
   generalize forcedL ts r c (putG g i j (some (tnG c t i j)))=LL at *
   simp [nn])
 obtain ⟨S4,c1⟩:=run_count P hin' S3
 have hcl:=Nat.le_trans (fills_le (ts:=ts) P.c1 hle) I.le
 have hG:∀i j,0<=(if i<r/\j<c then tnG c t i j else 0)/\(if i<r/\j<c then tnG c t i j else 0)<ts.length:=by
  intro i j
  split
  ·rename_i hij;exact fill_inr P.c1 I.mem hij.1 hij.2
  ·have:=P.h1;omega
 have isf:=run_is_fill (g:=putG g i j (some (tnG c t i j))) P hG S4
 have eG:flr r c (fun i j=>some (if i<r/\j<c then tnG c t i j else 0))=flr r c (wholeG c t):=flr_congr fun i j hi hj=>by rw [if_pos ⟨hi,hj⟩];rfl
 have eL:lsG r c (fun i j=>if i<r/\j<c then tnG c t i j else 0)=t:=by
  rw [<-lsG_tnG P.c1 (fill_len P.c1 I.mem)]
  exact lsG_congr fun i j hi hj=>by rw [if_pos ⟨hi,hj⟩,lsG_tnG P.c1 (fill_len P.c1 I.mem)]
 rw [eG,eL,decide_eq_true hmem'] at isf
 refine ⟨S4,putG g i j (some (tnG c t i j)),some (false,flr r c (putG g i j (some (tnG c t i j)))),some (false,.tup [.int a,.int b]),some (false,.lst (mayL ts r c g a b)),some (false,.lst (forcedL ts r c (putG g i j (some (tnG c t i j))))),?_,⟨hin',hmem',hcl⟩⟩
 have q0:neD (.lst []) (.lst [])=some (.bl false):=rfl
 have hgt:¬ ((m:Int)<((fillsG ts r c (putG g i j (some (tnG c t i j)))).length:Int)):=by omega
 generalize forcedL ts r c (putG g i j (some (tnG c t i j)))=L1 at *
 generalize forcedL ts r c g=L2 at *
 generalize mayL ts r c (putG g i j (some (tnG c t i j))) a b=M1 at *
 generalize mayL ts r c g a b=M2 at *
 generalize (fillsG ts r c (putG g i j (some (tnG c t i j)))).length=n1 at *
 generalize flr r c (putG g i j (some (tnG c t i j)))=fa at *
 generalize flr r c (wholeG c t)=fw at *
 generalize flr r c g=fl at *
 generalize oD (some (tnG c t i j))=oo at *
 generalize plD i j=pp at *
 simp [b_law_2,w1',w2,k1,k2,m1,m2,cm,q0,f1,cf,c1,hgt,isf]
theorem len_cut{ps:List D}{n:Nat}(h:n<=ps.length):cutD ps (some (n:Int)) none++cutD ps none (some (n:Int))=ps.drop n++ps.take n:=by
 rw [cut_nat,cut_to (by omega)]
theorem tail13{g0 g:Z1}{t:List Int}{m n:Nat}{l:List Int}(P:FP ts r c)(I:Iv ts r c t m g)(hn:n<=r*c)(S:Sto) :
  ∃S',t_law_13 [some (false,.scr l),some (false,.tup (ts.map tileD)),some (false,.int r),some (false,.int c),some (false,flr r c g),some (false,.int m),some (false,flr r c (wholeG c t)),some (false,.lst (forcedL ts r c g)),s8,s9,s10,some (true,.lst (plsL r c)),some (false,.int n),s13,s14,s15,s16] S=.rt (.bl true) S':=by
 have hpl:(plsL r c).length=r*c:=pls_len
 have rc:=P.rc
 have cut:=len_cut (ps:=plsL r c) (n:=n) (by omega)
 have cut2:cutD ((plsL r c).drop n++(plsL r c).take n) none (some 2)=((plsL r c).drop n++(plsL r c).take n).take 2:=by
  exact cut_take (n:=2)
 have hmem:∀d∈((plsL r c).drop n++(plsL r c).take n).take 2,∃i j,i<r/\j<c/\d=plD i j:=by
  intro d hd
  have:=List.mem_of_mem_take hd
  rcases List.mem_append.mp this with h | h
  ·exact pls_mem (List.mem_of_mem_drop h)
  ·exact pls_mem (List.mem_of_mem_take h)
 have l1:(cutD (plsL r c) (some (n:Int)) none).length+(cutD (plsL r c) none (some (n:Int))).length<=100000:=by
  rw [<-List.length_append,cut,List.length_append,List.length_drop,List.length_take];omega
 generalize ((plsL r c).drop n++(plsL r c).take n).take 2=ps at *
 obtain ⟨ρ',S1,e1,g',x8,x13,x14,x15,x16,rfl,I'⟩:=forD_relS (tg:=.one 8) (body:=b_law_2) (ds:=ps) (fun k ρ S=>∃g' x8 x13 x14 x15 x16,ρ=[some (false,.scr l),some (false,.tup (ts.map tileD)),some (false,.int r),some (false,.int c),some (false,flr r c g'),some (false,.int m),some (false,flr r c (wholeG c t)),some (false,.lst (forcedL ts r c g')),x8,s9,s10,some (true,.lst (plsL r c)),some (false,.int n),x13,x14,x15,x16]/\Iv ts r c t m g') (by
  rintro k d ρ S hd ⟨g',x8,x13,x14,x15,x16,rfl,I'⟩
  obtain ⟨i,j,hi,hj,rfl⟩:=hmem d (List.mem_of_getElem? hd)
  obtain ⟨S',g2,y13,y14,y15,y16,e,I2⟩:=step2 (l:=l) (s9:=s9) (s10:=s10) (s11:=some (true,.lst (plsL r c))) (s12:=some (false,.int n)) (s13:=x13) (s14:=x14) (s15:=x15) (s16:=x16) (fl:=true) P I' hi hj S
  exact ⟨_,_,S',rfl,e,g2,some (false,plD i j),y13,y14,y15,y16,rfl,I2⟩)
  (ρ:=[some (false,.scr l),some (false,.tup (ts.map tileD)),some (false,.int r),some (false,.int c),some (false,flr r c g),some (false,.int m),some (false,flr r c (wholeG c t)),some (false,.lst (forcedL ts r c g)),s8,s9,s10,some (true,.lst (plsL r c)),some (false,.int n),s13,s14,s15,s16]) (S:=S) ⟨g,s8,s13,s14,s15,s16,rfl,I⟩
 obtain ⟨S2,e2⟩:=tail14 (s0:=some (false,.scr l)) (s2:=some (false,.int r)) (s3:=some (false,.int c)) (s4:=some (false,flr r c g')) (s5:=some (false,.int m)) (s7:=some (false,.lst (forcedL ts r c g'))) (s8:=x8) (s9:=s9) (s10:=s10) (s11:=some (true,.lst (plsL r c))) (s12:=some (false,.int n)) (s13:=x13) (s14:=x14) (s15:=x15) (s16:=x16) P I'.mem S1
 refine ⟨S2,?_⟩
 generalize forcedL ts r c g'=L1 at *
 generalize forcedL ts r c g=L2 at *
 generalize flr r c (wholeG c t)=fw at *
 generalize flr r c g'=fg' at *
 generalize flr r c g=fg at *
 rw [<-cut] at cut2
 generalize q1:cutD (plsL r c) (some (n:Int)) none=c1 at *
 generalize q2:cutD (plsL r c) none (some (n:Int))=c2 at *
 simp [t_law_13,q1,q2,l1,cut2,e1,e2]
theorem tail8{g:Z1}{t:List Int}{l:List Int}(P:FP ts r c)(hg:InT ts g)(ht:t∈fillsG ts r c g)(S:Sto) :
  ∃S',t_law_8 [some (false,.scr l),some (false,.tup (ts.map tileD)),some (false,.int r),some (false,.int c),some (false,flr r c g),some (false,.int ((fillsG ts r c g).length:Nat)),some (false,flr r c (wholeG c t)),some (true,.lst (forcedL ts r c g)),s8,s9,s10,s11,s12,s13,s14,s15,s16] S=.rt (.bl true) S':=by
 have r6:=P.r6
 have c6:=P.c6
 have rc:=P.rc
 obtain ⟨ρ',e1,x8,x9,rfl⟩:=forD_rel (tg:=.tup [8,9]) (body:=b_law_1) (ds:=forcedL ts r c g) (S:=S) (fun k ρ=>∃x8 x9,ρ=[some (false,.scr l),some (false,.tup (ts.map tileD)),some (false,.int r),some (false,.int c),some (false,flr r c g),some (false,.int ((fillsG ts r c g).length:Nat)),some (false,flr r c (wholeG c t)),some (false,.lst (forcedL ts r c g)),x8,x9,s10,s11,s12,s13,s14,s15,s16]) (by
  rintro k d ρ hd ⟨x8,x9,rfl⟩
  obtain ⟨i,j,hi,hj,hf,rfl⟩:=mem_forced.mp (List.mem_of_getElem? hd)
  obtain ⟨f1,f2,f3⟩:=frcB_iff.mp hf
  have w1:r_tile_at [flr r c (wholeG c t),plD i j] S=.ok (.int (tnG c t i j)) S:=run_tile_at (g:=wholeG c t) (S:=S) P.r1 hi hj
  rw [f3 t ht] at w1
  refine ⟨_,_,rfl,?_,some (false,plD i j),some (false,.int (tnG c (frst ts r c g) i j)),rfl⟩
  have q:=ne_int (a:=tnG c (frst ts r c g) i j) (b:=tnG c (frst ts r c g) i j)
  generalize forcedL ts r c g=L2 at *
  generalize flr r c (wholeG c t)=fw at *
  generalize flr r c g=fg at *
  generalize tnG c (frst ts r c g) i j=xx at *
  generalize plD i j=pp at *
  simp [b_law_1,w1,q])
  (ρ:=[some (false,.scr l),some (false,.tup (ts.map tileD)),some (false,.int r),some (false,.int c),some (false,flr r c g),some (false,.int ((fillsG ts r c g).length:Nat)),some (false,flr r c (wholeG c t)),some (false,.lst (forcedL ts r c g)),s8,s9,s10,s11,s12,s13,s14,s15,s16]) ⟨s8,s9,rfl⟩
 obtain ⟨S1,e2⟩:=run_with_forced P hg S
 obtain ⟨h,hin,he⟩:=wf_in P hg
 have ef:flr r c h=flr r c (wfG ts r c g):=flr_congr he
 obtain ⟨S2,e3⟩:=run_count P hin S1
 obtain ⟨S3,e4⟩:=run_forced P hin S2
 have e34:forcedL ts r c h=forcedL ts r c (wfG ts r c g):=by
  have hfl:=fills_congr (ts:=ts) he
  unfold forcedL
  apply flat_congr
  intro d hd
  obtain ⟨i,j,hi,hj,rfl⟩:=pls_mem hd
  rw [frc_pl,frc_pl]
  have:frcB ts r c h i j=frcB ts r c (wfG ts r c g) i j:=by unfold frcB frst;rw [hfl,he i j hi hj]
  rw [this]
  unfold frst;rw [hfl]
 rw [ef,fills_congr he,fills_wf P.c1] at e3
 rw [ef,e34,forced_wf P.c1] at e4
 have e5:=run_places (g:=g) (S:=S3) (c:=c) P.r1 (show r<=100 by omega) (show c<=100 by omega)
 have hp:(0:Int)<((plsL r c).length:Nat):=by rw [pls_len];have:=Nat.mul_le_mul P.r1 P.c1;omega
 have k1:=run_pick (l:=l) (k:=92) (many:=((plsL r c).length:Nat)) (S:=S3) (by omega) hp
 have p1:=pick_nn l 92 hp
 obtain ⟨n,hn⟩:=Int.eq_ofNat_of_zero_le p1.1
 rw [hn] at k1 p1
 rw [pls_len] at p1
 obtain ⟨S4,e6⟩:=tail13 (g0:=g) (s8:=x8) (s9:=x9) (s10:=some (false,flr r c (wfG ts r c g))) (s13:=s13) (s14:=s14) (s15:=s15) (s16:=s16) (l:=l) (n:=n) P ⟨hg,ht,Nat.le_refl _⟩ (by omega) S3
 refine ⟨S4,?_⟩
 have q:=ne_int (a:=((fillsG ts r c g).length:Nat)) (b:=((fillsG ts r c g).length:Nat))
 have q0:neD (.lst []) (.lst [])=some (.bl false):=rfl
 generalize forcedL ts r c g=L2 at *
 generalize (fillsG ts r c g).length=nn at *
 generalize flr r c (wholeG c t)=fw at *
 generalize flr r c (wfG ts r c g)=ff at *
 generalize flr r c g=fg at *
 generalize plsL r c=ps at *
 simp [t_law_8,t_law_9,t_law_10,t_law_11,t_law_12,e1,e2,e3,q,e4,q0,e5,k1,e6]
theorem tail4{g:Z1}{l:List Int}(P:FP ts r c)(hg:InT ts g)(S:Sto){s6:Sl} :
  ∃S',t_law_4 [some (false,.scr l),some (false,.tup (ts.map tileD)),some (false,.int r),some (false,.int c),some (false,flr r c g),s5,s6,s7,s8,s9,s10,s11,s12,s13,s14,s15,s16] S=.rt (.bl true) S':=by
 obtain ⟨S1,e1⟩:=run_count P hg S
 have q1:=eq_int (a:=((fillsG ts r c g).length:Nat)) (b:=0)
 by_cases hne:fillsG ts r c g=[]
 ·obtain ⟨S2,e2⟩:=run_forced P hg S1
  obtain ⟨S3,e3⟩:=run_with_forced P hg S2
  rw [forced_nil hne] at e2
  rw [wf_none hne] at e3
  rw [hne] at e1 q1
  refine ⟨S3,?_⟩
  have q2:eqD (.lst []) (.lst [])=some (.bl true):=rfl
  have q3:=eq_flr (r:=r) (c:=c) (g:=g)
  generalize flr r c g=fg at *
  simp at e1 q1
  simp [t_law_4,t_law_5,e1,q1,e2,q2,e3,q3]
 ·have hlen:0<(fillsG ts r c g).length:=List.length_pos_iff.mpr hne
  rw [decide_eq_false (by omega)] at q1
  have k1:=run_pick (l:=l) (k:=91) (many:=((fillsG ts r c g).length:Nat)) (S:=S1) (by omega) (by omega)
  have p1:=pick_nn l 91 (many:=((fillsG ts r c g).length:Nat)) (by omega)
  obtain ⟨n,hn⟩:=Int.eq_ofNat_of_zero_le p1.1
  rw [hn] at k1 p1
  obtain ⟨S2,e2⟩:=run_fill P hg (n:Int) S1
  rw [if_pos ⟨by omega,by omega⟩] at e2
  have ht:(fillsG ts r c g).getD ((n:Int).toNat) []∈fillsG ts r c g:=by
   rw [Int.toNat_natCast,List.getD_eq_getElem?_getD,List.getElem?_eq_getElem (by omega)]
   exact List.getElem_mem _
  generalize (fillsG ts r c g).getD ((n:Int).toNat) []=t at *
  obtain ⟨S3,e3⟩:=run_forced P hg S2
  obtain ⟨S4,e4⟩:=tail8 (l:=l) (s8:=s8) (s9:=s9) (s10:=s10) (s11:=s11) (s12:=s12) (s13:=s13) (s14:=s14) (s15:=s15) (s16:=s16) P hg ht S3
  refine ⟨S4,?_⟩
  generalize forcedL ts r c g=L2 at *
  generalize (fillsG ts r c g).length=nn at *
  generalize flr r c (wholeG c t)=fw at *
  generalize flr r c g=fg at *
  simp [t_law_4,t_law_5,t_law_6,t_law_7,e1,q1,k1,e2,e3,e4]
end
theorem sides4(q:Int)(h0:0<=q)(h1:q<4):∃r c:Nat,1<=r/\r<=2/\1<=c/\c<=2/\atI [D.tup [.int 1,.int 1],.tup [.int 1,.int 2],.tup [.int 2,.int 1],.tup [.int 2,.int 2]] q=some (.tup [.int r,.int c]):=by
 have:q=0\/q=1\/q=2\/q=3:=by omega
 rcases this with rfl | rfl | rfl | rfl
 ·exact ⟨1,1,by omega,by omega,by omega,by omega,rfl⟩
 ·exact ⟨1,2,by omega,by omega,by omega,by omega,rfl⟩
 ·exact ⟨2,1,by omega,by omega,by omega,by omega,rfl⟩
 ·exact ⟨2,2,by omega,by omega,by omega,by omega,rfl⟩
theorem law_true:∀l:List Int,l.length<=63->∃S,r_law [.scr l] []=.ok (.bl true) S:=by
 intro l _
 obtain ⟨ts,hT,et⟩:=run_tiles (l:=l) (at':=0) (most:=3) (S:=[]) (by omega) (by omega) (by omega)
 have k1:=run_pick (l:=l) (k:=90) (many:=4) (S:=[]) (by omega) (by omega)
 have p1:=pick_nn l 90 (many:=4) (by omega)
 obtain ⟨r,c,h1,hr,c1,hc,es⟩:=sides4 _ p1.1 p1.2
 generalize pickL l 90 4=q at *
 have n1:=hT.ne
 have n4:=hT.le
 have ht:TOk ts:=⟨hT.four,by omega⟩
 have hp2:0<((ts.map tileD).length:Int)*6:=by simp;omega
 have f2:=run_floor (l:=l) (at':=100) (m:=6) (ts:=ts.map tileD) (r:=r) (c:=c) (S:=[]) (by omega) hp2 (by decide) (by omega) (by omega) (by omega) (by omega)
 have g2:InT ts (numL l 100 (ts.map tileD).length 6):=fun i j x e=>by simpa using num_ok hp2 x e
 rw [Int.toNat_natCast,Int.toNat_natCast] at f2
 generalize numL l 100 (ts.map tileD).length 6=gb at *
 have hrc:r*c<=6:=Nat.le_trans (Nat.mul_le_mul hr hc) (by decide)
 have P:FP ts r c:=⟨ht,by omega,puts5 (by omega) hrc,h1,c1,hrc⟩
 obtain ⟨S',e⟩:=tail4 (l:=l) (s5:=none) (s6:=none) (s7:=none) (s8:=none) (s9:=none) (s10:=none) (s11:=none) (s12:=none) (s13:=none) (s14:=none) (s15:=none) (s16:=none) P g2 []
 refine ⟨S',?_⟩
 generalize ts.map tileD=tsd at *
 generalize flr r c gb=fl at *
 simp only [r_law,v_run,f_law,t_law_1,t_law_2,t_law_3]
 simp [et,k1,es,f2,e]
end S2.L22
namespace M22
open PySem L2 S2 S2.L22
def top(i:Nat):Stmt:=PySem.Challenge.pw_floorfits_k22_whole_known_grows.main.body.getD i (.Pass ⟨0,0,0,0⟩)
def T:Tab:=⟨[("NORTH",.int 0),("EAST",.int 1),("SOUTH",.int 2),("WEST",.int 3)],["isinstance","int","bool","tuple","list","len","range","all","sum","enumerate","zip","ValueError"],["FloorError","NoPlace","NoTile","NoFill"],[("NoPlace","FloorError"),("NoTile","FloorError"),("NoFill","FloorError")],[],[("Ways","tiles"),("Ways","ground"),("Ways","size"),("Ways","is_round"),("Ways","known")],["known"]⟩
noncomputable def F0:Fn3:=⟨"",[],[],[]⟩
noncomputable def F1:Fn3:=F0.fn "is_whole" ⟨1,false,r_is_whole⟩
theorem d1:denDef (Gn T F0) false ["thing"] (top 11)=some f_is_whole:=by rfl
theorem s1:FnScope ["thing"] ["thing"] (defScope (top 11)):=⟨rfl,rfl,rfl,by decide +kernel,rfl,by decide +kernel,by decide +kernel⟩
noncomputable def F2:Fn3:=F1.fn "is_tuple_of" ⟨3,false,r_is_tuple_of⟩
theorem d2:denDef (Gn T F1) false ["thing","least","most"] (top 12)=some f_is_tuple_of:=by rfl
theorem s2:FnScope ["thing","least","most"] ["thing","least","most"] (defScope (top 12)):=⟨rfl,rfl,rfl,by decide +kernel,rfl,by decide +kernel,by decide +kernel⟩
noncomputable def F3:Fn3:=F2.fn "has_number" ⟨2,false,r_has_number⟩
theorem d3:denDef (Gn T F2) false ["tiles","thing"] (top 13)=some f_has_number:=by rfl
theorem s3:FnScope ["tiles","thing"] ["tiles","thing"] (defScope (top 13)):=⟨rfl,rfl,rfl,by decide +kernel,rfl,by decide +kernel,by decide +kernel⟩
noncomputable def F4:Fn3:=F3.fn "may_lie" ⟨2,false,r_may_lie⟩
theorem d4:denDef (Gn T F3) false ["tiles","thing"] (top 14)=some f_may_lie:=by rfl
theorem s4:FnScope ["tiles","thing"] ["tiles","thing"] (defScope (top 14)):=⟨rfl,rfl,rfl,by decide +kernel,rfl,by decide +kernel,by decide +kernel⟩
noncomputable def F5:Fn3:=F4.fn "size_of" ⟨1,false,r_size_of⟩
theorem d5:denDef (Gn T F4) false ["floor","columns"] (top 15)=some f_size_of:=by rfl
theorem s5:FnScope ["floor","columns"] ["floor"] (defScope (top 15)):=⟨rfl,rfl,rfl,by decide +kernel,rfl,by decide +kernel,by decide +kernel⟩
noncomputable def F6:Fn3:=F5.fn "places_of" ⟨1,true,r_places_of⟩
theorem d6:denDef (Gn T F5) true ["floor","size","places","row","column"] (top 16)=some f_places_of:=by rfl
theorem s6:FnScope ["floor","size","places","row","column"] ["floor"] (defScope (top 16)):=⟨rfl,rfl,rfl,by decide +kernel,rfl,by decide +kernel,by decide +kernel⟩
noncomputable def F7:Fn3:=F6.fn "is_row_like" ⟨2,false,r_is_row_like⟩
theorem d7:denDef (Gn T F6) false ["row","thing"] (top 17)=some f_is_row_like:=by rfl
theorem s7:FnScope ["row","thing"] ["row","thing"] (defScope (top 17)):=⟨rfl,rfl,rfl,by decide +kernel,rfl,by decide +kernel,by decide +kernel⟩
noncomputable def F8:Fn3:=F7.fn "is_like" ⟨2,false,r_is_like⟩
theorem d8:denDef (Gn T F7) false ["floor","thing"] (top 18)=some f_is_like:=by rfl
theorem s8:FnScope ["floor","thing"] ["floor","thing"] (defScope (top 18)):=⟨rfl,rfl,rfl,by decide +kernel,rfl,by decide +kernel,by decide +kernel⟩
noncomputable def F9:Fn3:=F8.fn "in_rows" ⟨2,false,r_in_rows⟩
theorem d9:denDef (Gn T F8) false ["numbers","size"] (top 19)=some f_in_rows:=by rfl
theorem s9:FnScope ["numbers","size"] ["numbers","size"] (defScope (top 19)):=⟨rfl,rfl,rfl,by decide +kernel,rfl,by decide +kernel,by decide +kernel⟩
noncomputable def F10:Fn3:=F9.fn "number_at" ⟨2,false,r_number_at⟩
theorem d10:denDef (Gn T F9) false ["floor","place"] (top 20)=some f_number_at:=by rfl
theorem s10:FnScope ["floor","place"] ["floor","place"] (defScope (top 20)):=⟨rfl,rfl,rfl,by decide +kernel,rfl,by decide +kernel,by decide +kernel⟩
noncomputable def F11:Fn3:=F10.fn "laid_places" ⟨1,true,r_laid_places⟩
theorem d11:denDef (Gn T F10) true ["floor"] (top 21)=some f_laid_places:=by rfl
theorem s11:FnScope ["floor"] ["floor"] (defScope (top 21)):=⟨rfl,rfl,rfl,by decide +kernel,rfl,by decide +kernel,by decide +kernel⟩
noncomputable def F12:Fn3:=F11.fn "has_tiles_of" ⟨2,false,r_has_tiles_of⟩
theorem d12:denDef (Gn T F11) false ["whole","floor"] (top 22)=some f_has_tiles_of:=by rfl
theorem s12:FnScope ["whole","floor"] ["whole","floor"] (defScope (top 22)):=⟨rfl,rfl,rfl,by decide +kernel,rfl,by decide +kernel,by decide +kernel⟩
noncomputable def F13:Fn3:=F12.fn "has_place" ⟨2,false,r_has_place⟩
theorem d13:denDef (Gn T F12) false ["floor","place","size"] (top 23)=some f_has_place:=by rfl
theorem s13:FnScope ["floor","place","size"] ["floor","place"] (defScope (top 23)):=⟨rfl,rfl,rfl,by decide +kernel,rfl,by decide +kernel,by decide +kernel⟩
noncomputable def F14:Fn3:=F13.fn "refuse_outside" ⟨2,false,r_refuse_outside⟩
theorem d14:denDef (Gn T F13) false ["floor","place"] (top 24)=some f_refuse_outside:=by rfl
theorem s14:FnScope ["floor","place"] ["floor","place"] (defScope (top 24)):=⟨rfl,rfl,rfl,by decide +kernel,rfl,by decide +kernel,by decide +kernel⟩
noncomputable def F15:Fn3:=F14.fn "tile_at" ⟨2,false,r_tile_at⟩
theorem d15:denDef (Gn T F14) false ["floor","place"] (top 25)=some f_tile_at:=by rfl
theorem s15:FnScope ["floor","place"] ["floor","place"] (defScope (top 25)):=⟨rfl,rfl,rfl,by decide +kernel,rfl,by decide +kernel,by decide +kernel⟩
noncomputable def F16:Fn3:=F15.fn "with_number" ⟨3,false,r_with_number⟩
theorem d16:denDef (Gn T F15) false ["floor","place","number","old","row"] (top 26)=some f_with_number:=by rfl
theorem s16:FnScope ["floor","place","number","old","row"] ["floor","place","number"] (defScope (top 26)):=⟨rfl,rfl,rfl,by decide +kernel,rfl,by decide +kernel,by decide +kernel⟩
noncomputable def F17:Fn3:=F16.fn "with_tile" ⟨4,false,r_with_tile⟩
theorem d17:denDef (Gn T F16) false ["tiles","floor","place","number"] (top 27)=some f_with_tile:=by rfl
theorem s17:FnScope ["tiles","floor","place","number"] ["tiles","floor","place","number"] (defScope (top 27)):=⟨rfl,rfl,rfl,by decide +kernel,rfl,by decide +kernel,by decide +kernel⟩
noncomputable def F18:Fn3:=F17.fn "edge_at" ⟨4,false,r_edge_at⟩
theorem d18:denDef (Gn T F17) false ["tiles","floor","place","side"] (top 28)=some f_edge_at:=by rfl
theorem s18:FnScope ["tiles","floor","place","side"] ["tiles","floor","place","side"] (defScope (top 28)):=⟨rfl,rfl,rfl,by decide +kernel,rfl,by decide +kernel,by decide +kernel⟩
noncomputable def F19:Fn3:=F18.fn "colours_east" ⟨3,false,r_colours_east⟩
theorem d19:denDef (Gn T F18) false ["tiles","floor","place","beside"] (top 29)=some f_colours_east:=by rfl
theorem s19:FnScope ["tiles","floor","place","beside"] ["tiles","floor","place"] (defScope (top 29)):=⟨rfl,rfl,rfl,by decide +kernel,rfl,by decide +kernel,by decide +kernel⟩
noncomputable def F20:Fn3:=F19.fn "colours_south" ⟨3,false,r_colours_south⟩
theorem d20:denDef (Gn T F19) false ["tiles","floor","place","below"] (top 30)=some f_colours_south:=by rfl
theorem s20:FnScope ["tiles","floor","place","below"] ["tiles","floor","place"] (defScope (top 30)):=⟨rfl,rfl,rfl,by decide +kernel,rfl,by decide +kernel,by decide +kernel⟩
noncomputable def F21:Fn3:=F20.fn "do_clash" ⟨1,false,r_do_clash⟩
theorem d21:denDef (Gn T F20) false ["colours"] (top 31)=some f_do_clash:=by rfl
theorem s21:FnScope ["colours"] ["colours"] (defScope (top 31)):=⟨rfl,rfl,rfl,by decide +kernel,rfl,by decide +kernel,by decide +kernel⟩
noncomputable def F22:Fn3:=F21.fn "clashes" ⟨2,true,r_clashes⟩
theorem d22:denDef (Gn T F21) true ["tiles","floor","found","place"] (top 32)=some f_clashes:=by rfl
theorem s22:FnScope ["tiles","floor","found","place"] ["tiles","floor"] (defScope (top 32)):=⟨rfl,rfl,rfl,by decide +kernel,rfl,by decide +kernel,by decide +kernel⟩
noncomputable def F23:Fn3:=F22.fn "is_right" ⟨2,false,r_is_right⟩
theorem d23:denDef (Gn T F22) false ["tiles","floor"] (top 33)=some f_is_right:=by rfl
theorem s23:FnScope ["tiles","floor"] ["tiles","floor"] (defScope (top 33)):=⟨rfl,rfl,rfl,by decide +kernel,rfl,by decide +kernel,by decide +kernel⟩
noncomputable def F24:Fn3:=F23.fn "suits" ⟨2,false,r_suits⟩
theorem d24:denDef (Gn T F23) false ["wanted","colour"] (top 35)=some f_suits:=by rfl
theorem s24:FnScope ["wanted","colour"] ["wanted","colour"] (defScope (top 35)):=⟨rfl,rfl,rfl,by decide +kernel,rfl,by decide +kernel,by decide +kernel⟩
noncomputable def F25:Fn3:=F24.cls "Ways" [.bl false] ⟨4,false,r_Ways___init__⟩
theorem d25:denDef (Gn T (F24.at "Ways")) false ["self","tiles","floor","is_round"] (inC 0 (top 36))=some f_Ways___init__:=by rfl
theorem s25:FnScope ["self","tiles","floor","is_round"] ["self","tiles","floor","is_round"] (defScope (inC 0 (top 36))):=⟨rfl,rfl,rfl,by decide +kernel,rfl,by decide +kernel,by decide +kernel⟩
noncomputable def F26:Fn3:=F25.mt "first_seam" "Ways" ⟨1,false,r_Ways_first_seam⟩
theorem d26:denDef (Gn T (F25.at "Ways")) false ["self"] (inC 1 (top 36))=some f_Ways_first_seam:=by rfl
theorem s26:FnScope ["self"] ["self"] (defScope (inC 1 (top 36))):=⟨rfl,rfl,rfl,by decide +kernel,rfl,by decide +kernel,by decide +kernel⟩
noncomputable def F27:Fn3:=F26.mt "ends_row" "Ways" ⟨2,false,r_Ways_ends_row⟩
theorem d27:denDef (Gn T (F26.at "Ways")) false ["self","step"] (inC 2 (top 36))=some f_Ways_ends_row:=by rfl
theorem s27:FnScope ["self","step"] ["self","step"] (defScope (inC 2 (top 36))):=⟨rfl,rfl,rfl,by decide +kernel,rfl,by decide +kernel,by decide +kernel⟩
noncomputable def F28:Fn3:=F27.mt "colour_round" "Ways" ⟨4,false,r_Ways_colour_round⟩
theorem d28:denDef (Gn T (F27.at "Ways")) false ["self","step","seam","tile"] (inC 3 (top 36))=some f_Ways_colour_round:=by rfl
theorem s28:FnScope ["self","step","seam","tile"] ["self","step","seam","tile"] (defScope (inC 3 (top 36))):=⟨rfl,rfl,rfl,by decide +kernel,rfl,by decide +kernel,by decide +kernel⟩
noncomputable def F29:Fn3:=F28.mt "seam_behind" "Ways" ⟨4,false,r_Ways_seam_behind⟩
theorem d29:denDef (Gn T (F28.at "Ways")) false ["self","step","seam","tile","is_last","in_last_row","east","south","around"] (inC 4 (top 36))=some f_Ways_seam_behind:=by rfl
theorem s29:FnScope ["self","step","seam","tile","is_last","in_last_row","east","south","around"] ["self","step","seam","tile"] (defScope (inC 4 (top 36))):=⟨rfl,rfl,rfl,by decide +kernel,rfl,by decide +kernel,by decide +kernel⟩
noncomputable def F30:Fn3:=F29.mt "numbers_for" "Ways" ⟨2,false,r_Ways_numbers_for⟩
theorem d30:denDef (Gn T (F29.at "Ways")) false ["self","step","laid"] (inC 5 (top 36))=some f_Ways_numbers_for:=by rfl
theorem s30:FnScope ["self","step","laid"] ["self","step"] (defScope (inC 5 (top 36))):=⟨rfl,rfl,rfl,by decide +kernel,rfl,by decide +kernel,by decide +kernel⟩
noncomputable def F31:Fn3:=F30.mt "fits_round" "Ways" ⟨4,false,r_Ways_fits_round⟩
theorem d31:denDef (Gn T (F30.at "Ways")) false ["self","step","seam","tile"] (inC 6 (top 36))=some f_Ways_fits_round:=by rfl
theorem s31:FnScope ["self","step","seam","tile"] ["self","step","seam","tile"] (defScope (inC 6 (top 36))):=⟨rfl,rfl,rfl,by decide +kernel,rfl,by decide +kernel,by decide +kernel⟩
noncomputable def F32:Fn3:=F31.mt "fits" "Ways" ⟨4,false,r_Ways_fits⟩
theorem d32:denDef (Gn T (F31.at "Ways")) false ["self","step","seam","tile"] (inC 7 (top 36))=some f_Ways_fits:=by rfl
theorem s32:FnScope ["self","step","seam","tile"] ["self","step","seam","tile"] (defScope (inC 7 (top 36))):=⟨rfl,rfl,rfl,by decide +kernel,rfl,by decide +kernel,by decide +kernel⟩
noncomputable def F33:Fn3:=F32.mt "choices" "Ways" ⟨3,true,r_Ways_choices⟩
theorem d33:denDef (Gn T (F32.at "Ways")) true ["self","step","seam","found","number","tile"] (inC 8 (top 36))=some f_Ways_choices:=by rfl
theorem s33:FnScope ["self","step","seam","found","number","tile"] ["self","step","seam"] (defScope (inC 8 (top 36))):=⟨rfl,rfl,rfl,by decide +kernel,rfl,by decide +kernel,by decide +kernel⟩
noncomputable def F34:Fn3:=F33.mt "count_from" "Ways" ⟨3,false,r_Ways_count_from⟩
theorem d34:∀r,denDef (Gn T ((F33.mt "count_from" "Ways" ⟨["self","step","seam"].length,false,r⟩).at "Ways")) false ["self","step","seam","key"] (inC 9 (top 36))=some (f_Ways_count_from r):=by intro r;rfl
theorem s34:FnScope ["self","step","seam","key"] ["self","step","seam"] (defScope (inC 9 (top 36))):=⟨rfl,rfl,rfl,by decide +kernel,rfl,by decide +kernel,by decide +kernel⟩
noncomputable def F35:Fn3:=F34.mt "count_all" "Ways" ⟨1,false,r_Ways_count_all⟩
theorem d35:denDef (Gn T (F34.at "Ways")) false ["self"] (inC 10 (top 36))=some f_Ways_count_all:=by rfl
theorem s35:FnScope ["self"] ["self"] (defScope (inC 10 (top 36))):=⟨rfl,rfl,rfl,by decide +kernel,rfl,by decide +kernel,by decide +kernel⟩
noncomputable def F36:Fn3:=F35.mt "numbers_by" "Ways" ⟨2,true,r_Ways_numbers_by⟩
theorem d36:denDef (Gn T (F35.at "Ways")) true ["self","number","numbers","left","seam","step","choice","many"] (inC 11 (top 36))=some f_Ways_numbers_by:=by rfl
theorem s36:FnScope ["self","number","numbers","left","seam","step","choice","many"] ["self","number"] (defScope (inC 11 (top 36))):=⟨rfl,rfl,rfl,by decide +kernel,rfl,by decide +kernel,by decide +kernel⟩
noncomputable def F37:Fn3:=F36.mt "whole_by" "Ways" ⟨2,false,r_Ways_whole_by⟩
theorem d37:denDef (Gn T (F36.at "Ways")) false ["self","number"] (inC 12 (top 36))=some f_Ways_whole_by:=by rfl
theorem s37:FnScope ["self","number"] ["self","number"] (defScope (inC 12 (top 36))):=⟨rfl,rfl,rfl,by decide +kernel,rfl,by decide +kernel,by decide +kernel⟩
noncomputable def F38:Fn3:=F37.fn "count_fills" ⟨2,false,r_count_fills⟩
theorem d38:denDef (Gn T F37) false ["tiles","floor"] (top 37)=some f_count_fills:=by rfl
theorem s38:FnScope ["tiles","floor"] ["tiles","floor"] (defScope (top 37)):=⟨rfl,rfl,rfl,by decide +kernel,rfl,by decide +kernel,by decide +kernel⟩
noncomputable def F39:Fn3:=F38.fn "is_fill" ⟨3,false,r_is_fill⟩
theorem d39:denDef (Gn T F38) false ["tiles","floor","whole"] (top 38)=some f_is_fill:=by rfl
theorem s39:FnScope ["tiles","floor","whole"] ["tiles","floor","whole"] (defScope (top 38)):=⟨rfl,rfl,rfl,by decide +kernel,rfl,by decide +kernel,by decide +kernel⟩
noncomputable def F40:Fn3:=F39.fn "fill" ⟨3,false,r_fill⟩
theorem d40:denDef (Gn T F39) false ["tiles","floor","number"] (top 39)=some f_fill:=by rfl
theorem s40:FnScope ["tiles","floor","number"] ["tiles","floor","number"] (defScope (top 39)):=⟨rfl,rfl,rfl,by decide +kernel,rfl,by decide +kernel,by decide +kernel⟩
noncomputable def F41:Fn3:=F40.fn "counts_at" ⟨3,true,r_counts_at⟩
theorem d41:denDef (Gn T F40) true ["tiles","floor","place","laid","counts","number","is_kept"] (top 41)=some f_counts_at:=by rfl
theorem s41:FnScope ["tiles","floor","place","laid","counts","number","is_kept"] ["tiles","floor","place"] (defScope (top 41)):=⟨rfl,rfl,rfl,by decide +kernel,rfl,by decide +kernel,by decide +kernel⟩
noncomputable def F42:Fn3:=F41.fn "may_stand" ⟨3,true,r_may_stand⟩
theorem d42:denDef (Gn T F41) true ["tiles","floor","place"] (top 42)=some f_may_stand:=by rfl
theorem s42:FnScope ["tiles","floor","place"] ["tiles","floor","place"] (defScope (top 42)):=⟨rfl,rfl,rfl,by decide +kernel,rfl,by decide +kernel,by decide +kernel⟩
noncomputable def F43:Fn3:=F42.fn "bare_places" ⟨1,true,r_bare_places⟩
theorem d43:denDef (Gn T F42) true ["floor"] (top 43)=some f_bare_places:=by rfl
theorem s43:FnScope ["floor"] ["floor"] (defScope (top 43)):=⟨rfl,rfl,rfl,by decide +kernel,rfl,by decide +kernel,by decide +kernel⟩
noncomputable def F44:Fn3:=F43.fn "forced" ⟨2,true,r_forced⟩
theorem d44:denDef (Gn T F43) true ["tiles","floor","many","first","found","place","number"] (top 44)=some f_forced:=by rfl
theorem s44:FnScope ["tiles","floor","many","first","found","place","number"] ["tiles","floor"] (defScope (top 44)):=⟨rfl,rfl,rfl,by decide +kernel,rfl,by decide +kernel,by decide +kernel⟩
noncomputable def F45:Fn3:=F44.fn "with_forced" ⟨2,false,r_with_forced⟩
theorem d45:denDef (Gn T F44) false ["tiles","floor","whole","place","number"] (top 45)=some f_with_forced:=by rfl
theorem s45:FnScope ["tiles","floor","whole","place","number"] ["tiles","floor"] (defScope (top 45)):=⟨rfl,rfl,rfl,by decide +kernel,rfl,by decide +kernel,by decide +kernel⟩
noncomputable def F46:Fn3:=F45.fn "_law_cell" ⟨2,false,r__law_cell⟩
theorem d46:denDef (Gn T F45) false ["_law_script","_law_k"] (top 47)=some f__law_cell:=by rfl
theorem s46:FnScope ["_law_script","_law_k"] ["_law_script","_law_k"] (defScope (top 47)):=⟨rfl,rfl,rfl,by decide +kernel,rfl,by decide +kernel,by decide +kernel⟩
noncomputable def F47:Fn3:=F46.fn "_law_pick" ⟨3,false,r__law_pick⟩
theorem d47:denDef (Gn T F46) false ["_law_script","_law_k","_law_many","_law_drawn"] (top 48)=some f__law_pick:=by rfl
theorem s47:FnScope ["_law_script","_law_k","_law_many","_law_drawn"] ["_law_script","_law_k","_law_many"] (defScope (top 48)):=⟨rfl,rfl,rfl,by decide +kernel,rfl,by decide +kernel,by decide +kernel⟩
noncomputable def F48:Fn3:=F47.fn "_law_tiles" ⟨3,false,r__law_tiles⟩
theorem d48:denDef (Gn T F47) false ["_law_script","_law_at","_law_most","_law_colours","_law_made","_law_k","_law_tile"] (top 49)=some f__law_tiles:=by rfl
theorem s48:FnScope ["_law_script","_law_at","_law_most","_law_colours","_law_made","_law_k","_law_tile"] ["_law_script","_law_at","_law_most"] (defScope (top 49)):=⟨rfl,rfl,rfl,by decide +kernel,rfl,by decide +kernel,by decide +kernel⟩
noncomputable def F49:Fn3:=F48.fn "_law_floor" ⟨6,false,r__law_floor⟩
theorem d49:denDef (Gn T F48) false ["_law_script","_law_at","_law_tiles_here","_law_rows","_law_columns","_law_many","_law_made","_law_row","_law_line","_law_column","_law_here"] (top 50)=some f__law_floor:=by rfl
theorem s49:FnScope ["_law_script","_law_at","_law_tiles_here","_law_rows","_law_columns","_law_many","_law_made","_law_row","_law_line","_law_column","_law_here"] ["_law_script","_law_at","_law_tiles_here","_law_rows","_law_columns","_law_many"] (defScope (top 50)):=⟨rfl,rfl,rfl,by decide +kernel,rfl,by decide +kernel,by decide +kernel⟩
theorem d50:denDef (Gn T F49) false ["_law_script","_law_tiles_here","_law_rows","_law_columns","_law_floor_here","_law_many","_law_whole","_law_before","_law_place","_law_number","_law_laid","_law_order","_law_by","_law_more","_law_here","_law_could","_law_after"] (top 52)=some f_law:=by rfl
theorem s50:FnScope ["_law_script","_law_tiles_here","_law_rows","_law_columns","_law_floor_here","_law_many","_law_whole","_law_before","_law_place","_law_number","_law_laid","_law_order","_law_by","_law_more","_law_here","_law_could","_law_after"] ["_law_script"] (defScope (top 52)):=⟨rfl,rfl,rfl,by decide +kernel,rfl,by decide +kernel,by decide +kernel⟩
theorem all_mk{l:PySem.W.OpenLaw}{w:PySem.World}{K:PySem.W.Frag}{h:Heap}{mg:Z6}{fa f1 f2 f3 f4 f5 f6 f7 f8 f9 f10 f11 f12 f13 f14 f15 f16 f17 f18 f19 f20 f21 f22 f23 f24 f25 f26 f27 f28 f29 f30 f31 f32 f33 f34 f35 f36 f37 f38 f39 f40 f41 f42 f43 f44 f45 f46 f47 f48 f49 f50:Addr}(X:K.In h)(G:h.Ns mainGlobals mg)(hfa:mg "law" = some (.ref fa))
  {od1 an1 od2 an2 od3 an3 od4 an4 od5 an5 od6 an6 od7 an7 od8 an8 od9 an9 od10 an10 od11 an11 od12 an12 od13 an13 od14 an14 od15 an15 od16 an16 od17 an17 od18 an18 od19 an19 od20 an20 od21 an21 od22 an22 od23 an23 od24 an24 od25 an25 od26 an26 od27 an27 od28 an28 od29 an29 od30 an30 od31 an31 od32 an32 od33 an33 od34 an34 od35 an35 od36 an36 od37 an37 od38 an38 od39 an39 od40 an40 od41 an41 od42 an42 od43 an43 od44 an44 od45 an45 od46 an46 od47 an47 od48 an48 od49 an49 od50 an50:Option Addr} {sl1 sl2 sl3 sl4 sl5 sl6 sl7 sl8 sl9 sl10 sl11 sl12 sl13 sl14 sl15 sl16 sl17 sl18 sl19 sl20 sl21 sl22 sl23 sl24 sl25 sl26 sl27 sl28 sl29 sl30 sl31 sl32 sl33 sl34 sl35 sl36 sl37 sl38 sl39 sl40 sl41 sl42 sl43 sl44 sl45 sl46 sl47 sl48 sl49 sl50:Array (Option Value)} {oc1 kV1 dc1 pm1 cd1 ct1 oc2 kV2 dc2 pm2 cd2 ct2 oc3 kV3 dc3 pm3 cd3 ct3 oc4 kV4 dc4 pm4 cd4 ct4 oc5 kV5 dc5 pm5 cd5 ct5 oc6 kV6 dc6 pm6 cd6 ct6 oc7 kV7 dc7 pm7 cd7 ct7 oc8 kV8 dc8 pm8 cd8 ct8 oc9 kV9 dc9 pm9 cd9 ct9 oc10 kV10 dc10 pm10 cd10 ct10 oc11 kV11 dc11 pm11 cd11 ct11 oc12 kV12 dc12 pm12 cd12 ct12 oc13 kV13 dc13 pm13 cd13 ct13 oc14 kV14 dc14 pm14 cd14 ct14 oc15 kV15 dc15 pm15 cd15 ct15 oc16 kV16 dc16 pm16 cd16 ct16 oc17 kV17 dc17 pm17 cd17 ct17 oc18 kV18 dc18 pm18 cd18 ct18 oc19 kV19 dc19 pm19 cd19 ct19 oc20 kV20 dc20 pm20 cd20 ct20 oc21 kV21 dc21 pm21 cd21 ct21 oc22 kV22 dc22 pm22 cd22 ct22 oc23 kV23 dc23 pm23 cd23 ct23 oc24 kV24 dc24 pm24 cd24 ct24 oc25 kV25 dc25 pm25 cd25 ct25 oc26 kV26 dc26 pm26 cd26 ct26 oc27 kV27 dc27 pm27 cd27 ct27 oc28 kV28 dc28 pm28 cd28 ct28 oc29 kV29 dc29 pm29 cd29 ct29 oc30 kV30 dc30 pm30 cd30 ct30 oc31 kV31 dc31 pm31 cd31 ct31 oc32 kV32 dc32 pm32 cd32 ct32 oc33 kV33 dc33 pm33 cd33 ct33 oc34 kV34 dc34 pm34 cd34 ct34 oc35 kV35 dc35 pm35 cd35 ct35 oc36 kV36 dc36 pm36 cd36 ct36 oc37 kV37 dc37 pm37 cd37 ct37 oc38 kV38 dc38 pm38 cd38 ct38 oc39 kV39 dc39 pm39 cd39 ct39 oc40 kV40 dc40 pm40 cd40 ct40 oc41 kV41 dc41 pm41 cd41 ct41 oc42 kV42 dc42 pm42 cd42 ct42 oc43 kV43 dc43 pm43 cd43 ct43 oc44 kV44 dc44 pm44 cd44 ct44 oc45 kV45 dc45 pm45 cd45 ct45 oc46 kV46 dc46 pm46 cd46 ct46 oc47 kV47 dc47 pm47 cd47 ct47 oc48 kV48 dc48 pm48 cd48 ct48 oc49 kV49 dc49 pm49 cd49 ct49 oc50 kV50 dc50 pm50 cd50 ct50:Value}
  {yWays:Addr}
  (nyWays:PySem.W.nsIn K mainGlobals "Ways" = some (some (.ref yWays))) (pgWays:PySem.W.plainGet K yWays Str.empty=true) (hdWays:PySem.W.hasDictIn K yWays=true) (poWays:PySem.W.plainOver K yWays=true) (saWays:PySem.W.findIn K (.ref yWays) "__setattr__" = some (some (.builtin "object.__setattr__"))) (mkWays:PySem.W.makesIn K yWays=true) (kpWays:PySem.W.keepIn K (.ref yWays)=true)
  (naWaystiles:PySem.W.findIn K (.ref yWays) "tiles" = some none)
  (naWaysground:PySem.W.findIn K (.ref yWays) "ground" = some none)
  (naWayssize:PySem.W.findIn K (.ref yWays) "size" = some none)
  (naWaysis_round:PySem.W.findIn K (.ref yWays) "is_round" = some none)
  (naWaysknown:PySem.W.findIn K (.ref yWays) "known" = some none)
  (a1:PySem.W.nsIn K mainGlobals "is_whole" = some (some (.ref f1)))
  (l1:K.lookup f1=some ⟨oc1,od1,.func (PySem.W.fnOf "is_whole" "is_whole" (defArgs (top 11)) (defBody (top 11)) (defScope (top 11)) .none kV1 dc1 pm1 an1 cd1 ct1),sl1⟩) (c1:PySem.W.codeIn K cd1 "is_whole" = true) (k1:PySem.W.keepIn K (.ref f1)=true)
  (a2:PySem.W.nsIn K mainGlobals "is_tuple_of" = some (some (.ref f2)))
  (l2:K.lookup f2=some ⟨oc2,od2,.func (PySem.W.fnOf "is_tuple_of" "is_tuple_of" (defArgs (top 12)) (defBody (top 12)) (defScope (top 12)) .none kV2 dc2 pm2 an2 cd2 ct2),sl2⟩) (c2:PySem.W.codeIn K cd2 "is_tuple_of" = true) (k2:PySem.W.keepIn K (.ref f2)=true)
  (a3:PySem.W.nsIn K mainGlobals "has_number" = some (some (.ref f3)))
  (l3:K.lookup f3=some ⟨oc3,od3,.func (PySem.W.fnOf "has_number" "has_number" (defArgs (top 13)) (defBody (top 13)) (defScope (top 13)) .none kV3 dc3 pm3 an3 cd3 ct3),sl3⟩) (c3:PySem.W.codeIn K cd3 "has_number" = true) (k3:PySem.W.keepIn K (.ref f3)=true)
  (a4:PySem.W.nsIn K mainGlobals "may_lie" = some (some (.ref f4)))
  (l4:K.lookup f4=some ⟨oc4,od4,.func (PySem.W.fnOf "may_lie" "may_lie" (defArgs (top 14)) (defBody (top 14)) (defScope (top 14)) .none kV4 dc4 pm4 an4 cd4 ct4),sl4⟩) (c4:PySem.W.codeIn K cd4 "may_lie" = true) (k4:PySem.W.keepIn K (.ref f4)=true)
  (a5:PySem.W.nsIn K mainGlobals "size_of" = some (some (.ref f5)))
  (l5:K.lookup f5=some ⟨oc5,od5,.func (PySem.W.fnOf "size_of" "size_of" (defArgs (top 15)) (defBody (top 15)) (defScope (top 15)) .none kV5 dc5 pm5 an5 cd5 ct5),sl5⟩) (c5:PySem.W.codeIn K cd5 "size_of" = true) (k5:PySem.W.keepIn K (.ref f5)=true)
  (a6:PySem.W.nsIn K mainGlobals "places_of" = some (some (.ref f6)))
  (l6:K.lookup f6=some ⟨oc6,od6,.func (PySem.W.fnOf "places_of" "places_of" (defArgs (top 16)) (defBody (top 16)) (defScope (top 16)) .none kV6 dc6 pm6 an6 cd6 ct6),sl6⟩) (c6:PySem.W.codeIn K cd6 "places_of" = true) (k6:PySem.W.keepIn K (.ref f6)=true)
  (a7:PySem.W.nsIn K mainGlobals "is_row_like" = some (some (.ref f7)))
  (l7:K.lookup f7=some ⟨oc7,od7,.func (PySem.W.fnOf "is_row_like" "is_row_like" (defArgs (top 17)) (defBody (top 17)) (defScope (top 17)) .none kV7 dc7 pm7 an7 cd7 ct7),sl7⟩) (c7:PySem.W.codeIn K cd7 "is_row_like" = true) (k7:PySem.W.keepIn K (.ref f7)=true)
  (a8:PySem.W.nsIn K mainGlobals "is_like" = some (some (.ref f8)))
  (l8:K.lookup f8=some ⟨oc8,od8,.func (PySem.W.fnOf "is_like" "is_like" (defArgs (top 18)) (defBody (top 18)) (defScope (top 18)) .none kV8 dc8 pm8 an8 cd8 ct8),sl8⟩) (c8:PySem.W.codeIn K cd8 "is_like" = true) (k8:PySem.W.keepIn K (.ref f8)=true)
  (a9:PySem.W.nsIn K mainGlobals "in_rows" = some (some (.ref f9)))
  (l9:K.lookup f9=some ⟨oc9,od9,.func (PySem.W.fnOf "in_rows" "in_rows" (defArgs (top 19)) (defBody (top 19)) (defScope (top 19)) .none kV9 dc9 pm9 an9 cd9 ct9),sl9⟩) (c9:PySem.W.codeIn K cd9 "in_rows" = true) (k9:PySem.W.keepIn K (.ref f9)=true)
  (a10:PySem.W.nsIn K mainGlobals "number_at" = some (some (.ref f10)))
  (l10:K.lookup f10=some ⟨oc10,od10,.func (PySem.W.fnOf "number_at" "number_at" (defArgs (top 20)) (defBody (top 20)) (defScope (top 20)) .none kV10 dc10 pm10 an10 cd10 ct10),sl10⟩) (c10:PySem.W.codeIn K cd10 "number_at" = true) (k10:PySem.W.keepIn K (.ref f10)=true)
  (a11:PySem.W.nsIn K mainGlobals "laid_places" = some (some (.ref f11)))
  (l11:K.lookup f11=some ⟨oc11,od11,.func (PySem.W.fnOf "laid_places" "laid_places" (defArgs (top 21)) (defBody (top 21)) (defScope (top 21)) .none kV11 dc11 pm11 an11 cd11 ct11),sl11⟩) (c11:PySem.W.codeIn K cd11 "laid_places" = true) (k11:PySem.W.keepIn K (.ref f11)=true)
  (a12:PySem.W.nsIn K mainGlobals "has_tiles_of" = some (some (.ref f12)))
  (l12:K.lookup f12=some ⟨oc12,od12,.func (PySem.W.fnOf "has_tiles_of" "has_tiles_of" (defArgs (top 22)) (defBody (top 22)) (defScope (top 22)) .none kV12 dc12 pm12 an12 cd12 ct12),sl12⟩) (c12:PySem.W.codeIn K cd12 "has_tiles_of" = true) (k12:PySem.W.keepIn K (.ref f12)=true)
  (a13:PySem.W.nsIn K mainGlobals "has_place" = some (some (.ref f13)))
  (l13:K.lookup f13=some ⟨oc13,od13,.func (PySem.W.fnOf "has_place" "has_place" (defArgs (top 23)) (defBody (top 23)) (defScope (top 23)) .none kV13 dc13 pm13 an13 cd13 ct13),sl13⟩) (c13:PySem.W.codeIn K cd13 "has_place" = true) (k13:PySem.W.keepIn K (.ref f13)=true)
  (a14:PySem.W.nsIn K mainGlobals "refuse_outside" = some (some (.ref f14)))
  (l14:K.lookup f14=some ⟨oc14,od14,.func (PySem.W.fnOf "refuse_outside" "refuse_outside" (defArgs (top 24)) (defBody (top 24)) (defScope (top 24)) .none kV14 dc14 pm14 an14 cd14 ct14),sl14⟩) (c14:PySem.W.codeIn K cd14 "refuse_outside" = true) (k14:PySem.W.keepIn K (.ref f14)=true)
  (a15:PySem.W.nsIn K mainGlobals "tile_at" = some (some (.ref f15)))
  (l15:K.lookup f15=some ⟨oc15,od15,.func (PySem.W.fnOf "tile_at" "tile_at" (defArgs (top 25)) (defBody (top 25)) (defScope (top 25)) .none kV15 dc15 pm15 an15 cd15 ct15),sl15⟩) (c15:PySem.W.codeIn K cd15 "tile_at" = true) (k15:PySem.W.keepIn K (.ref f15)=true)
  (a16:PySem.W.nsIn K mainGlobals "with_number" = some (some (.ref f16)))
  (l16:K.lookup f16=some ⟨oc16,od16,.func (PySem.W.fnOf "with_number" "with_number" (defArgs (top 26)) (defBody (top 26)) (defScope (top 26)) .none kV16 dc16 pm16 an16 cd16 ct16),sl16⟩) (c16:PySem.W.codeIn K cd16 "with_number" = true) (k16:PySem.W.keepIn K (.ref f16)=true)
  (a17:PySem.W.nsIn K mainGlobals "with_tile" = some (some (.ref f17)))
  (l17:K.lookup f17=some ⟨oc17,od17,.func (PySem.W.fnOf "with_tile" "with_tile" (defArgs (top 27)) (defBody (top 27)) (defScope (top 27)) .none kV17 dc17 pm17 an17 cd17 ct17),sl17⟩) (c17:PySem.W.codeIn K cd17 "with_tile" = true) (k17:PySem.W.keepIn K (.ref f17)=true)
  (a18:PySem.W.nsIn K mainGlobals "edge_at" = some (some (.ref f18)))
  (l18:K.lookup f18=some ⟨oc18,od18,.func (PySem.W.fnOf "edge_at" "edge_at" (defArgs (top 28)) (defBody (top 28)) (defScope (top 28)) .none kV18 dc18 pm18 an18 cd18 ct18),sl18⟩) (c18:PySem.W.codeIn K cd18 "edge_at" = true) (k18:PySem.W.keepIn K (.ref f18)=true)
  (a19:PySem.W.nsIn K mainGlobals "colours_east" = some (some (.ref f19)))
  (l19:K.lookup f19=some ⟨oc19,od19,.func (PySem.W.fnOf "colours_east" "colours_east" (defArgs (top 29)) (defBody (top 29)) (defScope (top 29)) .none kV19 dc19 pm19 an19 cd19 ct19),sl19⟩) (c19:PySem.W.codeIn K cd19 "colours_east" = true) (k19:PySem.W.keepIn K (.ref f19)=true)
  (a20:PySem.W.nsIn K mainGlobals "colours_south" = some (some (.ref f20)))
  (l20:K.lookup f20=some ⟨oc20,od20,.func (PySem.W.fnOf "colours_south" "colours_south" (defArgs (top 30)) (defBody (top 30)) (defScope (top 30)) .none kV20 dc20 pm20 an20 cd20 ct20),sl20⟩) (c20:PySem.W.codeIn K cd20 "colours_south" = true) (k20:PySem.W.keepIn K (.ref f20)=true)
  (a21:PySem.W.nsIn K mainGlobals "do_clash" = some (some (.ref f21)))
  (l21:K.lookup f21=some ⟨oc21,od21,.func (PySem.W.fnOf "do_clash" "do_clash" (defArgs (top 31)) (defBody (top 31)) (defScope (top 31)) .none kV21 dc21 pm21 an21 cd21 ct21),sl21⟩) (c21:PySem.W.codeIn K cd21 "do_clash" = true) (k21:PySem.W.keepIn K (.ref f21)=true)
  (a22:PySem.W.nsIn K mainGlobals "clashes" = some (some (.ref f22)))
  (l22:K.lookup f22=some ⟨oc22,od22,.func (PySem.W.fnOf "clashes" "clashes" (defArgs (top 32)) (defBody (top 32)) (defScope (top 32)) .none kV22 dc22 pm22 an22 cd22 ct22),sl22⟩) (c22:PySem.W.codeIn K cd22 "clashes" = true) (k22:PySem.W.keepIn K (.ref f22)=true)
  (a23:PySem.W.nsIn K mainGlobals "is_right" = some (some (.ref f23)))
  (l23:K.lookup f23=some ⟨oc23,od23,.func (PySem.W.fnOf "is_right" "is_right" (defArgs (top 33)) (defBody (top 33)) (defScope (top 33)) .none kV23 dc23 pm23 an23 cd23 ct23),sl23⟩) (c23:PySem.W.codeIn K cd23 "is_right" = true) (k23:PySem.W.keepIn K (.ref f23)=true)
  (a24:PySem.W.nsIn K mainGlobals "suits" = some (some (.ref f24)))
  (l24:K.lookup f24=some ⟨oc24,od24,.func (PySem.W.fnOf "suits" "suits" (defArgs (top 35)) (defBody (top 35)) (defScope (top 35)) .none kV24 dc24 pm24 an24 cd24 ct24),sl24⟩) (c24:PySem.W.codeIn K cd24 "suits" = true) (k24:PySem.W.keepIn K (.ref f24)=true)
  {dt25:Addr} {dl25:Value} {dm25:Option Addr} {dn25:Nat} {dq25:Array (Option Value)}
  (a25:PySem.W.findIn K (.ref yWays) "__init__" = some (some (.ref f25))) (i25:PySem.W.isFn K (.ref f25)=true)
  (l25:K.lookup f25=some ⟨oc25,od25,.func (PySem.W.fnOf "__init__" "Ways.__init__" (defArgs (inC 0 (top 36))) (defBody (inC 0 (top 36))) (defScope (inC 0 (top 36))) (.ref dt25) kV25 dc25 pm25 an25 cd25 ct25),sl25⟩) (c25:PySem.W.codeIn K cd25 "Ways.__init__" = true) (k25:PySem.W.keepIn K (.ref f25)=true)
  (dk25:K.lookup dt25=some ⟨dl25,dm25,.seq #[Value.bool false] dn25,dq25⟩)
  (a26:PySem.W.findIn K (.ref yWays) "first_seam" = some (some (.ref f26))) (i26:PySem.W.isFn K (.ref f26)=true)
  (l26:K.lookup f26=some ⟨oc26,od26,.func (PySem.W.fnOf "first_seam" "Ways.first_seam" (defArgs (inC 1 (top 36))) (defBody (inC 1 (top 36))) (defScope (inC 1 (top 36))) .none kV26 dc26 pm26 an26 cd26 ct26),sl26⟩) (c26:PySem.W.codeIn K cd26 "Ways.first_seam" = true) (k26:PySem.W.keepIn K (.ref f26)=true)
  (a27:PySem.W.findIn K (.ref yWays) "ends_row" = some (some (.ref f27))) (i27:PySem.W.isFn K (.ref f27)=true)
  (l27:K.lookup f27=some ⟨oc27,od27,.func (PySem.W.fnOf "ends_row" "Ways.ends_row" (defArgs (inC 2 (top 36))) (defBody (inC 2 (top 36))) (defScope (inC 2 (top 36))) .none kV27 dc27 pm27 an27 cd27 ct27),sl27⟩) (c27:PySem.W.codeIn K cd27 "Ways.ends_row" = true) (k27:PySem.W.keepIn K (.ref f27)=true)
  (a28:PySem.W.findIn K (.ref yWays) "colour_round" = some (some (.ref f28))) (i28:PySem.W.isFn K (.ref f28)=true)
  (l28:K.lookup f28=some ⟨oc28,od28,.func (PySem.W.fnOf "colour_round" "Ways.colour_round" (defArgs (inC 3 (top 36))) (defBody (inC 3 (top 36))) (defScope (inC 3 (top 36))) .none kV28 dc28 pm28 an28 cd28 ct28),sl28⟩) (c28:PySem.W.codeIn K cd28 "Ways.colour_round" = true) (k28:PySem.W.keepIn K (.ref f28)=true)
  (a29:PySem.W.findIn K (.ref yWays) "seam_behind" = some (some (.ref f29))) (i29:PySem.W.isFn K (.ref f29)=true)
  (l29:K.lookup f29=some ⟨oc29,od29,.func (PySem.W.fnOf "seam_behind" "Ways.seam_behind" (defArgs (inC 4 (top 36))) (defBody (inC 4 (top 36))) (defScope (inC 4 (top 36))) .none kV29 dc29 pm29 an29 cd29 ct29),sl29⟩) (c29:PySem.W.codeIn K cd29 "Ways.seam_behind" = true) (k29:PySem.W.keepIn K (.ref f29)=true)
  (a30:PySem.W.findIn K (.ref yWays) "numbers_for" = some (some (.ref f30))) (i30:PySem.W.isFn K (.ref f30)=true)
  (l30:K.lookup f30=some ⟨oc30,od30,.func (PySem.W.fnOf "numbers_for" "Ways.numbers_for" (defArgs (inC 5 (top 36))) (defBody (inC 5 (top 36))) (defScope (inC 5 (top 36))) .none kV30 dc30 pm30 an30 cd30 ct30),sl30⟩) (c30:PySem.W.codeIn K cd30 "Ways.numbers_for" = true) (k30:PySem.W.keepIn K (.ref f30)=true)
  (a31:PySem.W.findIn K (.ref yWays) "fits_round" = some (some (.ref f31))) (i31:PySem.W.isFn K (.ref f31)=true)
  (l31:K.lookup f31=some ⟨oc31,od31,.func (PySem.W.fnOf "fits_round" "Ways.fits_round" (defArgs (inC 6 (top 36))) (defBody (inC 6 (top 36))) (defScope (inC 6 (top 36))) .none kV31 dc31 pm31 an31 cd31 ct31),sl31⟩) (c31:PySem.W.codeIn K cd31 "Ways.fits_round" = true) (k31:PySem.W.keepIn K (.ref f31)=true)
  (a32:PySem.W.findIn K (.ref yWays) "fits" = some (some (.ref f32))) (i32:PySem.W.isFn K (.ref f32)=true)
  (l32:K.lookup f32=some ⟨oc32,od32,.func (PySem.W.fnOf "fits" "Ways.fits" (defArgs (inC 7 (top 36))) (defBody (inC 7 (top 36))) (defScope (inC 7 (top 36))) .none kV32 dc32 pm32 an32 cd32 ct32),sl32⟩) (c32:PySem.W.codeIn K cd32 "Ways.fits" = true) (k32:PySem.W.keepIn K (.ref f32)=true)
  (a33:PySem.W.findIn K (.ref yWays) "choices" = some (some (.ref f33))) (i33:PySem.W.isFn K (.ref f33)=true)
  (l33:K.lookup f33=some ⟨oc33,od33,.func (PySem.W.fnOf "choices" "Ways.choices" (defArgs (inC 8 (top 36))) (defBody (inC 8 (top 36))) (defScope (inC 8 (top 36))) .none kV33 dc33 pm33 an33 cd33 ct33),sl33⟩) (c33:PySem.W.codeIn K cd33 "Ways.choices" = true) (k33:PySem.W.keepIn K (.ref f33)=true)
  (a34:PySem.W.findIn K (.ref yWays) "count_from" = some (some (.ref f34))) (i34:PySem.W.isFn K (.ref f34)=true)
  (l34:K.lookup f34=some ⟨oc34,od34,.func (PySem.W.fnOf "count_from" "Ways.count_from" (defArgs (inC 9 (top 36))) (defBody (inC 9 (top 36))) (defScope (inC 9 (top 36))) .none kV34 dc34 pm34 an34 cd34 ct34),sl34⟩) (c34:PySem.W.codeIn K cd34 "Ways.count_from" = true) (k34:PySem.W.keepIn K (.ref f34)=true)
  (a35:PySem.W.findIn K (.ref yWays) "count_all" = some (some (.ref f35))) (i35:PySem.W.isFn K (.ref f35)=true)
  (l35:K.lookup f35=some ⟨oc35,od35,.func (PySem.W.fnOf "count_all" "Ways.count_all" (defArgs (inC 10 (top 36))) (defBody (inC 10 (top 36))) (defScope (inC 10 (top 36))) .none kV35 dc35 pm35 an35 cd35 ct35),sl35⟩) (c35:PySem.W.codeIn K cd35 "Ways.count_all" = true) (k35:PySem.W.keepIn K (.ref f35)=true)
  (a36:PySem.W.findIn K (.ref yWays) "numbers_by" = some (some (.ref f36))) (i36:PySem.W.isFn K (.ref f36)=true)
  (l36:K.lookup f36=some ⟨oc36,od36,.func (PySem.W.fnOf "numbers_by" "Ways.numbers_by" (defArgs (inC 11 (top 36))) (defBody (inC 11 (top 36))) (defScope (inC 11 (top 36))) .none kV36 dc36 pm36 an36 cd36 ct36),sl36⟩) (c36:PySem.W.codeIn K cd36 "Ways.numbers_by" = true) (k36:PySem.W.keepIn K (.ref f36)=true)
  (a37:PySem.W.findIn K (.ref yWays) "whole_by" = some (some (.ref f37))) (i37:PySem.W.isFn K (.ref f37)=true)
  (l37:K.lookup f37=some ⟨oc37,od37,.func (PySem.W.fnOf "whole_by" "Ways.whole_by" (defArgs (inC 12 (top 36))) (defBody (inC 12 (top 36))) (defScope (inC 12 (top 36))) .none kV37 dc37 pm37 an37 cd37 ct37),sl37⟩) (c37:PySem.W.codeIn K cd37 "Ways.whole_by" = true) (k37:PySem.W.keepIn K (.ref f37)=true)
  (a38:PySem.W.nsIn K mainGlobals "count_fills" = some (some (.ref f38)))
  (l38:K.lookup f38=some ⟨oc38,od38,.func (PySem.W.fnOf "count_fills" "count_fills" (defArgs (top 37)) (defBody (top 37)) (defScope (top 37)) .none kV38 dc38 pm38 an38 cd38 ct38),sl38⟩) (c38:PySem.W.codeIn K cd38 "count_fills" = true) (k38:PySem.W.keepIn K (.ref f38)=true)
  (a39:PySem.W.nsIn K mainGlobals "is_fill" = some (some (.ref f39)))
  (l39:K.lookup f39=some ⟨oc39,od39,.func (PySem.W.fnOf "is_fill" "is_fill" (defArgs (top 38)) (defBody (top 38)) (defScope (top 38)) .none kV39 dc39 pm39 an39 cd39 ct39),sl39⟩) (c39:PySem.W.codeIn K cd39 "is_fill" = true) (k39:PySem.W.keepIn K (.ref f39)=true)
  (a40:PySem.W.nsIn K mainGlobals "fill" = some (some (.ref f40)))
  (l40:K.lookup f40=some ⟨oc40,od40,.func (PySem.W.fnOf "fill" "fill" (defArgs (top 39)) (defBody (top 39)) (defScope (top 39)) .none kV40 dc40 pm40 an40 cd40 ct40),sl40⟩) (c40:PySem.W.codeIn K cd40 "fill" = true) (k40:PySem.W.keepIn K (.ref f40)=true)
  (a41:PySem.W.nsIn K mainGlobals "counts_at" = some (some (.ref f41)))
  (l41:K.lookup f41=some ⟨oc41,od41,.func (PySem.W.fnOf "counts_at" "counts_at" (defArgs (top 41)) (defBody (top 41)) (defScope (top 41)) .none kV41 dc41 pm41 an41 cd41 ct41),sl41⟩) (c41:PySem.W.codeIn K cd41 "counts_at" = true) (k41:PySem.W.keepIn K (.ref f41)=true)
  (a42:PySem.W.nsIn K mainGlobals "may_stand" = some (some (.ref f42)))
  (l42:K.lookup f42=some ⟨oc42,od42,.func (PySem.W.fnOf "may_stand" "may_stand" (defArgs (top 42)) (defBody (top 42)) (defScope (top 42)) .none kV42 dc42 pm42 an42 cd42 ct42),sl42⟩) (c42:PySem.W.codeIn K cd42 "may_stand" = true) (k42:PySem.W.keepIn K (.ref f42)=true)
  (a43:PySem.W.nsIn K mainGlobals "bare_places" = some (some (.ref f43)))
  (l43:K.lookup f43=some ⟨oc43,od43,.func (PySem.W.fnOf "bare_places" "bare_places" (defArgs (top 43)) (defBody (top 43)) (defScope (top 43)) .none kV43 dc43 pm43 an43 cd43 ct43),sl43⟩) (c43:PySem.W.codeIn K cd43 "bare_places" = true) (k43:PySem.W.keepIn K (.ref f43)=true)
  (a44:PySem.W.nsIn K mainGlobals "forced" = some (some (.ref f44)))
  (l44:K.lookup f44=some ⟨oc44,od44,.func (PySem.W.fnOf "forced" "forced" (defArgs (top 44)) (defBody (top 44)) (defScope (top 44)) .none kV44 dc44 pm44 an44 cd44 ct44),sl44⟩) (c44:PySem.W.codeIn K cd44 "forced" = true) (k44:PySem.W.keepIn K (.ref f44)=true)
  (a45:PySem.W.nsIn K mainGlobals "with_forced" = some (some (.ref f45)))
  (l45:K.lookup f45=some ⟨oc45,od45,.func (PySem.W.fnOf "with_forced" "with_forced" (defArgs (top 45)) (defBody (top 45)) (defScope (top 45)) .none kV45 dc45 pm45 an45 cd45 ct45),sl45⟩) (c45:PySem.W.codeIn K cd45 "with_forced" = true) (k45:PySem.W.keepIn K (.ref f45)=true)
  (a46:PySem.W.nsIn K mainGlobals "_law_cell" = some (some (.ref f46)))
  (l46:K.lookup f46=some ⟨oc46,od46,.func (PySem.W.fnOf "_law_cell" "_law_cell" (defArgs (top 47)) (defBody (top 47)) (defScope (top 47)) .none kV46 dc46 pm46 an46 cd46 ct46),sl46⟩) (c46:PySem.W.codeIn K cd46 "_law_cell" = true) (k46:PySem.W.keepIn K (.ref f46)=true)
  (a47:PySem.W.nsIn K mainGlobals "_law_pick" = some (some (.ref f47)))
  (l47:K.lookup f47=some ⟨oc47,od47,.func (PySem.W.fnOf "_law_pick" "_law_pick" (defArgs (top 48)) (defBody (top 48)) (defScope (top 48)) .none kV47 dc47 pm47 an47 cd47 ct47),sl47⟩) (c47:PySem.W.codeIn K cd47 "_law_pick" = true) (k47:PySem.W.keepIn K (.ref f47)=true)
  (a48:PySem.W.nsIn K mainGlobals "_law_tiles" = some (some (.ref f48)))
  (l48:K.lookup f48=some ⟨oc48,od48,.func (PySem.W.fnOf "_law_tiles" "_law_tiles" (defArgs (top 49)) (defBody (top 49)) (defScope (top 49)) .none kV48 dc48 pm48 an48 cd48 ct48),sl48⟩) (c48:PySem.W.codeIn K cd48 "_law_tiles" = true) (k48:PySem.W.keepIn K (.ref f48)=true)
  (a49:PySem.W.nsIn K mainGlobals "_law_floor" = some (some (.ref f49)))
  (l49:K.lookup f49=some ⟨oc49,od49,.func (PySem.W.fnOf "_law_floor" "_law_floor" (defArgs (top 50)) (defBody (top 50)) (defScope (top 50)) .none kV49 dc49 pm49 an49 cd49 ct49),sl49⟩) (c49:PySem.W.codeIn K cd49 "_law_floor" = true) (k49:PySem.W.keepIn K (.ref f49)=true)
  (a50:PySem.W.nsIn K mainGlobals "law" = some (some (.ref f50)))
  (l50:K.lookup f50=some ⟨oc50,od50,.func (PySem.W.fnOf "law" "law" (defArgs (top 52)) (defBody (top 52)) (defScope (top 52)) .none kV50 dc50 pm50 an50 cd50 ct50),sl50⟩) (c50:PySem.W.codeIn K cd50 "law" = true) (k50:PySem.W.keepIn K (.ref f50)=true)
  (z1:PySem.W.nsIn K mainGlobals "isinstance" = some none)
  (z2:PySem.W.nsIn K mainGlobals "int" = some none)
  (z3:PySem.W.nsIn K mainGlobals "bool" = some none)
  (z4:PySem.W.nsIn K mainGlobals "tuple" = some none)
  (z5:PySem.W.nsIn K mainGlobals "list" = some none)
  (z6:PySem.W.nsIn K mainGlobals "len" = some none)
  (z7:PySem.W.nsIn K mainGlobals "range" = some none)
  (z8:PySem.W.nsIn K mainGlobals "all" = some none)
  (z9:PySem.W.nsIn K mainGlobals "sum" = some none)
  (z10:PySem.W.nsIn K mainGlobals "enumerate" = some none)
  (z11:PySem.W.nsIn K mainGlobals "zip" = some none)
  (z12:PySem.W.nsIn K mainGlobals "ValueError" = some none)
  {gt1:Tok} (gl1:PySem.W.nsIn K mainGlobals "NORTH" = some (some (.int 0 gt1)))
  {gt2:Tok} (gl2:PySem.W.nsIn K mainGlobals "EAST" = some (some (.int 1 gt2)))
  {gt3:Tok} (gl3:PySem.W.nsIn K mainGlobals "SOUTH" = some (some (.int 2 gt3)))
  {gt4:Tok} (gl4:PySem.W.nsIn K mainGlobals "WEST" = some (some (.int 3 gt4)))
  {e0 e1 e2 e3:Addr}
  (n0:PySem.W.nsIn K mainGlobals "FloorError" = some (some (.ref e0))) (x0:PySem.W.excIn K e0 bmV "ValueError.__new__" = true)
  (n1:PySem.W.nsIn K mainGlobals "NoPlace" = some (some (.ref e1))) (x1:PySem.W.excIn K e1 bmV "ValueError.__new__" = true)
  (n2:PySem.W.nsIn K mainGlobals "NoTile" = some (some (.ref e2))) (x2:PySem.W.excIn K e2 bmV "ValueError.__new__" = true)
  (n3:PySem.W.nsIn K mainGlobals "NoFill" = some (some (.ref e3))) (x3:PySem.W.excIn K e3 bmV "ValueError.__new__" = true)
  {el1:Value} {ed1:Option Addr} {ec1:ClassData} {es1:Array (Option Value)} (lk1:K.lookup e1=some ⟨el1,ed1,.cls ec1,es1⟩) (mr1:ec1.mro.contains (.ref e0)=true)
  {el2:Value} {ed2:Option Addr} {ec2:ClassData} {es2:Array (Option Value)} (lk2:K.lookup e2=some ⟨el2,ed2,.cls ec2,es2⟩) (mr2:ec2.mro.contains (.ref e0)=true)
  {el3:Value} {ed3:Option Addr} {ec3:ClassData} {es3:Array (Option Value)} (lk3:K.lookup e3=some ⟨el3,ed3,.cls ec3,es3⟩) (mr3:ec3.mro.contains (.ref e0)=true)
  : ∃fd:FuncData,(∀(s:Shared) (v:Value),BindsTo s fd ⟨[v],[]⟩ [("_law_script",v)])/\∀base:Heap,K.In base->base.Ns mainGlobals mg->FnOk l.prog w K mg base (CXE l.prog w) 90 fa fd ["_law_script"] (S2.spLaw K):=by
 have e:=hfa.symm.trans (PySem.W.mg_of X G a50)
 cases e
 have CLWays:Cls K yWays:=⟨pgWays,hdWays,poWays,saWays⟩
 have U1:=fun_mk (st:=(top 11)) l1 c1 k1
 have b1:=U1.binds (ps:=["thing"]) fun _ _ _ _ _ _ us hl=>match us,hl with | [_],_=>rfl
 have m1:=PySem.W.mg_of X G a1
 have U2:=fun_mk (st:=(top 12)) l2 c2 k2
 have b2:=U2.binds (ps:=["thing","least","most"]) fun _ _ _ _ _ _ us hl=>match us,hl with | [_,_,_],_=>rfl
 have m2:=PySem.W.mg_of X G a2
 have U3:=fun_mk (st:=(top 13)) l3 c3 k3
 have b3:=U3.binds (ps:=["tiles","thing"]) fun _ _ _ _ _ _ us hl=>match us,hl with | [_,_],_=>rfl
 have m3:=PySem.W.mg_of X G a3
 have U4:=fun_mk (st:=(top 14)) l4 c4 k4
 have b4:=U4.binds (ps:=["tiles","thing"]) fun _ _ _ _ _ _ us hl=>match us,hl with | [_,_],_=>rfl
 have m4:=PySem.W.mg_of X G a4
 have U5:=fun_mk (st:=(top 15)) l5 c5 k5
 have b5:=U5.binds (ps:=["floor"]) fun _ _ _ _ _ _ us hl=>match us,hl with | [_],_=>rfl
 have m5:=PySem.W.mg_of X G a5
 have U6:=fun_mk (st:=(top 16)) l6 c6 k6
 have b6:=U6.binds (ps:=["floor"]) fun _ _ _ _ _ _ us hl=>match us,hl with | [_],_=>rfl
 have m6:=PySem.W.mg_of X G a6
 have U7:=fun_mk (st:=(top 17)) l7 c7 k7
 have b7:=U7.binds (ps:=["row","thing"]) fun _ _ _ _ _ _ us hl=>match us,hl with | [_,_],_=>rfl
 have m7:=PySem.W.mg_of X G a7
 have U8:=fun_mk (st:=(top 18)) l8 c8 k8
 have b8:=U8.binds (ps:=["floor","thing"]) fun _ _ _ _ _ _ us hl=>match us,hl with | [_,_],_=>rfl
 have m8:=PySem.W.mg_of X G a8
 have U9:=fun_mk (st:=(top 19)) l9 c9 k9
 have b9:=U9.binds (ps:=["numbers","size"]) fun _ _ _ _ _ _ us hl=>match us,hl with | [_,_],_=>rfl
 have m9:=PySem.W.mg_of X G a9
 have U10:=fun_mk (st:=(top 20)) l10 c10 k10
 have b10:=U10.binds (ps:=["floor","place"]) fun _ _ _ _ _ _ us hl=>match us,hl with | [_,_],_=>rfl
 have m10:=PySem.W.mg_of X G a10
 have U11:=fun_mk (st:=(top 21)) l11 c11 k11
 have b11:=U11.binds (ps:=["floor"]) fun _ _ _ _ _ _ us hl=>match us,hl with | [_],_=>rfl
 have m11:=PySem.W.mg_of X G a11
 have U12:=fun_mk (st:=(top 22)) l12 c12 k12
 have b12:=U12.binds (ps:=["whole","floor"]) fun _ _ _ _ _ _ us hl=>match us,hl with | [_,_],_=>rfl
 have m12:=PySem.W.mg_of X G a12
 have U13:=fun_mk (st:=(top 23)) l13 c13 k13
 have b13:=U13.binds (ps:=["floor","place"]) fun _ _ _ _ _ _ us hl=>match us,hl with | [_,_],_=>rfl
 have m13:=PySem.W.mg_of X G a13
 have U14:=fun_mk (st:=(top 24)) l14 c14 k14
 have b14:=U14.binds (ps:=["floor","place"]) fun _ _ _ _ _ _ us hl=>match us,hl with | [_,_],_=>rfl
 have m14:=PySem.W.mg_of X G a14
 have U15:=fun_mk (st:=(top 25)) l15 c15 k15
 have b15:=U15.binds (ps:=["floor","place"]) fun _ _ _ _ _ _ us hl=>match us,hl with | [_,_],_=>rfl
 have m15:=PySem.W.mg_of X G a15
 have U16:=fun_mk (st:=(top 26)) l16 c16 k16
 have b16:=U16.binds (ps:=["floor","place","number"]) fun _ _ _ _ _ _ us hl=>match us,hl with | [_,_,_],_=>rfl
 have m16:=PySem.W.mg_of X G a16
 have U17:=fun_mk (st:=(top 27)) l17 c17 k17
 have b17:=U17.binds (ps:=["tiles","floor","place","number"]) fun _ _ _ _ _ _ us hl=>match us,hl with | [_,_,_,_],_=>rfl
 have m17:=PySem.W.mg_of X G a17
 have U18:=fun_mk (st:=(top 28)) l18 c18 k18
 have b18:=U18.binds (ps:=["tiles","floor","place","side"]) fun _ _ _ _ _ _ us hl=>match us,hl with | [_,_,_,_],_=>rfl
 have m18:=PySem.W.mg_of X G a18
 have U19:=fun_mk (st:=(top 29)) l19 c19 k19
 have b19:=U19.binds (ps:=["tiles","floor","place"]) fun _ _ _ _ _ _ us hl=>match us,hl with | [_,_,_],_=>rfl
 have m19:=PySem.W.mg_of X G a19
 have U20:=fun_mk (st:=(top 30)) l20 c20 k20
 have b20:=U20.binds (ps:=["tiles","floor","place"]) fun _ _ _ _ _ _ us hl=>match us,hl with | [_,_,_],_=>rfl
 have m20:=PySem.W.mg_of X G a20
 have U21:=fun_mk (st:=(top 31)) l21 c21 k21
 have b21:=U21.binds (ps:=["colours"]) fun _ _ _ _ _ _ us hl=>match us,hl with | [_],_=>rfl
 have m21:=PySem.W.mg_of X G a21
 have U22:=fun_mk (st:=(top 32)) l22 c22 k22
 have b22:=U22.binds (ps:=["tiles","floor"]) fun _ _ _ _ _ _ us hl=>match us,hl with | [_,_],_=>rfl
 have m22:=PySem.W.mg_of X G a22
 have U23:=fun_mk (st:=(top 33)) l23 c23 k23
 have b23:=U23.binds (ps:=["tiles","floor"]) fun _ _ _ _ _ _ us hl=>match us,hl with | [_,_],_=>rfl
 have m23:=PySem.W.mg_of X G a23
 have U24:=fun_mk (st:=(top 35)) l24 c24 k24
 have b24:=U24.binds (ps:=["wanted","colour"]) fun _ _ _ _ _ _ us hl=>match us,hl with | [_,_],_=>rfl
 have m24:=PySem.W.mg_of X G a24
 have U25:FunD K "__init__" "Ways.__init__" (inC 0 (top 36)) f25 _ #[Value.bool false]:=⟨⟨_,_,_,_,dn25,_,_,_,_,_,_,_,rfl,l25,c25,dk25,rfl⟩⟩
 have b25:Binds K (PySem.W.fnOf "__init__" "Ways.__init__" (defArgs (inC 0 (top 36))) (defBody (inC 0 (top 36))) (defScope (inC 0 (top 36))) (.ref dt25) kV25 dc25 pm25 an25 cd25 ct25) ["self","tiles","floor","is_round"] []:=fun s us KX hl=>by
  have h3:us.length=4:=by simpa using hl
  match us,h3 with
  | [_,_,_,_],_=>exact PySem.W.binds_K KX rfl dk25 rfl rfl rfl
 have bd25:Binds K (PySem.W.fnOf "__init__" "Ways.__init__" (defArgs (inC 0 (top 36))) (defBody (inC 0 (top 36))) (defScope (inC 0 (top 36))) (.ref dt25) kV25 dc25 pm25 an25 cd25 ct25) ["self","tiles","floor","is_round"] [Value.bool false]:=fun s us KX hl=>by
  have h3:us.length=3:=by simpa using hl
  match us,h3 with
  | [_,_,_],_=>exact PySem.W.binds_K KX rfl dk25 rfl rfl rfl
 have U26:=fun_mk (st:=(inC 1 (top 36))) l26 c26 k26
 have b26:=U26.binds (ps:=["self"]) fun _ _ _ _ _ _ us hl=>match us,hl with | [_],_=>rfl
 have U27:=fun_mk (st:=(inC 2 (top 36))) l27 c27 k27
 have b27:=U27.binds (ps:=["self","step"]) fun _ _ _ _ _ _ us hl=>match us,hl with | [_,_],_=>rfl
 have U28:=fun_mk (st:=(inC 3 (top 36))) l28 c28 k28
 have b28:=U28.binds (ps:=["self","step","seam","tile"]) fun _ _ _ _ _ _ us hl=>match us,hl with | [_,_,_,_],_=>rfl
 have U29:=fun_mk (st:=(inC 4 (top 36))) l29 c29 k29
 have b29:=U29.binds (ps:=["self","step","seam","tile"]) fun _ _ _ _ _ _ us hl=>match us,hl with | [_,_,_,_],_=>rfl
 have U30:=fun_mk (st:=(inC 5 (top 36))) l30 c30 k30
 have b30:=U30.binds (ps:=["self","step"]) fun _ _ _ _ _ _ us hl=>match us,hl with | [_,_],_=>rfl
 have U31:=fun_mk (st:=(inC 6 (top 36))) l31 c31 k31
 have b31:=U31.binds (ps:=["self","step","seam","tile"]) fun _ _ _ _ _ _ us hl=>match us,hl with | [_,_,_,_],_=>rfl
 have U32:=fun_mk (st:=(inC 7 (top 36))) l32 c32 k32
 have b32:=U32.binds (ps:=["self","step","seam","tile"]) fun _ _ _ _ _ _ us hl=>match us,hl with | [_,_,_,_],_=>rfl
 have U33:=fun_mk (st:=(inC 8 (top 36))) l33 c33 k33
 have b33:=U33.binds (ps:=["self","step","seam"]) fun _ _ _ _ _ _ us hl=>match us,hl with | [_,_,_],_=>rfl
 have U34:=fun_mk (st:=(inC 9 (top 36))) l34 c34 k34
 have b34:=U34.binds (ps:=["self","step","seam"]) fun _ _ _ _ _ _ us hl=>match us,hl with | [_,_,_],_=>rfl
 have U35:=fun_mk (st:=(inC 10 (top 36))) l35 c35 k35
 have b35:=U35.binds (ps:=["self"]) fun _ _ _ _ _ _ us hl=>match us,hl with | [_],_=>rfl
 have U36:=fun_mk (st:=(inC 11 (top 36))) l36 c36 k36
 have b36:=U36.binds (ps:=["self","number"]) fun _ _ _ _ _ _ us hl=>match us,hl with | [_,_],_=>rfl
 have U37:=fun_mk (st:=(inC 12 (top 36))) l37 c37 k37
 have b37:=U37.binds (ps:=["self","number"]) fun _ _ _ _ _ _ us hl=>match us,hl with | [_,_],_=>rfl
 have U38:=fun_mk (st:=(top 37)) l38 c38 k38
 have b38:=U38.binds (ps:=["tiles","floor"]) fun _ _ _ _ _ _ us hl=>match us,hl with | [_,_],_=>rfl
 have m38:=PySem.W.mg_of X G a38
 have U39:=fun_mk (st:=(top 38)) l39 c39 k39
 have b39:=U39.binds (ps:=["tiles","floor","whole"]) fun _ _ _ _ _ _ us hl=>match us,hl with | [_,_,_],_=>rfl
 have m39:=PySem.W.mg_of X G a39
 have U40:=fun_mk (st:=(top 39)) l40 c40 k40
 have b40:=U40.binds (ps:=["tiles","floor","number"]) fun _ _ _ _ _ _ us hl=>match us,hl with | [_,_,_],_=>rfl
 have m40:=PySem.W.mg_of X G a40
 have U41:=fun_mk (st:=(top 41)) l41 c41 k41
 have b41:=U41.binds (ps:=["tiles","floor","place"]) fun _ _ _ _ _ _ us hl=>match us,hl with | [_,_,_],_=>rfl
 have m41:=PySem.W.mg_of X G a41
 have U42:=fun_mk (st:=(top 42)) l42 c42 k42
 have b42:=U42.binds (ps:=["tiles","floor","place"]) fun _ _ _ _ _ _ us hl=>match us,hl with | [_,_,_],_=>rfl
 have m42:=PySem.W.mg_of X G a42
 have U43:=fun_mk (st:=(top 43)) l43 c43 k43
 have b43:=U43.binds (ps:=["floor"]) fun _ _ _ _ _ _ us hl=>match us,hl with | [_],_=>rfl
 have m43:=PySem.W.mg_of X G a43
 have U44:=fun_mk (st:=(top 44)) l44 c44 k44
 have b44:=U44.binds (ps:=["tiles","floor"]) fun _ _ _ _ _ _ us hl=>match us,hl with | [_,_],_=>rfl
 have m44:=PySem.W.mg_of X G a44
 have U45:=fun_mk (st:=(top 45)) l45 c45 k45
 have b45:=U45.binds (ps:=["tiles","floor"]) fun _ _ _ _ _ _ us hl=>match us,hl with | [_,_],_=>rfl
 have m45:=PySem.W.mg_of X G a45
 have U46:=fun_mk (st:=(top 47)) l46 c46 k46
 have b46:=U46.binds (ps:=["_law_script","_law_k"]) fun _ _ _ _ _ _ us hl=>match us,hl with | [_,_],_=>rfl
 have m46:=PySem.W.mg_of X G a46
 have U47:=fun_mk (st:=(top 48)) l47 c47 k47
 have b47:=U47.binds (ps:=["_law_script","_law_k","_law_many"]) fun _ _ _ _ _ _ us hl=>match us,hl with | [_,_,_],_=>rfl
 have m47:=PySem.W.mg_of X G a47
 have U48:=fun_mk (st:=(top 49)) l48 c48 k48
 have b48:=U48.binds (ps:=["_law_script","_law_at","_law_most"]) fun _ _ _ _ _ _ us hl=>match us,hl with | [_,_,_],_=>rfl
 have m48:=PySem.W.mg_of X G a48
 have U49:=fun_mk (st:=(top 50)) l49 c49 k49
 have b49:=U49.binds (ps:=["_law_script","_law_at","_law_tiles_here","_law_rows","_law_columns","_law_many"]) fun _ _ _ _ _ _ us hl=>match us,hl with | [_,_,_,_,_,_],_=>rfl
 have m49:=PySem.W.mg_of X G a49
 have U50:=fun_mk (st:=(top 52)) l50 c50 k50
 refine ⟨PySem.W.fnOf "law" "law" (defArgs (top 52)) (defBody (top 52)) (defScope (top 52)) .none kV50 dc50 pm50 an50 cd50 ct50,fun s v=>.of_eq rfl,fun base _ _=>?_⟩
 let cl:Cf:=⟨fun x=>(([("FloorError",e0),("NoPlace",e1),("NoTile",e2),("NoFill",e3),("Ways",yWays)]:List (Str×Addr)).lookup x).getD 0,K,l.prog,w⟩
 have g0:GOk cl (Gn T F0) l.prog w K mg base 0:=gok0 (cl:=cl) (fa_cons ⟨.int 0,_,PySem.W.mg_of X G gl1,⟨_,rfl⟩,fun _=>.int _⟩ (fa_cons ⟨.int 1,_,PySem.W.mg_of X G gl2,⟨_,rfl⟩,fun _=>.int _⟩ (fa_cons ⟨.int 2,_,PySem.W.mg_of X G gl3,⟨_,rfl⟩,fun _=>.int _⟩ (fa_cons ⟨.int 3,_,PySem.W.mg_of X G gl4,⟨_,rfl⟩,fun _=>.int _⟩ fa_nil)))) (fa_cons (PySem.W.mg_none_of X G z1) (fa_cons (PySem.W.mg_none_of X G z2) (fa_cons (PySem.W.mg_none_of X G z3) (fa_cons (PySem.W.mg_none_of X G z4) (fa_cons (PySem.W.mg_none_of X G z5) (fa_cons (PySem.W.mg_none_of X G z6) (fa_cons (PySem.W.mg_none_of X G z7) (fa_cons (PySem.W.mg_none_of X G z8) (fa_cons (PySem.W.mg_none_of X G z9) (fa_cons (PySem.W.mg_none_of X G z10) (fa_cons (PySem.W.mg_none_of X G z11) (fa_cons (PySem.W.mg_none_of X G z12) fa_nil)))))))))))) (fa_cons ⟨PySem.W.mg_of X G n0,x0⟩ (fa_cons ⟨PySem.W.mg_of X G n1,x1⟩ (fa_cons ⟨PySem.W.mg_of X G n2,x2⟩ (fa_cons ⟨PySem.W.mg_of X G n3,x3⟩ fa_nil)))) (fa_cons ⟨⟨_,_,x1⟩,_,_,_,_,lk1,mr1⟩ (fa_cons ⟨⟨_,_,x2⟩,_,_,_,_,lk2,mr2⟩ (fa_cons ⟨⟨_,_,x3⟩,_,_,_,_,lk3,mr3⟩ fa_nil))) fa_nil (fa_cons ⟨CLWays,naWaystiles⟩ (fa_cons ⟨CLWays,naWaysground⟩ (fa_cons ⟨CLWays,naWayssize⟩ (fa_cons ⟨CLWays,naWaysis_round⟩ (fa_cons ⟨CLWays,naWaysknown⟩ fa_nil)))))
 have G1:=fn_ok (cl:=cl) (wo:=w) (P:=l.prog) U1 s1 g0 rfl rfl rfl d1
 have g1:GOk cl (Gn T F1) l.prog w K mg base 1:=GOk.add (fi:=⟨1,false,r_is_whole⟩) g0 m1 k1 b1 G1
 have G2:=fn_ok (cl:=cl) (wo:=w) (P:=l.prog) U2 s2 g1 rfl rfl rfl d2
 have g2:GOk cl (Gn T F2) l.prog w K mg base 2:=GOk.add (fi:=⟨3,false,r_is_tuple_of⟩) g1 m2 k2 b2 G2
 have G3:=fn_ok (cl:=cl) (wo:=w) (P:=l.prog) U3 s3 g2 rfl rfl rfl d3
 have g3:GOk cl (Gn T F3) l.prog w K mg base 3:=GOk.add (fi:=⟨2,false,r_has_number⟩) g2 m3 k3 b3 G3
 have G4:=fn_ok (cl:=cl) (wo:=w) (P:=l.prog) U4 s4 g3 rfl rfl rfl d4
 have g4:GOk cl (Gn T F4) l.prog w K mg base 4:=GOk.add (fi:=⟨2,false,r_may_lie⟩) g3 m4 k4 b4 G4
 have G5:=fn_ok (cl:=cl) (wo:=w) (P:=l.prog) U5 s5 g4 rfl rfl rfl d5
 have g5:GOk cl (Gn T F5) l.prog w K mg base 5:=GOk.add (fi:=⟨1,false,r_size_of⟩) g4 m5 k5 b5 G5
 have G6:=fn_ok (cl:=cl) (wo:=w) (P:=l.prog) U6 s6 g5 rfl rfl rfl d6
 have g6:GOk cl (Gn T F6) l.prog w K mg base 6:=GOk.add (fi:=⟨1,true,r_places_of⟩) g5 m6 k6 b6 G6
 have G7:=fn_ok (cl:=cl) (wo:=w) (P:=l.prog) U7 s7 g6 rfl rfl rfl d7
 have g7:GOk cl (Gn T F7) l.prog w K mg base 7:=GOk.add (fi:=⟨2,false,r_is_row_like⟩) g6 m7 k7 b7 G7
 have G8:=fn_ok (cl:=cl) (wo:=w) (P:=l.prog) U8 s8 g7 rfl rfl rfl d8
 have g8:GOk cl (Gn T F8) l.prog w K mg base 8:=GOk.add (fi:=⟨2,false,r_is_like⟩) g7 m8 k8 b8 G8
 have G9:=fn_ok (cl:=cl) (wo:=w) (P:=l.prog) U9 s9 g8 rfl rfl rfl d9
 have g9:GOk cl (Gn T F9) l.prog w K mg base 9:=GOk.add (fi:=⟨2,false,r_in_rows⟩) g8 m9 k9 b9 G9
 have G10:=fn_ok (cl:=cl) (wo:=w) (P:=l.prog) U10 s10 g9 rfl rfl rfl d10
 have g10:GOk cl (Gn T F10) l.prog w K mg base 10:=GOk.add (fi:=⟨2,false,r_number_at⟩) g9 m10 k10 b10 G10
 have G11:=fn_ok (cl:=cl) (wo:=w) (P:=l.prog) U11 s11 g10 rfl rfl rfl d11
 have g11:GOk cl (Gn T F11) l.prog w K mg base 11:=GOk.add (fi:=⟨1,true,r_laid_places⟩) g10 m11 k11 b11 G11
 have G12:=fn_ok (cl:=cl) (wo:=w) (P:=l.prog) U12 s12 g11 rfl rfl rfl d12
 have g12:GOk cl (Gn T F12) l.prog w K mg base 12:=GOk.add (fi:=⟨2,false,r_has_tiles_of⟩) g11 m12 k12 b12 G12
 have G13:=fn_ok (cl:=cl) (wo:=w) (P:=l.prog) U13 s13 g12 rfl rfl rfl d13
 have g13:GOk cl (Gn T F13) l.prog w K mg base 13:=GOk.add (fi:=⟨2,false,r_has_place⟩) g12 m13 k13 b13 G13
 have G14:=fn_ok (cl:=cl) (wo:=w) (P:=l.prog) U14 s14 g13 rfl rfl rfl d14
 have g14:GOk cl (Gn T F14) l.prog w K mg base 14:=GOk.add (fi:=⟨2,false,r_refuse_outside⟩) g13 m14 k14 b14 G14
 have G15:=fn_ok (cl:=cl) (wo:=w) (P:=l.prog) U15 s15 g14 rfl rfl rfl d15
 have g15:GOk cl (Gn T F15) l.prog w K mg base 15:=GOk.add (fi:=⟨2,false,r_tile_at⟩) g14 m15 k15 b15 G15
 have G16:=fn_ok (cl:=cl) (wo:=w) (P:=l.prog) U16 s16 g15 rfl rfl rfl d16
 have g16:GOk cl (Gn T F16) l.prog w K mg base 16:=GOk.add (fi:=⟨3,false,r_with_number⟩) g15 m16 k16 b16 G16
 have G17:=fn_ok (cl:=cl) (wo:=w) (P:=l.prog) U17 s17 g16 rfl rfl rfl d17
 have g17:GOk cl (Gn T F17) l.prog w K mg base 17:=GOk.add (fi:=⟨4,false,r_with_tile⟩) g16 m17 k17 b17 G17
 have G18:=fn_ok (cl:=cl) (wo:=w) (P:=l.prog) U18 s18 g17 rfl rfl rfl d18
 have g18:GOk cl (Gn T F18) l.prog w K mg base 18:=GOk.add (fi:=⟨4,false,r_edge_at⟩) g17 m18 k18 b18 G18
 have G19:=fn_ok (cl:=cl) (wo:=w) (P:=l.prog) U19 s19 g18 rfl rfl rfl d19
 have g19:GOk cl (Gn T F19) l.prog w K mg base 19:=GOk.add (fi:=⟨3,false,r_colours_east⟩) g18 m19 k19 b19 G19
 have G20:=fn_ok (cl:=cl) (wo:=w) (P:=l.prog) U20 s20 g19 rfl rfl rfl d20
 have g20:GOk cl (Gn T F20) l.prog w K mg base 20:=GOk.add (fi:=⟨3,false,r_colours_south⟩) g19 m20 k20 b20 G20
 have G21:=fn_ok (cl:=cl) (wo:=w) (P:=l.prog) U21 s21 g20 rfl rfl rfl d21
 have g21:GOk cl (Gn T F21) l.prog w K mg base 21:=GOk.add (fi:=⟨1,false,r_do_clash⟩) g20 m21 k21 b21 G21
 have G22:=fn_ok (cl:=cl) (wo:=w) (P:=l.prog) U22 s22 g21 rfl rfl rfl d22
 have g22:GOk cl (Gn T F22) l.prog w K mg base 22:=GOk.add (fi:=⟨2,true,r_clashes⟩) g21 m22 k22 b22 G22
 have G23:=fn_ok (cl:=cl) (wo:=w) (P:=l.prog) U23 s23 g22 rfl rfl rfl d23
 have g23:GOk cl (Gn T F23) l.prog w K mg base 23:=GOk.add (fi:=⟨2,false,r_is_right⟩) g22 m23 k23 b23 G23
 have G24:=fn_ok (cl:=cl) (wo:=w) (P:=l.prog) U24 s24 g23 rfl rfl rfl d24
 have g24:GOk cl (Gn T F24) l.prog w K mg base 24:=GOk.add (fi:=⟨2,false,r_suits⟩) g23 m24 k24 b24 G24
 have G25:=fn_okD (cl:=cl) (wo:=w) (P:=l.prog) U25 s25 (g24.at "Ways") rfl rfl rfl d25
 have g25:GOk cl (Gn T F25) l.prog w K mg base 26:=GOk.addK (k':=25) (fi:=⟨4,false,r_Ways___init__⟩) (dvs:=[.bl false]) (g24.up (by decide)) (by decide) (PySem.W.mg_of X G nyWays) ⟨mkWays,a25,i25,kpWays⟩ b25 bd25 (.cons rfl .nil) (fun _=>(.cons (.bl _) .nil)) G25
 have G26:=fn_ok (cl:=cl) (wo:=w) (P:=l.prog) U26 s26 (g25.at "Ways") rfl rfl rfl d26
 have g26:GOk cl (Gn T F26) l.prog w K mg base 27:=GOk.addM (fi:=⟨1,false,r_Ways_first_seam⟩) (c:="Ways") (g25.up (by decide)) CLWays ⟨a26,i26,k26⟩ b26 G26
 have G27:=fn_ok (cl:=cl) (wo:=w) (P:=l.prog) U27 s27 (g26.at "Ways") rfl rfl rfl d27
 have g27:GOk cl (Gn T F27) l.prog w K mg base 28:=GOk.addM (fi:=⟨2,false,r_Ways_ends_row⟩) (c:="Ways") (g26.up (by decide)) CLWays ⟨a27,i27,k27⟩ b27 G27
 have G28:=fn_ok (cl:=cl) (wo:=w) (P:=l.prog) U28 s28 (g27.at "Ways") rfl rfl rfl d28
 have g28:GOk cl (Gn T F28) l.prog w K mg base 29:=GOk.addM (fi:=⟨4,false,r_Ways_colour_round⟩) (c:="Ways") (g27.up (by decide)) CLWays ⟨a28,i28,k28⟩ b28 G28
 have G29:=fn_ok (cl:=cl) (wo:=w) (P:=l.prog) U29 s29 (g28.at "Ways") rfl rfl rfl d29
 have g29:GOk cl (Gn T F29) l.prog w K mg base 30:=GOk.addM (fi:=⟨4,false,r_Ways_seam_behind⟩) (c:="Ways") (g28.up (by decide)) CLWays ⟨a29,i29,k29⟩ b29 G29
 have G30:=fn_ok (cl:=cl) (wo:=w) (P:=l.prog) U30 s30 (g29.at "Ways") rfl rfl rfl d30
 have g30:GOk cl (Gn T F30) l.prog w K mg base 31:=GOk.addM (fi:=⟨2,false,r_Ways_numbers_for⟩) (c:="Ways") (g29.up (by decide)) CLWays ⟨a30,i30,k30⟩ b30 G30
 have G31:=fn_ok (cl:=cl) (wo:=w) (P:=l.prog) U31 s31 (g30.at "Ways") rfl rfl rfl d31
 have g31:GOk cl (Gn T F31) l.prog w K mg base 32:=GOk.addM (fi:=⟨4,false,r_Ways_fits_round⟩) (c:="Ways") (g30.up (by decide)) CLWays ⟨a31,i31,k31⟩ b31 G31
 have G32:=fn_ok (cl:=cl) (wo:=w) (P:=l.prog) U32 s32 (g31.at "Ways") rfl rfl rfl d32
 have g32:GOk cl (Gn T F32) l.prog w K mg base 33:=GOk.addM (fi:=⟨4,false,r_Ways_fits⟩) (c:="Ways") (g31.up (by decide)) CLWays ⟨a32,i32,k32⟩ b32 G32
 have G33:=fn_ok (cl:=cl) (wo:=w) (P:=l.prog) U33 s33 (g32.at "Ways") rfl rfl rfl d33
 have g33:GOk cl (Gn T F33) l.prog w K mg base 34:=GOk.addM (fi:=⟨3,true,r_Ways_choices⟩) (c:="Ways") (g32.up (by decide)) CLWays ⟨a33,i33,k33⟩ b33 G33
 have g34:GOk cl (Gn T F34) l.prog w K mg base 74:=GOk.addR (cl:=cl) (c:="Ways") g33 U34 s34 rfl rfl rfl CLWays ⟨a34,i34,k34⟩ b34 d34 40
 have G35:=fn_ok (cl:=cl) (wo:=w) (P:=l.prog) U35 s35 (g34.at "Ways") rfl rfl rfl d35
 have g35:GOk cl (Gn T F35) l.prog w K mg base 75:=GOk.addM (fi:=⟨1,false,r_Ways_count_all⟩) (c:="Ways") (g34.up (by decide)) CLWays ⟨a35,i35,k35⟩ b35 G35
 have G36:=fn_ok (cl:=cl) (wo:=w) (P:=l.prog) U36 s36 (g35.at "Ways") rfl rfl rfl d36
 have g36:GOk cl (Gn T F36) l.prog w K mg base 76:=GOk.addM (fi:=⟨2,true,r_Ways_numbers_by⟩) (c:="Ways") (g35.up (by decide)) CLWays ⟨a36,i36,k36⟩ b36 G36
 have G37:=fn_ok (cl:=cl) (wo:=w) (P:=l.prog) U37 s37 (g36.at "Ways") rfl rfl rfl d37
 have g37:GOk cl (Gn T F37) l.prog w K mg base 77:=GOk.addM (fi:=⟨2,false,r_Ways_whole_by⟩) (c:="Ways") (g36.up (by decide)) CLWays ⟨a37,i37,k37⟩ b37 G37
 have G38:=fn_ok (cl:=cl) (wo:=w) (P:=l.prog) U38 s38 g37 rfl rfl rfl d38
 have g38:GOk cl (Gn T F38) l.prog w K mg base 78:=GOk.add (fi:=⟨2,false,r_count_fills⟩) g37 m38 k38 b38 G38
 have G39:=fn_ok (cl:=cl) (wo:=w) (P:=l.prog) U39 s39 g38 rfl rfl rfl d39
 have g39:GOk cl (Gn T F39) l.prog w K mg base 79:=GOk.add (fi:=⟨3,false,r_is_fill⟩) g38 m39 k39 b39 G39
 have G40:=fn_ok (cl:=cl) (wo:=w) (P:=l.prog) U40 s40 g39 rfl rfl rfl d40
 have g40:GOk cl (Gn T F40) l.prog w K mg base 80:=GOk.add (fi:=⟨3,false,r_fill⟩) g39 m40 k40 b40 G40
 have G41:=fn_ok (cl:=cl) (wo:=w) (P:=l.prog) U41 s41 g40 rfl rfl rfl d41
 have g41:GOk cl (Gn T F41) l.prog w K mg base 81:=GOk.add (fi:=⟨3,true,r_counts_at⟩) g40 m41 k41 b41 G41
 have G42:=fn_ok (cl:=cl) (wo:=w) (P:=l.prog) U42 s42 g41 rfl rfl rfl d42
 have g42:GOk cl (Gn T F42) l.prog w K mg base 82:=GOk.add (fi:=⟨3,true,r_may_stand⟩) g41 m42 k42 b42 G42
 have G43:=fn_ok (cl:=cl) (wo:=w) (P:=l.prog) U43 s43 g42 rfl rfl rfl d43
 have g43:GOk cl (Gn T F43) l.prog w K mg base 83:=GOk.add (fi:=⟨1,true,r_bare_places⟩) g42 m43 k43 b43 G43
 have G44:=fn_ok (cl:=cl) (wo:=w) (P:=l.prog) U44 s44 g43 rfl rfl rfl d44
 have g44:GOk cl (Gn T F44) l.prog w K mg base 84:=GOk.add (fi:=⟨2,true,r_forced⟩) g43 m44 k44 b44 G44
 have G45:=fn_ok (cl:=cl) (wo:=w) (P:=l.prog) U45 s45 g44 rfl rfl rfl d45
 have g45:GOk cl (Gn T F45) l.prog w K mg base 85:=GOk.add (fi:=⟨2,false,r_with_forced⟩) g44 m45 k45 b45 G45
 have G46:=fn_ok (cl:=cl) (wo:=w) (P:=l.prog) U46 s46 g45 rfl rfl rfl d46
 have g46:GOk cl (Gn T F46) l.prog w K mg base 86:=GOk.add (fi:=⟨2,false,r__law_cell⟩) g45 m46 k46 b46 G46
 have G47:=fn_ok (cl:=cl) (wo:=w) (P:=l.prog) U47 s47 g46 rfl rfl rfl d47
 have g47:GOk cl (Gn T F47) l.prog w K mg base 87:=GOk.add (fi:=⟨3,false,r__law_pick⟩) g46 m47 k47 b47 G47
 have G48:=fn_ok (cl:=cl) (wo:=w) (P:=l.prog) U48 s48 g47 rfl rfl rfl d48
 have g48:GOk cl (Gn T F48) l.prog w K mg base 88:=GOk.add (fi:=⟨3,false,r__law_tiles⟩) g47 m48 k48 b48 G48
 have G49:=fn_ok (cl:=cl) (wo:=w) (P:=l.prog) U49 s49 g48 rfl rfl rfl d49
 have g49:GOk cl (Gn T F49) l.prog w K mg base 89:=GOk.add (fi:=⟨6,false,r__law_floor⟩) g48 m49 k49 b49 G49
 have G50:=fn_ok (cl:=cl) (wo:=w) (P:=l.prog) U50 s50 g49 rfl rfl rfl d50
 exact G50.imp (law_sp (cl:=cl) law_true)
theorem walk{l:PySem.W.OpenLaw}{q:Program}{loose:List Str}{XP:(Str->Option Value)->Heap->Prop}{YP:PySem.World->Heap->Prop}{d:DefRec}{K:Params->PySem.W.Frag}(hn:l.most=some 63)(hdf:d.params.defaults=[])
  (hY:∀(w:PySem.World) (h:Heap),YP w h->(K w.params).In h)
  (F:∀(w:PySem.World) (mg:Z6) (fa:Addr) (h:Heap),(K w.params).In h->h.Ns mainGlobals mg->mg d.name=some (.ref fa) →
   ∃fd:FuncData,(∀(s:Shared) (u:Value),BindsTo s fd ⟨[u],[]⟩ [("_law_script",u)])/\∀base:Heap,(K w.params).In base->base.Ns mainGlobals mg->FnOk l.prog w (K w.params) mg base (CXE l.prog w) 90 fa fd ["_law_script"] (S2.spLaw (K w.params))) :
  PySem.W.WalkO q loose XP YP l.row.toRowW d [] (fun f vs=>PySem.call f vs) :=
 L2.walk_of (n:=63) (k:=90) (x:="_law_script") (CX:=fun w=>CXE l.prog w) (sp:=fun w=>S2.spLaw (K w.params)) hn (by decide) hdf ⟨rfl,by decide,by decide⟩ hY F (fun _ _ a ns hl hO hS=>⟨a,ns,rfl,hl,hO,hS,fun _=>rfl⟩) fun _ _ _ _ _ ⟨_,_,_,_,_,_,_,_,_,_,_,_,_,_,z⟩=>z
end M22
namespace PySem.W.Fast
def tw18261040631602112400:=0
def tw6927798190729810194:=0
def tw6567650975847161295:=0
def tw12549550321656308729:=0
def tw9076778430632661399:=0
def tw8955131035051136416:=0
def tw11837762233111725769:=0
def tw11765385891932296013:=0
def tw651036544330146636:=0
def tw8190580527182217088:=0
def tw13882345882358806606:=0
def tw13729922461973023071:=0
def tw3031919438733809016:=0
def tw14998842242667682675:=0
def tw17387943065426432100:=0
def tw5264737825242941964:=0
def tw4381095720931106020:=0
def tw16139976913509717018:=0
def tw16250845876641579416:=0
def tw819475505639896143:=0
def tw5117891008294709725:=0
def tw7162417192189170466:=0
def tw1533501839952819077:=0
def tw10387613148045252856:=0
def tw8516178253786141386:=0
def tw5482733710665150203:=0
def tw17273414268935975663:=0
def tw9545924654831468422:=0
def tw15531811843734743698:=0
def tw4382954777838614124:=0
def tw5014638692809828344:=0
def tw3496493425242350730:=0
def tw11776004871547053532:=0
def tw3508755052860740407:=0
def tw13989669891018773258:=0
def tw15137864025420133316:=0
def tw7167990663307142455:=0
def tw12078257739259753965:=0
def tw14075362779872641310:=0
def tw11035834333885899867:=0
def tw701890294857600084:=0
def tw6879978802713281121:=0
def tw1821679177377580729:=0
def tw15263206777476518367:=0
def tw5144484714658878560:=0
def tw16758492416513045753:=0
def tw6854167044672958693:=0
def tw5655800658799961655:=0
def tw7873087807817575719:=0
def tw11873267721122187946:=0
def tw5746648435012277894:=0
def tw2014642377689089490:=0
def tw12597568599865318828:=0
def tw13927388113862663249:=0
def tw10542584182381307912:=0
def tw12209592924927758198:=0
def tw10480503760978355634:=0
def tw3196772530394483003:=0
def tw14166235617432121019:=0
def tw7931763211401038776:=0
def tw8092076033781839013:=0
def tw2006351426519902795:=0
def tw17619696527455028272:=0
def tw4292363102266340000:=0
def tw16664880346085204398:=0
def tw3859512252053774799:=0
def tw11447650414671683557:=0
def tw171422216505266236:=0
def tw12590087415543873284:=0
def tw11077659519722004555:=0
def tw4218117144008935325:=0
def tw16239516877725922081:=0
def tw11350204064847606033:=0
def tw10501796180563429266:=0
def tw7912012038120100329:=0
def tw5092584744608988646:=0
def tw3420296631202793519:=0
def tw5548597841114991627:=0
def tw16529889047083513134:=0
def tw7403973685410983046:=0
def tw6041447257511761303:=0
def tw3810059879992833499:=0
def tw17560435746173345467:=0
def tw14263716184711219120:=0
def tw3859043511234737138:=0
def tw17144124760500389845:=0
def tw1793216419663465126:=0
def tw6152991589493008380:=0
def tw11464437599481003864:=0
def tw7927711004355034893:=0
def tw15848815957257450542:=0
def tw13020543435353347064:=0
def tw12512179395826431917:=0
def tw17171529634784014675:=0
def tw7812765696522968947:=0
def tw879967309385277208:=0
def tw10824754952218357369:=0
def tw1392008756082767205:=0
def tw8112582010743733159:=0
def tw9194723511254487776:=0
def tw15251629159840579406:=0
def tw634669482764797689:=0
def tw439236332825138335:=0
def tw13831352466341688434:=0
def tw15072021677027282769:=0
def tw2984576399105657910:=0
def tw100602114624102489:=0
def tw9509756185633758243:=0
def tw4017569417377665404:=0
def tw13059833557377117022:=0
def tw8298402626684053176:=0
def tw3650531492316455007:=0
def tw15735482792569102089:=0
def tw11382384886189323014:=0
def tw6142268839626290983:=0
def tw16046475509002210957:=0
def tw2682077115383055078:=0
def tw17547121386016433316:=0
def tw17368091097674291240:=0
def tw18267784866733127260:=0
def tw7943989733218251199:=0
def tw2559123545762101131:=0
def tw3054081635517189895:=0
def tw9555861861582771159:=0
def tw10760750960003165690:=0
def tw4854658970920519727:=0
def tw18096848746423050545:=0
def tw14133723882653296211:=0
def tw14958266642443888223:=0
def tw2633771842354818204:=0
def tw16329416343822361831:=0
def tw11805920750166439994:=0
def tw8966365500402705225:=0
def tw373910765859770541:=0
def tw8461402463654898614:=0
def tw17444499163275967871:=0
def tw5826890185186297405:=0
def tw18173323831955323939:=0
def tw466882816523224979:=0
def tw7432145294412667902:=0
def tw17416325184391180519:=0
def tw13576954260309350358:=0
def tw11237004895462764039:=0
def tw6689556280840075444:=0
def tw1003370420416332367:=0
def tw4544336542482959276:=0
def tw3962497670777846507:=0
def tw8763792787806094407:=0
def tw487930027681433481:=0
def tw10982664620430314180:=0
def tw3293051838946022855:=0
def tw16781554396542951101:=0
def tw13725268365890083789:=0
def tw13662342430687934971:=0
def tw12869916056222792871:=0
def tw3315513076012754062:=0
def tw1314575336415364087:=0
def tw12369237021769475142:=0
def tw7809939704984212369:=0
def tw10721464533114926411:=0
def tw7130500906455864802:=0
def tw5702458072557752830:=0
def tw9305904102643645042:=0
def tw8557551285605155952:=0
def tw14123039182424709936:=0
def tw1124229242312975849:=0
def tw3965684395633499497:=0
def tw13239829627518901263:=0
def tw11590913348191872881:=0
def tw9864462658871988052:=0
def tw2632137576089340126:=0
def tw8265583782331053177:=0
def tw4182691470544766055:=0
def tw16168152545531233388:=0
def tw3657720778277953478:=0
def tw17764352554532313344:=0
def tw9506867718410216806:=0
def tw2575823567338648646:=0
def tw7354005991896077345:=0
def tw7030176548528138268:=0
def tw13008343145330488463:=0
def tw11620021234030765320:=0
def tw17786292221653471399:=0
def tw11840938934888403222:=0
def tw8664779651096079617:=0
def tw5922811299569008579:=0
def tw2681111052359194517:=0
def tw17666312968231813038:=0
def tw14055674625301377412:=0
def tw12691075032582847046:=0
def tw18063308755965300684:=0
def tw17455004475786210236:=0
def tw13167631560782597945:=0
def tw11071892422717565263:=0
def tw10763963261102491097:=0
def tw6271276881105559865:=0
def tw4574807725801105873:=0
def tw10940566241106941023:=0
def tw722652320480736271:=0
def tw11970290034892035752:=0
def tw16646593997778850601:=0
def tw709226646086761124:=0
def tw509900598682909154:=0
def tw15362799178457515188:=0
def tw12217617188458794554:=0
def tw9539521766402856251:=0
def tw10084561843312111648:=0
def tw6901927592762060535:=0
def tw15416338341006186551:=0
def tw917242230622987472:=0
def tw12214154665470062307:=0
def tw11837972616851173423:=0
def tw13538105426278893524:=0
def tw1207133682803889654:=0
def tw3330914408090370562:=0
def tw4154425407562082264:=0
def tw8135287885306990565:=0
def tw8213484298668557107:=0
def tw3168606206595061575:=0
def tw16279252180117351094:=0
def tw12703783635932002438:=0
def tw1937054701967650948:=0
def tw16188336634345225040:=0
def tw4775726438893361749:=0
def tw828508794897115004:=0
def tw3791795935639013132:=0
def tw14658887710085522075:=0
def tw7790248576892704151:=0
def tw17763523109887188896:=0
def tw5848679378529416394:=0
def tw10248547471488486669:=0
def tw14882018306537659151:=0
def tw5687372061297738054:=0
def tw1794499549202875964:=0
def tw14193188042770983169:=0
def tw11554704740153705804:=0
def tw1442993610976896114:=0
def tw17883882688346582983:=0
def tw13226408080631441400:=0
def tw10730427014985889281:=0
def tw2221017777737061051:=0
def tw2922625178337328718:=0
def tw10227155828629311409:=0
def tw878462262951504496:=0
def tw5813918080362977840:=0
def tw16255005785601917045:=0
def tw10663214537129902954:=0
def tw9230279591705193636:=0
def tw4742277968185805616:=0
def tw5757458640936448786:=0
def tw5505342537516871437:=0
def tw5502579577709881653:=0
def tw3291586516171896396:=0
def tw13409176176569282885:=0
def tw11583453186999010786:=0
def tw9876372065726349944:=0
def tw7501880475121317189:=0
def tw7807106748340924718:=0
def tw3484639570855822305:=0
def tw3019333726842485282:=0
def tw18103422977572545859:=0
def tw16760372284280216755:=0
def tw15215929398355846567:=0
def tw13235415459472478902:=0
def tw12376935266493853406:=0
def tw10353915053731041663:=0
def tw4393530664534966053:=0
def tw226144697248597307:=0
def tw16074628281699716737:=0
def tw4140684051491536666:=0
def tw7238263274957384746:=0
def tw6126449379406285298:=0
def tw5950108672452209560:=0
def tw3076935598570339953:=0
def tw14440259595186909146:=0
def tw15444758116425997782:=0
def tw13117057185704770816:=0
def tw1363960415153202810:=0
def tw17232299182579379619:=0
def tw18127997472245724566:=0
def tw1572476990344627760:=0
def tw14666194577043755951:=0
def tw15229406093010338967:=0
def tw14741943283162555038:=0
def tw13637668900225287125:=0
def tw13320717966416694601:=0
def tw13308576975372799502:=0
def tw14475510819695126789:=0
def tw16300308322528953241:=0
def tw14546213931997480219:=0
def tw18006257999043706333:=0
def tw15561751498236427936:=0
def tw15227452028002909339:=0
def tw14675799394677210151:=0
def tw14508096160121790303:=0
def tw12897539158912053602:=0
def tw9557035380976048590:=0
def tw8648645646177633137:=0
def tw18287629716516409086:=0
def tw1781295149562521953:=0
def tw11285326563461404449:=0
def tw289083920911848980:=0
def tw16302302112200011307:=0
def tw14573696438620697410:=0
def tw13089967702275851629:=0
def tw7913958875647876882:=0
def tw2861468682933326280:=0
def tw14198136749410021642:=0
def tw17624935112986308138:=0
def tw9472860384571592599:=0
def tw6370333527992053501:=0
def tw6186600937820601652:=0
def tw5390947169303843217:=0
def tw3297313457234679014:=0
def tw16915388481569138996:=0
def tw4762566008354613210:=0
def tw3492004879680124479:=0
def tw17945314684675615550:=0
def tw14462914151264387298:=0
def tw13317298509127037665:=0
def tw1101177967739905185:=0
def tw4016465904625906562:=0
def tw17095349394428449755:=0
def tw15710825784134478545:=0
def tw15535726384695837582:=0
def tw1497674666618955851:=0
def tw14614643338573409426:=0
def tw5783902223667996720:=0
def tw3812054090148110767:=0
def tw14828755983640645025:=0
def tw8513752167622705659:=0
def tw7475911507376693281:=0
def tw2650418962243827370:=0
def tw17507944406567467459:=0
def tw1111384902582526294:=0
def tw10757027986166449346:=0
def tw10540111687095327908:=0
def tw9902111102902711777:=0
def tw9854943697128261626:=0
def tw9668209740375857249:=0
def tw9589362883632086896:=0
def tw9566633814618568225:=0
def tw9498690040972542139:=0
def tw9482819310044023303:=0
def tw9427151593347018490:=0
def tw9124459792289816404:=0
def tw8948454394072480839:=0
def tw8827369579004222032:=0
def tw8677787510626946904:=0
def tw8378137986450195990:=0
def tw8352294494801828795:=0
def tw8288507177456973111:=0
def tw8231002020094515428:=0
def tw8181246145087722382:=0
def tw7988333465121227502:=0
def tw7958636902602910299:=0
def tw7683645337746823712:=0
def tw765293065832233989:=0
def tw7302872514799929511:=0
def tw7275328062022437194:=0
def tw6888888025498946713:=0
def tw6822528942971574567:=0
def tw6682562721854503759:=0
def tw6291671653480383711:=0
def tw615650603606055020:=0
def tw6151673521018648095:=0
def tw6136770922032950019:=0
def tw5942348202556295828:=0
def tw5799412499917728869:=0
def tw5610969150372648635:=0
def tw554618765441148516:=0
def tw5016856187197466469:=0
def tw4952317160348595847:=0
def tw4484208207741895901:=0
def tw4483688548328851902:=0
def tw4323162037940333393:=0
def tw4319927042539389653:=0
def tw4311258546596133166:=0
def tw3892673943684268754:=0
def tw373106607560687728:=0
def tw3480454288103013281:=0
def tw3253586635373092786:=0
def tw3185111244418190724:=0
def tw3036705587965853679:=0
def tw2935863695051059224:=0
def tw2835423702026708818:=0
def tw2820979943090827013:=0
def tw2720926581897554306:=0
def tw2661979579634103890:=0
def tw2365177824078385916:=0
def tw2312504533914294479:=0
def tw228081016575095279:=0
def tw2211930785268232516:=0
def tw2124323711374606405:=0
def tw2028698453685972844:=0
def tw2022847831908196479:=0
def tw186825497497075464:=0
def tw18153449660668558021:=0
def tw18079585709198548721:=0
def tw18027717113319060316:=0
def tw1785945554506705936:=0
def tw17741777647445903846:=0
def tw17721329192375886361:=0
def tw17617634330820451707:=0
def tw17491063184668872852:=0
def tw16872063960705066446:=0
def tw16825322479794681634:=0
def tw16737449338495191864:=0
def tw16706628360282375743:=0
def tw16664611999373559015:=0
def tw16604637069871129490:=0
def tw16362371933627013898:=0
def tw16267479713208053748:=0
def tw16250077432559523849:=0
def tw16214814873368453457:=0
def tw16198055764559153436:=0
def tw16017684980900591962:=0
def tw1589332151242593237:=0
def tw15860718691282868654:=0
def tw15828231881984919434:=0
def tw1577148934696559776:=0
def tw15569937312428955136:=0
def tw15542732648606849769:=0
def tw15535377671274874595:=0
def tw15374136405717024862:=0
def tw15237834760710233590:=0
def tw15217277026160412639:=0
def tw15137999962293729121:=0
def tw15025468866454304583:=0
def tw15016984338716446010:=0
def tw14476316606679177631:=0
def tw14259268886902798104:=0
def tw14244297198922077030:=0
def tw14185961312486377315:=0
def tw1408795573784501020:=0
def tw14070228551023806002:=0
def tw13923732813225746494:=0
def tw13862868606147037880:=0
def tw13610016220155943602:=0
def tw13466019267063270661:=0
def tw1309413662206124060:=0
def tw13007706073549494475:=0
def tw12857096370102852398:=0
def tw12635611365425626175:=0
def tw12426876961048473214:=0
def tw12345540332091319200:=0
def tw12202404065649466449:=0
def tw12165630004436234552:=0
def tw12018090183575683795:=0
def tw11913700826124548947:=0
def tw11790962586173190597:=0
def tw11788077842416935099:=0
def tw11512066056000966922:=0
def tw11433004235541467286:=0
def tw11297038043941850673:=0
def tw11268046579297853513:=0
def tw11115877954590561495:=0
def tw10960052503778956078:=0
def tw10907496940411599308:=0
def tw10893083743713783315:=0
def tw10516365625930642346:=0
def tw10347856966270723740:=0
def tw10228180885433295783:=0
def tw10138262683187738814:=0
def tw1009300335691420703:=0
end PySem.W.Fast
open PySem PySem.W PyProof.Rows
set_option maxRecDepth 100000 in
set_option maxHeartbeats 0 in
theorem PySem.Challenge.cw_floorfits_k22_whole_known_grows_holds : PySem.Challenge.rw_floorfits_k22_whole_known_grows.Holds := by
 w_on;o_law;k_head;(case hw=>w_witness2)
 k_fill
 refine M22.walk (l:=PySem.Challenge.rw_floorfits_k22_whole_known_grows) rfl rfl (fun w h Y=>PySem.W.kIn_of Y) ?F
 case F =>
  intro w mg fa h KX G hmg
  refine' M22.all_mk KX G hmg ?nyWays ?pgWays ?hdWays ?poWays ?saWays ?mkWays ?kpWays ?naWaystiles ?naWaysground ?naWayssize ?naWaysis_round ?naWaysknown ?a1 ?l1 ?c1 ?k1 ?a2 ?l2 ?c2 ?k2 ?a3 ?l3 ?c3 ?k3 ?a4 ?l4 ?c4 ?k4 ?a5 ?l5 ?c5 ?k5 ?a6 ?l6 ?c6 ?k6 ?a7 ?l7 ?c7 ?k7 ?a8 ?l8 ?c8 ?k8 ?a9 ?l9 ?c9 ?k9 ?a10 ?l10 ?c10 ?k10 ?a11 ?l11 ?c11 ?k11 ?a12 ?l12 ?c12 ?k12 ?a13 ?l13 ?c13 ?k13 ?a14 ?l14 ?c14 ?k14 ?a15 ?l15 ?c15 ?k15 ?a16 ?l16 ?c16 ?k16 ?a17 ?l17 ?c17 ?k17 ?a18 ?l18 ?c18 ?k18 ?a19 ?l19 ?c19 ?k19 ?a20 ?l20 ?c20 ?k20 ?a21 ?l21 ?c21 ?k21 ?a22 ?l22 ?c22 ?k22 ?a23 ?l23 ?c23 ?k23 ?a24 ?l24 ?c24 ?k24 ?a25 ?i25 ?l25 ?c25 ?k25 ?dk25 ?a26 ?i26 ?l26 ?c26 ?k26 ?a27 ?i27 ?l27 ?c27 ?k27 ?a28 ?i28 ?l28 ?c28 ?k28 ?a29 ?i29 ?l29 ?c29 ?k29 ?a30 ?i30 ?l30 ?c30 ?k30 ?a31 ?i31 ?l31 ?c31 ?k31 ?a32 ?i32 ?l32 ?c32 ?k32 ?a33 ?i33 ?l33 ?c33 ?k33 ?a34 ?i34 ?l34 ?c34 ?k34 ?a35 ?i35 ?l35 ?c35 ?k35 ?a36 ?i36 ?l36 ?c36 ?k36 ?a37 ?i37 ?l37 ?c37 ?k37 ?a38 ?l38 ?c38 ?k38 ?a39 ?l39 ?c39 ?k39 ?a40 ?l40 ?c40 ?k40 ?a41 ?l41 ?c41 ?k41 ?a42 ?l42 ?c42 ?k42 ?a43 ?l43 ?c43 ?k43 ?a44 ?l44 ?c44 ?k44 ?a45 ?l45 ?c45 ?k45 ?a46 ?l46 ?c46 ?k46 ?a47 ?l47 ?c47 ?k47 ?a48 ?l48 ?c48 ?k48 ?a49 ?l49 ?c49 ?k49 ?a50 ?l50 ?c50 ?k50 ?z1 ?z2 ?z3 ?z4 ?z5 ?z6 ?z7 ?z8 ?z9 ?z10 ?z11 ?z12 ?gl1 ?gl2 ?gl3 ?gl4 ?n0 ?x0 ?n1 ?x1 ?n2 ?x2 ?n3 ?x3 ?lk1 ?mr1 ?lk2 ?mr2 ?lk3 ?mr3
  (case nyWays=>k_is);(case pgWays=>k_is);(case hdWays=>k_is);(case poWays=>k_is)
  (case saWays=>k_is);(case mkWays=>k_is);(case kpWays=>k_is);(case naWaystiles=>k_is)
  (case naWaysground=>k_is);(case naWayssize=>k_is);(case naWaysis_round=>k_is);(case naWaysknown=>k_is)
  (case a1=>k_is);(case l1=>k_is);(case c1=>k_is);(case k1=>k_is)
  (case a2=>k_is);(case l2=>k_is);(case c2=>k_is);(case k2=>k_is)
  (case a3=>k_is);(case l3=>k_is);(case c3=>k_is);(case k3=>k_is)
  (case a4=>k_is);(case l4=>k_is);(case c4=>k_is);(case k4=>k_is)
  (case a5=>k_is);(case l5=>k_is);(case c5=>k_is);(case k5=>k_is)
  (case a6=>k_is);(case l6=>k_is);(case c6=>k_is);(case k6=>k_is)
  (case a7=>k_is);(case l7=>k_is);(case c7=>k_is);(case k7=>k_is)
  (case a8=>k_is);(case l8=>k_is);(case c8=>k_is);(case k8=>k_is)
  (case a9=>k_is);(case l9=>k_is);(case c9=>k_is);(case k9=>k_is)
  (case a10=>k_is);(case l10=>k_is);(case c10=>k_is);(case k10=>k_is)
  (case a11=>k_is);(case l11=>k_is);(case c11=>k_is);(case k11=>k_is)
  (case a12=>k_is);(case l12=>k_is);(case c12=>k_is);(case k12=>k_is)
  (case a13=>k_is);(case l13=>k_is);(case c13=>k_is);(case k13=>k_is)
  (case a14=>k_is);(case l14=>k_is);(case c14=>k_is);(case k14=>k_is)
  (case a15=>k_is);(case l15=>k_is);(case c15=>k_is);(case k15=>k_is)
  (case a16=>k_is);(case l16=>k_is);(case c16=>k_is);(case k16=>k_is)
  (case a17=>k_is);(case l17=>k_is);(case c17=>k_is);(case k17=>k_is)
  (case a18=>k_is);(case l18=>k_is);(case c18=>k_is);(case k18=>k_is)
  (case a19=>k_is);(case l19=>k_is);(case c19=>k_is);(case k19=>k_is)
  (case a20=>k_is);(case l20=>k_is);(case c20=>k_is);(case k20=>k_is)
  (case a21=>k_is);(case l21=>k_is);(case c21=>k_is);(case k21=>k_is)
  (case a22=>k_is);(case l22=>k_is);(case c22=>k_is);(case k22=>k_is)
  (case a23=>k_is);(case l23=>k_is);(case c23=>k_is);(case k23=>k_is)
  (case a24=>k_is);(case l24=>k_is);(case c24=>k_is);(case k24=>k_is)
  (case a25=>k_is);(case i25=>k_is);(case l25=>k_is);(case c25=>k_is)
  (case k25=>k_is);(case dk25=>k_is);(case a26=>k_is);(case i26=>k_is)
  (case l26=>k_is);(case c26=>k_is);(case k26=>k_is);(case a27=>k_is)
  (case i27=>k_is);(case l27=>k_is);(case c27=>k_is);(case k27=>k_is)
  (case a28=>k_is);(case i28=>k_is);(case l28=>k_is);(case c28=>k_is)
  (case k28=>k_is);(case a29=>k_is);(case i29=>k_is);(case l29=>k_is)
  (case c29=>k_is);(case k29=>k_is);(case a30=>k_is);(case i30=>k_is)
  (case l30=>k_is);(case c30=>k_is);(case k30=>k_is);(case a31=>k_is)
  (case i31=>k_is);(case l31=>k_is);(case c31=>k_is);(case k31=>k_is)
  (case a32=>k_is);(case i32=>k_is);(case l32=>k_is);(case c32=>k_is)
  (case k32=>k_is);(case a33=>k_is);(case i33=>k_is);(case l33=>k_is)
  (case c33=>k_is);(case k33=>k_is);(case a34=>k_is);(case i34=>k_is)
  (case l34=>k_is);(case c34=>k_is);(case k34=>k_is);(case a35=>k_is)
  (case i35=>k_is);(case l35=>k_is);(case c35=>k_is);(case k35=>k_is)
  (case a36=>k_is);(case i36=>k_is);(case l36=>k_is);(case c36=>k_is)
  (case k36=>k_is);(case a37=>k_is);(case i37=>k_is);(case l37=>k_is)
  (case c37=>k_is);(case k37=>k_is);(case a38=>k_is);(case l38=>k_is)
  (case c38=>k_is);(case k38=>k_is);(case a39=>k_is);(case l39=>k_is)
  (case c39=>k_is);(case k39=>k_is);(case a40=>k_is);(case l40=>k_is)
  (case c40=>k_is);(case k40=>k_is);(case a41=>k_is);(case l41=>k_is)
  (case c41=>k_is);(case k41=>k_is);(case a42=>k_is);(case l42=>k_is)
  (case c42=>k_is);(case k42=>k_is);(case a43=>k_is);(case l43=>k_is)
  (case c43=>k_is);(case k43=>k_is);(case a44=>k_is);(case l44=>k_is)
  (case c44=>k_is);(case k44=>k_is);(case a45=>k_is);(case l45=>k_is)
  (case c45=>k_is);(case k45=>k_is);(case a46=>k_is);(case l46=>k_is)
  (case c46=>k_is);(case k46=>k_is);(case a47=>k_is);(case l47=>k_is)
  (case c47=>k_is);(case k47=>k_is);(case a48=>k_is);(case l48=>k_is)
  (case c48=>k_is);(case k48=>k_is);(case a49=>k_is);(case l49=>k_is)
  (case c49=>k_is);(case k49=>k_is);(case a50=>k_is);(case l50=>k_is)
  (case c50=>k_is);(case k50=>k_is);(case z1=>k_is);(case z2=>k_is)
  (case z3=>k_is);(case z4=>k_is);(case z5=>k_is);(case z6=>k_is)
  (case z7=>k_is);(case z8=>k_is);(case z9=>k_is);(case z10=>k_is)
  (case z11=>k_is);(case z12=>k_is);(case gl1=>k_is);(case gl2=>k_is)
  (case gl3=>k_is);(case gl4=>k_is);(case n0=>k_is);(case x0=>k_exc)
  (case n1=>k_is);(case x1=>k_exc);(case n2=>k_is);(case x2=>k_exc)
  (case n3=>k_is);(case x3=>k_exc);(case lk1=>k_is);(case mr1=>with_unfolding_all rfl)
  (case lk2=>k_is);(case mr2=>with_unfolding_all rfl);(case lk3=>k_is);(case mr3=>with_unfolding_all rfl)
#print axioms PySem.Challenge.cw_floorfits_k22_whole_known_grows_holds
