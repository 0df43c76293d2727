import PyProof.Rows.All
import Wide.All
import OpenK.AllK
import Wide.FinOn
import Lean
import PyProof.EqAt
import PyProof.EqKinds
import PyProof.TupleCall
import PySem.SetTable
import PyProof.TupleKey
import Wide.Seal
import PyProof.DictRoadsH
import PyProof.Rows.TupTab
import PyProof.Draws
import PyProof.EnumMake
import OpenK.KRaise
import OpenK.KOwn
import PyProof.Rows.TopTwo
import PyProof.RulesAs
import PyProof.RulesDel
import PyProof.ExcArgsOwn
import PyProof.ExcAttrAll.ValueError
import PyProof.Rows.CountFlat
import PyProof.SumWalk
import PyProof.Rows.SeqCalls
import PyProof.ZipIter
import KE.KRevIter
import PyProof.CollectIter
import PyProof.TupleOfGen
import PyProof.ListRange
import PyProof.WalkInts
import PySem.Challenge.RW_floorfits_k61_whole_corners_painted
set_option compiler.extract_closed false
set_option bootstrap.genMatcherCode false
set_option genSizeOf false
theorem yAQ(h:True:=by rfl):True:=h
namespace yAQ
end yAQ
open yAQ renaming _auto_1→yAW
theorem yAE(h:True:=by decide):True:=h
namespace yAE
end yAE
open yAE renaming _auto_1→yAR
theorem yAT(h:True:=by intro _;rfl):True:=h
namespace yAT
end yAT
open yAT renaming _auto_1→yAU
theorem yAI(h:True:=by with_unfolding_all rfl):True:=h
namespace yAI
end yAI
open yAI renaming _auto_1→yAO
def yak:=@of_decide_eq_true
def yaK:=@decide_eq_true
def yaN:=@decide_eq_false
def yaY:=@beq_eq_false_iff_ne
def ybp:=@decide_eq_true_eq
def ybt:=@beq_self_eq_true
def ybJ:=@if_false
def ybQ:=@beq_iff_eq
def yb4:=@or_false
def yb7:=@decide_eq_false_iff_not
def yci:=@if_true
open PySem renaming wpAny_bind→yaa,wpAny_pure→yah,mem_of_lookup→yaG,wpAny_callSpecial?_slot→ya4,wpAny_newObj_type→ya9,wpAny_call_entry→ybd,wpAny_truthy_bool→ybf,wpAny_mono→ybg,wpAny_loadPart_at→ybo,wpAny_field→ybq,wpAny_seqItems→ybG,wpAny_Call_Name_kw→ybI,wpAny_holding→ybP,wpAny_binaryOp_repeat_ref→ybT,wpAny_pyIter_tuple→ybZ,wpAny_passesOwn→yb1,wpAny_setField_rec→yb6,call_meets→ycc,wpAny_pyIter_enum→yce,wpAny_isInstance→yck,typeIs_int→yct,wpAny_execs_nil→ycw,wpAny_tupleItemsOf→ycD,wpAny_pyIter_list→ycJ,wpAny_rule→ycM
open List renaming getD_eq_getElem?_getD→yab,getElem?_eq_getElem→yad,length_cons→yae,length_map→yaf,size_toArray→yai,getElem?_eq_some_iff→yaj,length_append→yao,getElem?_set_self→yap,getElem?_map→yar,mem_cons_of_mem→yas,getElem?_append_right→yat,mem_cons→yav,length_set→yaw,lookup_cons→yax,mem_map→yay,mem_cons_self→yaz,map_cons→yaA,getElem?_eq_none→yaB,getElem?_append_left→yaC,getElem?_set_ne→yaE,mem_append_right→yaF,length_replicate→yaH,not_mem_nil→yaL,eq_nil_of_length_eq_zero→yaM,mem_singleton→yaO,mem_range→yaS,append_nil→yaU,ext_getElem?→yaV,mem_filter→yaZ,replicate_succ→ya3,nodup_cons→ya7,length_singleton→yba,flatMap_cons→ybb,getElem?_replicate→ybc,nodup_iff_pairwise_ne→ybe,length_take→ybi,all_eq_true→ybj,mem_flatMap→ybk,mem_of_getElem?→ybl,flatten_cons→ybm,length_range→ybn,length_drop→ybs,map_map→ybu,all_cons→ybv,getElem?_drop→ybw,length_filter_le→ybx,drop_eq_getElem_cons→yby,getElem?_take_of_lt→ybz,range_succ→ybB,getElem?_range→ybE,getElem_mem→ybF,take_of_length_le→ybH,mem_append→ybK,map_append→ybN,pairwise_map→ybR,getLastD_eq_getLast?→ybV,mem_filterMap→yb0,contains_cons→yb5,flatten_replicate_singleton→yb8,append_assoc→ycb,nodup_append→ycf,filter_cons→ycl,map_flatMap→ycm,mem_append_left→ycn,length_dropLast→yco,sum_cons→ycs,filterMap_cons→ycu,forIn_cons→ycy,map_congr_left→ycz,nodup_nil→ycH,drop_zero→ycI
open Bool renaming and_eq_true→yac,false_eq_true→yaP,not_eq_true'→yaW,false_ne_true→ya5,eq_iff_iff→ybA,not_true→ycr
open PySem.Heap renaming get?_push_of_some→yag,lt_size→yaq,get?_push_size→yau,size_push→ya6,get?_update_self→ybL
open Nat renaming le_refl→yal,lt_of_lt_of_le→yam,le_trans→yan,ne_of_lt→yaD,lt_irrefl→yaQ,mul_comm→yaX,ne_of_gt→ya0,zero_le→ybh,sub_self→ybC,div_add_mod→ybO,mul_le_mul→ybU,lt_succ_self→ybW,le_succ→ycd,succ_mul→ycg,mul_le_mul_right→ycp,div_lt_of_lt_mul→ycq,min_eq_left→ycB,le_of_lt→ycC,le_of_succ_le→ycL,mod_lt→ycN
open Option renaming some_ne_none→yaI
open PySem.W renaming mg_of→yaJ,mg_none_of→yaT,kia_one→ya2,plainGet_of→ycx,callWith_K→ycF
open PyProof.Rows renaming slot_tuple_getitem→yaR,callWith_type1→ya1,subscriptTail_builtinR→yca
open Int renaming toNat_natCast→ya8,eq_ofNat_of_zero_le→ybD,emod_lt_of_pos→ycG
open PySem.F renaming slot_tuple_iterator_next→ybr,slot_int_rmul→ybM,excBase_ValueError→ybS,args_tuple_add_2→ybX,entry_tuple_add→yb2,plainAttrs_list→yb3,slot_tuple_add→yb9,typeOf_object_class→ych,slot_tuple_mul→ycj,slot_zip_next→ycA,args_int_rmul_2→ycK
open PySem.AutoSeq1 renaming wpAny_loadPart'→ybY
open Array renaming length_toList→ycv,forIn_toList→ycE
noncomputable section
set_option Elab.async false
set_option linter.all false
set_option maxRecDepth 100000
set_option maxHeartbeats 4000000
abbrev Z1:=Nat->Nat->Option Int
abbrev Z2:=List (List Int)
abbrev Z3:=List (PySem.Addr×PySem.Obj)
abbrev Z4:=List (Option Int)
abbrev Z5:=PySem.Value->PySem.Shared->Prop
abbrev Z6:=PySem.Str->Option PySem.Value
def S2.bdI{c k:Nat}(h:c<=k)(hk:k<=1000000):-1000000<=(c:Int)/\(c:Int)<=1000000:=⟨Int.le_trans (by decide) (Int.natCast_nonneg c),Int.ofNat_le.mpr (yan h hk)⟩
def S2.bdN{c k:Nat}(h:c<=k)(hk:k<=1000000):0<=(c:Int)/\(c:Int)<=1000000:=⟨Int.natCast_nonneg c,Int.ofNat_le.mpr (yan h hk)⟩
local macro_rules | `(tactic|omega)=> `(tactic|first|assumption|exact yan (by assumption) (by decide)|exact yam (by assumption) (by assumption)|exact yam (by assumption) (by decide)|exact ycC (by assumption)|exact S2.bdI (by assumption) (by decide)|exact yan (by assumption) (by assumption)|omega +splitDisjunctions)
namespace L2
open PySem PySem.Spec PyProof.Rows
noncomputable abbrev Key:=Sum Int Str
noncomputable def zqF:Key->Value->Bool
 |.inl k,v=>Value.isInt k v|.inr x,v=>Value.isStrOf x v
noncomputable def zw4(w:World):Key->Int
 |.inl k=>hashInt k|.inr x=>hashStr w x
theorem zaJ:∀{k:Key}{v:Value},zqF k v=true->(∃i t,k=Sum.inl i/\v=Value.int i t)\/(∃x t,k=Sum.inr x/\v=Value.str x t)
 |.inl i,v,h=>by
  obtain⟨t,e⟩:=Value.isInt_shape (k:=i) (v:=v) h;exact .inl ⟨i,t,rfl,e⟩
 |.inr x,v,h=>by
  obtain⟨t,e⟩:=Value.isStrOf_shape (x:=x) (v:=v) h;exact .inr ⟨x,t,rfl,e⟩
def zqE(a b:Int):decide ((Sum.inl a:Key)=Sum.inl b)=(a==b):=by
 by_cases e:a=b
 ·subst e;simp
 ·have h:¬ (Sum.inl a:Key)=Sum.inl b:=fun q=>e (Sum.inl.inj q)
  rw[yaN h];exact(yaY.mpr e).symm
def zqB(a b:Str):decide ((Sum.inr a:Key)=Sum.inr b)=decide (a=b):=by
 by_cases e:a=b
 ·subst e;simp
 ·have h:¬ (Sum.inr a:Key)=Sum.inr b:=fun q=>e (Sum.inr.inj q)
  rw[yaN h,yaN e]
def zqD(a:Int)(b:Str):decide ((Sum.inl a:Key)=Sum.inr b)=false:=yaN (fun q=>nomatch q)
def zqC(a:Str)(b:Int):decide ((Sum.inr a:Key)=Sum.inl b)=false:=yaN (fun q=>nomatch q)
def zj9(prog:Program)(w:World):PySem.KeyKind prog w Key where
 is:=zqF
 hash:=zw4 w
 inj:=fun v a b ha hb=>by
  rcases zaJ ha with⟨i,t,rfl,rfl⟩|⟨x,t,rfl,rfl⟩
  ·rcases zaJ hb with⟨j,u,rfl,e⟩|⟨y,u,rfl,e⟩
   ·injection e with e1 _;rw[e1]
   ·exact nomatch e
  ·rcases zaJ hb with⟨j,u,rfl,e⟩|⟨y,u,rfl,e⟩
   ·exact nomatch e
   ·injection e with e1 _;rw[e1]
 byValue:=fun k v h=>by
  rcases zaJ h with⟨i,t,rfl,rfl⟩|⟨x,t,rfl,rfl⟩<;>rfl
 pyHash:=fun hv h=>by
  rcases zaJ hv with⟨i,t,rfl,rfl⟩|⟨x,t,rfl,rfl⟩
  ·exact wpAny_pyHash_int h
  ·exact wpAny_pyHash_str h
 eqBool:=fun hu hv h=>by
  rcases zaJ hu with⟨i,t,rfl,rfl⟩|⟨x,t,rfl,rfl⟩
  ·rcases zaJ hv with⟨j,u,rfl,rfl⟩|⟨y,u,rfl,rfl⟩
   ·rw[zqE]at h;exact wpAny_eqBool_int h
   ·rw[zqD]at h;exact SeqAt.EqAt.int_str i t y u _ _ _ _ h
  ·rcases zaJ hv with⟨j,u,rfl,rfl⟩|⟨y,u,rfl,rfl⟩
   ·rw[zqC]at h;exact SeqAt.EqAt.str_int x t j u _ _ _ _ h
   ·rw[zqB]at h;exact wpAny_eqBool_str h
 «strs»:=fun k x t v h=>by
  rcases zaJ h with⟨i,u,rfl,e⟩|⟨y,u,rfl,e⟩
  ·exact nomatch e
  ·injection e with e1 _
   subst e1
   cases v<;>rfl
inductive V where
 |non|bl (b:Bool)|int (i:Int)|str (x:Str)|byt (b:Array UInt8)|flt (b:UInt64)|ref (a:Addr)|ty (n:String)
 deriving DecidableEq
noncomputable def zbs:V->Value->Prop
 |.non,u=>u=Value.none|.bl b,u=>u=Value.bool b|.int i,u=>∃t,u=Value.int i t|.str x,u=>∃t,u=Value.str x t|.byt b,u=>∃t,u=Value.bytes b t|.flt b,u=>∃t,u=Value.float b t|.ref a,u=>u=Value.ref a|.ty n,u=>u=Value.type n
noncomputable abbrev Vals:List V->List Value->Prop:=Paired zbs
theorem Vals.length{xs:List V}{us:List Value}(r:Vals xs us):xs.length=us.length:=Paired.length r
theorem Vals.get:∀{xs:List V}{us:List Value}{i:Nat}{x:V},Vals xs us->xs[i]?=some x->∃u,us[i]?=some u/\zbs x u
 |_,_,_,_,.nil,e=>by simp at e
 |_,_,0,_,.cons r _,e=>by simp at e;subst e;exact⟨_,rfl,r⟩
 |_,_,i+1,x,.cons _ t,e=>by
  obtain⟨u,h1,h2⟩:=Vals.get (i:=i) (x:=x) t (by simpa using e);exact⟨u,by simpa using h1,h2⟩
theorem Vals.set{x:V}{u:Value}(r:zbs x u):∀{xs:List V}{us:List Value} (i:Nat),Vals xs us->Vals (xs.set i x) (us.set i u)
 |_,_,_,.nil=>.nil|_,_,0,.cons _ t=>.cons r t|_,_,i+1,.cons q t=>.cons q (Vals.set r i t)
theorem Vals.append:∀{xs ys:List V}{us ws:List Value},Vals xs us->Vals ys ws->Vals (xs++ys) (us++ws)
 |_,_,_,_,.nil,s=>s|_,_,_,_,.cons r t,s=>.cons r (Vals.append t s)
theorem Vals.take:∀{xs:List V}{us:List Value} (n:Nat),Vals xs us->Vals (xs.take n) (us.take n)
 |_,_,0,_=>.nil|_,_,_+1,.nil=>.nil|_,_,n+1,.cons r t=>.cons r (Vals.take n t)
theorem Vals.drop:∀{xs:List V}{us:List Value} (n:Nat),Vals xs us->Vals (xs.drop n) (us.drop n)
 |_,_,0,r=>r|_,_,_+1,.nil=>.nil|_,_,n+1,.cons _ t=>Vals.drop n t
noncomputable def zk7:Option V->Option Value->Prop
 |some v,some u=>zbs v u|none,none=>True|_,_=>False
noncomputable def KV{κ:Type}:List (κ×V)->List (κ×Value)->Prop:=Paired fun(p:κ×V) (q:κ×Value)=>p.1=q.1/\zbs p.2 q.2
noncomputable def kV:Key->V
 |.inl i=>.int i|.inr x=>.str x
inductive HO where
 |lst (xs:List V)
 |tup (xs:List V)
 |dK (kvs:List (Key×V))|dT (kvs:List (List Key×V))
 |set (S:Int->Bool) (n:Nat)
 |ins (C dx:Addr) (fs:List (Str×V))
 |own (x:Addr)
 |xd (fs:List (Str×V))
 |met (f x:Addr)
 |rng (lo hi:Int)
 |frz (o:Obj) (u:HO)
 |tbl (ps:Array Value)
 |ext (φ:Heap->Prop)
noncomputable abbrev Hp:=Addr->Option HO
noncomputable def upd(H:Hp)(a:Addr)(o:HO):Hp:=fun b=>if b=a then some o else H b
def zau{H:Hp}{a:Addr}{o:HO}:upd H a o a=some o:=by unfold upd;rw[if_pos rfl]
def zah{H:Hp}{a b:Addr}{o:HO}(h:b≠a):upd H a o b=H b:=by unfold upd;rw[if_neg h]
def zao{H:Hp}{a b:Addr}{o:HO}(h:H a=some o)(h':H b=none):a≠b:=by
 intro e;subst e;rw[h]at h';cases h'
section
variable(P:Program)(w:World)
def zbx(H:Hp)(h:Heap)(a:Addr):HO->Prop
 |.lst xs=>xs.length<=sizeLine/\∃(its:List Value) (n:Nat),Vals xs its/\h.get? a=some {cls:=.type "list",data:=.seq its.toArray n}|.tup xs=>xs.length<=sizeLine/\∃its:List Value,Vals xs its/\IsTup h a its.toArray|.dK kvs=>kvs.length<=sizeLine/\(a==sysModules)=false/\∃vs,KV kvs vs/\h.DictOf (zj9 P w) a vs|.dT kvs=>kvs.length<=sizeLine/\(a==sysModules)=false/\∃xs:List (List Key×Addr×Value),
   Paired (fun(p:List Key×V) (q:List Key×Addr×Value)=>p.1=q.1/\H q.2.1=some (.tup (p.1.map kV))/\zbs p.2 q.2.2) kvs xs ∧
   ∃o es ep,h.get? a=some o/\o.ExactDict/\o.data=.dict es ep/\es.toList=xs.map (entryOfKey (tupleKind (zj9 P w)))/\(xs.map (·.1)).Nodup
 |.set S n=>h.SetOf (intKind P w) a S n|.ins C dx fs=>H dx=some (.own a)/\fs.length<=1000/\dx≠a/\h.get? a=some (PySem.W.instObj C dx) ∧
   ∃mA,h.Ns1 dx mA/\(∀f,zk7 (fs.lookup f) (mA f))/\PySem.Within mA (fs.map (·.1))
 |.own _=>∃o,h.get? a=some o|.xd fs=>∃mA,h.Ns1 a mA/\∀f,zk7 (fs.lookup f) (mA f)|.rng lo hi=>∃t u v,h.get? a=some {cls:=.type "range",data:=.fields #[.int lo t,.int hi u,.int 1 v]}|.frz o u=>h.get? a=some o/\zbx H h a u|.tbl ps=>h.get? a=some {cls:=.none,data:=.fields ps}|.met f x=>h.get? a=some (PySem.W.methodObj (.ref f) (.ref x))|.ext φ=>φ h/\(∃o,h.get? a=some o)/\∀h1 h2:Heap,φ h1->(∀o,h1.get? a=some o->h2.get? a=some o)->φ h2
noncomputable def HOk(H:Hp)(h:Heap):Prop:=∀a o,H a=some o->zbx P w H h a o
end
section
variable{P:Program}{w:World}{H H':Hp}{h h':Heap}{a:Addr}{o:HO}
theorem zbx.lt(x:zbx P w H h a o):a<h.objs.size:=by
 cases o with
 |lst xs=>obtain⟨_,_,_,_,e⟩:=x;exact yaq e|tup xs=>obtain⟨_,_,_,p⟩:=x;exact p.lt|dK kvs=>obtain⟨_,_,_,_,o,_,_,e,_⟩:=x;exact yaq e|dT kvs=>obtain⟨_,_,_,_,o,_,_,e,_⟩:=x;exact yaq e|set S n=>obtain⟨o,_,_,_,e,_⟩:=x;exact yaq e|ins C dx fs=>obtain⟨_,_,_,e,_⟩:=x;exact yaq e|own y=>obtain⟨_,e⟩:=x;exact yaq e|xd fs=>obtain⟨_,⟨_,_,_,e,_⟩,_⟩:=x;exact yaq e|rng lo hi=>obtain⟨_,_,_,e⟩:=x;exact yaq e|frz ob u=>obtain⟨e,_⟩:=x;exact yaq e|tbl ps=>exact yaq (show h.get? a=some _ from x)|met f y=>exact yaq (show h.get? a=some _ from x)|ext φ=>obtain⟨_,⟨_,e⟩,_⟩:=x;exact yaq e
theorem Paired.mapP{α β:Type}{F G:α->β->Prop}:∀{l₁:List α}{l₂:List β},Paired F l₁ l₂->(∀a b,F a b->G a b)->Paired G l₁ l₂
 |_,_,.nil,_=>.nil|_,_,.cons r t,f=>.cons (f _ _ r) (Paired.mapP t f)
def zbx.stay(x:zbx P w H h a o)(k:∀b u,(b=a\/H b=some (.own a))->h.get? b=some u->h'.get? b=some u)
  (ho:∀b,H b=some (.own a)->H' b=some (.own a)) (ht:∀b xs,H b=some (.tup xs)->H' b=some (.tup xs)):zbx P w H' h' a o:=by
 induction o with
 |lst xs=>obtain⟨z,its,n,r,e⟩:=x;exact⟨z,its,n,r,k _ _ (.inl rfl) e⟩|tup xs=>obtain⟨z,its,r,ob,e,c⟩:=x;exact⟨z,its,r,ob,k _ _ (.inl rfl) e,c⟩|dK kvs=>obtain⟨z,y,vs,r,ob,es,ep,e,c⟩:=x;exact⟨z,y,vs,r,ob,es,ep,k _ _ (.inl rfl) e,c⟩|dT kvs=>
  obtain⟨z,y,xs,r,ob,es,ep,e,c⟩:=x;exact⟨z,y,xs,Paired.mapP r fun p q z=>⟨z.1,ht _ _ z.2.1,z.2.2⟩,ob,es,ep,k _ _ (.inl rfl) e,c⟩
 |set S n=>obtain⟨ob,es,ep,t,e,c⟩:=x;exact⟨ob,es,ep,t,k _ _ (.inl rfl) e,c⟩|ins C dx fs=>
  obtain⟨d,z,ne,e,mA,⟨od,es,ep,e2,c⟩,r⟩:=x;exact⟨ho _ d,z,ne,k _ _ (.inl rfl) e,mA,⟨od,es,ep,k _ _ (.inr d) e2,c⟩,r⟩
 |own y=>obtain⟨ob,e⟩:=x;exact⟨ob,k _ _ (.inl rfl) e⟩|xd fs=>obtain⟨mA,⟨od,es,ep,e,c⟩,r⟩:=x;exact⟨mA,⟨od,es,ep,k _ _ (.inl rfl) e,c⟩,r⟩|rng lo hi=>obtain⟨t,u,v,e⟩:=x;exact⟨t,u,v,k _ _ (.inl rfl) e⟩|frz ob u ih=>obtain⟨e,q⟩:=x;exact⟨k _ _ (.inl rfl) e,ih q⟩|tbl ps=>
  have e:h.get? a=some {cls:=.none,data:=.fields ps}:=x;show h'.get? a=some {cls:=.none,data:=.fields ps};exact k a _ (.inl rfl) e
 |met f y=>
  have e:h.get? a=some (PySem.W.methodObj (.ref f) (.ref y)):=x;show h'.get? a=some (PySem.W.methodObj (.ref f) (.ref y));exact k a _ (.inl rfl) e
 |ext φ=>obtain⟨p,⟨o,e⟩,st⟩:=x;exact⟨st _ _ p fun o q=>k _ _ (.inl rfl) q,⟨o,k _ _ (.inl rfl) e⟩,st⟩
theorem HOk.lt(x:HOk P w H h)(e:H a=some o):a<h.objs.size:=(x a o e).lt
def HOk.fresh(x:HOk P w H h)(e:h.objs.size<=a):H a=none:=by
 cases q:H a with
 |none=>rfl|some u=>exact absurd (yam (x.lt q) e) (yaQ _)
def HOk.kept(x:HOk P w H h)(k:∀b u,h.get? b=some u->h'.get? b=some u):HOk P w H h':=fun a o e=>
 (x a o e).stay (fun b u _ q=>k b u q) (fun _ q=>q) fun _ _ q=>q
def HOk.laid(x:HOk P w H h)(k:∀b u,h.get? b=some u->h'.get? b=some u)(hp:h.objs.size<=a)(new:zbx P w (upd H a o) h' a o):HOk P w (upd H a o) h':=fun b u e=>by
 have hn:=x.fresh hp
 by_cases hb:b=a
 ·subst hb;rw[zau]at e;cases e;exact new
 ·rw[zah hb]at e
  exact(x b u e).stay (fun c v _ q=>k c v q) (fun c q=>by rw[zah (zao q hn)];exact q) fun c xs q=>by rw[zah (zao q hn)];exact q
end
noncomputable def Rd(H:Hp)(a:Addr)(u:HO):Prop:=H a=some u\/∃o,H a=some (.frz o u)
def Rd.ok{P:Program}{w:World}{H:Hp}{h:Heap}{a:Addr}{u:HO}(r:Rd H a u)(x:HOk P w H h):zbx P w H h a u:=by
 rcases r with r|⟨o,r⟩
 ·exact x a u r
 ·obtain⟨_,q⟩:=x a _ r;exact q
noncomputable def Mut:Option HO->Prop
 |some (.lst _)=>True|some (.dK _)=>True|some (.dT _)=>True|some (.set _ _)=>True|some (.ins _ _ _)=>True|some (.ext _)=>True|_=>False
section
variable{P:Program}{w:World}{H:Hp}{h h':Heap}{x e:Addr}{o':HO}
def HOk.write(ok:HOk P w H h)(mu:Mut (H x))(he:e=x\/H e=some (.own x))(k:∀b u,b≠e->h.get? b=some u->h'.get? b=some u)(heo:∃u,h'.get? e=some u)
  (new:zbx P w (upd H x o') h' x o'):HOk P w (upd H x o') h':=fun b u q=>by
 have nown:∀c y,H c=some (.own y)->c≠x:=fun c y r z=>by subst z;rwa[r]at mu
 have ntup:∀c xs,H c=some (.tup xs)->c≠x:=fun c xs r z=>by subst z;rwa[r]at mu
 by_cases hb:b=x
 ·subst hb;rw[zau]at q;cases q;exact new
 ·rw[zah hb]at q
  by_cases hbe:b=e
  ·have q':H b=some (.own x):=by
    rcases he with z|z
    ·exact absurd (hbe.trans z) hb
    ·rw[hbe];exact z
   rw[q]at q';cases q';obtain⟨v,hv⟩:=heo;exact⟨v,by rw[hbe];exact hv⟩
  ·refine(ok b u q).stay (fun c v hc r=>k c v ?_ r) (fun c r=>by rw[zah (nown c b r)];exact r) fun c xs r=>by rw[zah (ntup c xs r)];exact r
   rcases hc with rfl|hc
   ·exact hbe
   ·rintro rfl
    rcases he with z|z
    ·exact nown c b hc z
    ·rw[hc]at z;cases z;exact hb rfl
end
structure Un(fs ex:List Addr)(H H':Hp)(h h':Heap):Prop where
 keep:∀b o,h.get? b=some o->H b=none->b ∉ fs->b ∉ ex->h'.get? b=some o
 slot:∀b o,h.get? b=some o->H b=none->b∈fs->b ∉ ex->∃sl,h'.get? b=some {o with slots:=sl}
 free:∀b o,h.get? b=some o->H b=none->b ∉ ex->H' b=none
 there:∀b o,h.get? b=some o->b ∉ ex->∃o',h'.get? b=some o'
 tups:∀b xs,H b=some (.tup xs)->H' b=some (.tup xs)
 frzs:∀b o u,H b=some (.frz o u)->H' b=some (.frz o u)
 tbls:∀b ps,H b=some (.tbl ps)->∃more,H' b=some (.tbl (ps++more))
section
variable{fs fs' ex ex':List Addr}{H H1 H2:Hp}{h h1 h2 h':Heap}{a x e:Addr}{o:HO}
def Un.any(u:Un fs ex H H1 h h1){b:Addr}{ob:Obj}(q:h.get? b=some ob)(n:H b=none)(hx:b ∉ ex):∃sl,h1.get? b=some {ob with slots:=sl}:=by
 by_cases hb:b∈fs
 ·exact u.slot b ob q n hb hx
 ·exact⟨ob.slots,u.keep b ob q n hb hx⟩
def Un.kept(k:∀b u,h.get? b=some u->h'.get? b=some u):Un fs ex H H h h':=
 ⟨fun b ob q _ _ _=>k b ob q,fun b ob q _ _ _=>⟨ob.slots,k b ob q⟩,fun _ _ _ n _=>n,fun b ob q _=>⟨ob,k b ob q⟩,fun _ _ q=>q,fun _ _ _ q=>q,fun _ ps q=>⟨#[],by rw[q];simp⟩⟩
def Un.refl:Un fs ex H H h h:=Un.kept fun _ _ q=>q
def Un.laid(k:∀b u,h.get? b=some u->h'.get? b=some u)(hp:h.objs.size<=a)(hn:H a=none):Un fs ex H (upd H a o) h h' where
 keep:=fun b u q _ _ _=>k b u q
 slot:=fun b u q _ _ _=>⟨u.slots,k b u q⟩
 free:=fun b u q n _=>by rw[zah (yaD (yam (yaq q) hp))];exact n
 there:=fun b u q _=>⟨u,k b u q⟩
 tups:=fun b xs q=>by rw[zah (zao q hn)];exact q
 frzs:=fun b u xs q=>by rw[zah (zao q hn)];exact q
 tbls:=fun b ps q=>⟨#[],by rw[zah (zao q hn),q];simp⟩
def Un.write(mu:Mut (H x))(he:e=x\/H e=some (.own x))(k:∀b u,b≠e->h.get? b=some u->h'.get? b=some u)(heo:∃u,h'.get? e=some u):Un fs ex H (upd H x o) h h':=by
 have hx:∀b,H b=none->b≠x:=fun b n z=>by subst z;rwa[n]at mu
 have hb:∀b,H b=none->b≠e:=fun b n z=>by
  subst z
  rcases he with r|r
  ·exact hx b n r
  ·rw[n]at r;cases r
 have hm:∀b u,H b=some u->¬ Mut (some u)->b≠x:=fun b u q nm z=>by subst z;rw[q]at mu;exact nm mu
 refine⟨fun b u q n _ _=>k b u (hb b n) q,fun b u q n _ _=>⟨u.slots,k b u (hb b n) q⟩,fun b u q n _=>by rw[zah (hx b n)];exact n,fun b u q _=>?_,
  fun b xs q=>by rw[zah (hm b _ q fun z=>z)];exact q,fun b u xs q=>by rw[zah (hm b _ q fun z=>z)];exact q,fun b ps q=>⟨#[],by rw[zah (hm b _ q fun z=>z),q];simp⟩⟩
 by_cases hbe:b=e
 ·subst hbe;exact heo
 ·exact⟨u,k b u hbe q⟩
end
noncomputable def trk(h:Heap)(H:Hp):List Addr:=(List.range h.objs.size).filter fun a=>(H a).isSome
def zl9(h:Heap)(H:Hp):Heap:=PySem.W.hideAll h (trk h H)
def zku(h:Heap)(H:Hp):(zl9 h H).objs.size=h.objs.size:=PySem.W.hideAll_size _ _
def zl8{h:Heap}{H:Hp}{b:Addr}{o:Obj}(e:h.get? b=some o)(n:H b=none):(zl9 h H).get? b=some o:=
 PySem.W.hideAll_get _ e fun hm=>by
  have q:(H b).isSome=true:=(yaZ.mp hm).2;rw[n]at q;simp at q
def zn4{h:Heap}{H:Hp}{b:Addr}{o:Obj}(e:(zl9 h H).get? b=some o):h.get? b=some o/\H b=none:=by
 have e':h.get? b=some o:=PySem.W.of_hideAll (trk h H) e;refine⟨e',?_⟩
 cases q:H b with
 |none=>rfl|some x=>
  have hm:b∈trk h H:=yaZ.mpr ⟨yaS.mpr (yaq e'),by simp[q]⟩;have z:(zl9 h H).get? b=none:=PySem.W.hideAll_none (trk h H) hm;rw[z]at e;cases e
noncomputable def zoO(g h:Heap)(L:Addr):List (Addr×Obj):=(List.range h.objs.size).filterMap fun a=>if a=L\/(g.get? a).isSome=true then none else(h.get? a).map fun o=>(a,o)
def zbF(g h:Heap)(L d:Addr):List (Addr×Obj):=(zoO g h L).filter fun p=>decide (p.1≠d)
structure Mod(K:PySem.W.Frag)(mg:Z6)(base:Heap):Prop where
 kin:K.In base
 glob:base.Ns mainGlobals mg
 blt:∃mb,base.Ns builtinsNs mb/\∀x:Str,x ≠ "__name__" -> mb x=bootBuiltins x
 nolimit:base.NoLimit
structure Cx where
 prog:Program
 w:World
 K:PySem.W.Frag
 mg:Str->Option Value
 base:Heap
 A:Around
 N:List Str
 s₀:Shared
 H₀:Hp
 env:Env
 outer:List Env
 stack:List Env
 ex:List Addr
 fn:Str->Bool
 calm:Bool
 pn:List (Addr×Obj)
 xe:Value->Shared->Prop
noncomputable def frs(l:List Env):List Addr:=l.filterMap (·.frame)
noncomputable abbrev Cx.fs(X:Cx):List Addr:=frs X.outer
noncomputable def Vis(sc:Scope)(x:Str):Prop:=sc.names.lookup x=some .local\/sc.names.lookup x=some .cell\/sc.names.lookup x=some .free
noncomputable def Loc(sc:Scope)(x:Str):Prop:=sc.names.lookup x=some .local\/sc.names.lookup x=some .cell
noncomputable def zx2(env:Env)(h:Heap)(m:Z6)(x:Str)(u:Value):Prop:=
 (env.kindOf x=some .local/\m x=some u)\/((env.kindOf x=some .cell\/env.kindOf x=some .free)/\∃c,env.cells.lookup x=some c/\h.IsCell c (some u))
structure Cx.Ok(X:Cx):Prop where
 mod:Mod X.K X.mg X.base
 kind:X.env.scope.kind=.function
 glob:X.env.globals=mainGlobals
 blt:X.env.builtins=builtinsNs
 above:X.s₀.heap.objs.size<=X.env.locals
 inj:∀x y c,X.env.cells.lookup x=some c->X.env.cells.lookup y=some c->x=y
 has:∀x,(X.env.kindOf x=some .cell\/X.env.kindOf x=some .free)->∃c,X.env.cells.lookup x=some c
 cab:∀x c,X.fn x=true->X.env.cells.lookup x=some c->X.s₀.heap.objs.size<=c
 hd:X.calm=true->X.A.handled=none
 frames:X.A.frames=some X.stack
 stk:X.stack=X.outer\/(X.stack=X.env::X.outer/\X.env.frame=some X.env.locals)
 exf:∀b∈X.ex,b≠X.env.locals/\∀x c,X.env.cells.lookup x=some c->c≠b
 bs:∀b o,X.base.get? b=some o->X.s₀.heap.get? b=some o/\X.H₀ b=none
 bsz:X.base.objs.size<=X.s₀.heap.objs.size
 noex:∀b o,X.base.get? b=some o->b ∉ X.ex
 exfs:∀b∈X.ex,b ∉ X.fs
 funs:X.s₀.heap.FunFrames X.base X.outer
 frf:∀b∈X.fs,X.H₀ b=none
structure Inv(X:Cx)(pins:Z3)(σ:List (Option V))(H:Hp)(s:Shared):Prop where
 ok:X.Ok
 os:s.os=X.s₀.os
 bare:AllBare s.gens
 base:Un X.fs X.ex X.H₀ H X.s₀.heap s.heap
 loc:∃m,s.heap.Ns X.env.locals m/\∀(i:Nat) (x:Str) (v:V),X.N[i]?=some x->σ[i]?=some (some v)->Vis X.env.scope x->∃u,zbs v u/\zx2 X.env s.heap m x u
 cell:∀x c,X.env.cells.lookup x=some c->∃v,s.heap.IsCell c v
 free:H X.env.locals=none
 freeC:∀x c,X.env.cells.lookup x=some c->H c=none
 pin:∀p∈X.pn++pins,s.heap.get? p.1=some p.2/\H p.1=none/\p.1≠X.env.locals/\p.1 ∉ X.fs/\∀v,p.2.data≠.cell v
 hok:HOk X.prog X.w H s.heap
 len:σ.length=X.N.length
section
variable{X:Cx}{pins:Z3}{σ:List (Option V)}{H H':Hp}{s:Shared}{h':Heap}
def Cx.Ok.nofr(ok:X.Ok){b:Addr}{o:Obj}(e:X.base.get? b=some o):b ∉ X.fs:=fun hb=>by
 have:=(ok.funs.mem hb).1;rw[e]at this;cases this
theorem Inv.bs(I:Inv X pins σ H s):∀b o,X.base.get? b=some o->s.heap.get? b=some o/\H b=none:=fun b o e=>
 ⟨I.base.keep b o (I.ok.bs b o e).1 (I.ok.bs b o e).2 (I.ok.nofr e) (I.ok.noex b o e),I.base.free b o (I.ok.bs b o e).1 (I.ok.bs b o e).2 (I.ok.noex b o e)⟩
def Inv.bk(I:Inv X pins σ H s):∀b o,X.base.get? b=some o->s.heap.get? b=some o:=fun b o e=>(I.bs b o e).1
theorem Inv.mod(I:Inv X pins σ H s):Mod X.K X.mg X.base:=I.ok.mod
def Inv.kIn(I:Inv X pins σ H s):X.K.In s.heap:=I.ok.mod.kin.keeps I.bk
theorem Inv.lt(I:Inv X pins σ H s):X.env.locals<s.heap.objs.size:=let ⟨_,hn,_⟩:=I.loc;hn.lt
def Inv.sz(I:Inv X pins σ H s):X.s₀.heap.objs.size<=s.heap.objs.size:=yan I.ok.above (ycC I.lt)
def Inv.nofs(I:Inv X pins σ H s){a:Addr}(h:s.heap.objs.size<=a):a ∉ X.fs:=fun hb=>by
 obtain⟨_,o,ho,_⟩:=I.ok.funs.mem hb;exact absurd (yam (yaq ho) (yan I.sz h)) (yaQ _)
def Inv.cne(I:Inv X pins σ H s):∀x c,X.env.cells.lookup x=some c->c≠X.env.locals:=fun x c e z=>by
 obtain⟨v,o,ho,hd⟩:=I.cell x c e;obtain⟨m,⟨o',es,ep,ho',hd',_⟩,_⟩:=I.loc;rw[z,ho']at ho;cases ho;rw[hd']at hd;cases hd
theorem Inv.funs(I:Inv X pins σ H s):s.heap.FunFrames X.base X.outer:=by
 have all:∀(l:List Env),(∀b∈frs l,b∈X.fs)->X.s₀.heap.FunFrames X.base l->s.heap.FunFrames X.base l:=by
  intro l
  induction l with
  |nil=>intro _ _;trivial|cons env r ih=>
   intro hs hl;obtain⟨hk,⟨L,o,hf,hn,ho,hd⟩,hr⟩:=hl;have hL:L∈X.fs:=hs L (by unfold frs;rw[ycu,hf];exact yaz);obtain⟨sl,e⟩:=I.base.slot L o ho (I.ok.frf L hL) hL fun z=>I.ok.exfs L z hL
   exact⟨hk,⟨L,_,hf,hn,e,hd⟩,ih (fun b hb=>hs b (by unfold frs;rw[ycu,hf];exact yas _ hb)) hr⟩
 exact all X.outer (fun _ hb=>hb) I.ok.funs
theorem Inv.stack(I:Inv X pins σ H s):s.heap.FunFrames X.base X.stack:=by
 rcases I.ok.stk with e|⟨e,hf⟩
 ·rw[e];exact I.funs
 ·rw[e];obtain⟨m,hn,_⟩:=I.loc;refine .cons (by rw[I.ok.kind];decide) hf hn ?_ I.funs;exact Heap.get?_none_of_le (yan I.ok.bsz I.ok.above)
def Inv.stkSub(I:Inv X pins σ H s):∀b∈frs X.stack,b∈X.env.locals::X.fs:=fun b hb=>by
 rcases I.ok.stk with e|⟨e,hf⟩
 ·rw[e]at hb;exact yas _ hb
 ·rw[e]at hb;unfold frs at hb;rwa[ycu,hf]at hb
def Inv.stkFree(I:Inv X pins σ H s):∀b∈frs X.stack,H b=none:=fun b hb=>by
 rcases yav.mp (I.stkSub b hb)with e|hb
 ·rw[e];exact I.free
 ·obtain⟨_,o,ho,_⟩:=I.ok.funs.mem hb;exact I.base.free b o ho (I.ok.frf b hb) fun z=>I.ok.exfs b z hb
def Inv.step{g':Array GenState}{t':Nat}{d':Drawn}{ch:List Addr}(I:Inv X pins σ H s)
  (hch:∀b∈ch,(b∈X.ex\/X.s₀.heap.objs.size<=b)/\b≠X.env.locals/\(∀x c,X.env.cells.lookup x=some c->c≠b)/\∀p∈X.pn++pins,p.1≠b)
  (keep:∀b o,b≠X.env.locals->b ∉ X.fs->b ∉ ch->s.heap.get? b=some o->H b=none->h'.get? b=some o)
  (slot:∀b o,b≠X.env.locals->b∈X.fs->b ∉ ch->s.heap.get? b=some o->H b=none->∃sl,h'.get? b=some {o with slots:=sl}) (free:∀b o,b ∉ ch->s.heap.get? b=some o->H b=none->H' b=none)
  (there:∀b o,b ∉ ch->s.heap.get? b=some o->∃o',h'.get? b=some o')
  (tups:∀b xs,H b=some (.tup xs)->H' b=some (.tup xs)) (frzs:∀b o u,H b=some (.frz o u)->H' b=some (.frz o u)) (tbls:∀b ps,H b=some (.tbl ps)->∃more,H' b=some (.tbl (ps++more)))
  (ns:∀m,s.heap.Ns X.env.locals m->h'.Ns X.env.locals m) (hok:HOk X.prog X.w H' h') (hg:AllBare g'):
  Inv X pins σ H' {s with heap:=h',gens:=g',drawn:=d',toks:=t'}:=by
 have neL:∀b o,X.s₀.heap.get? b=some o->b≠X.env.locals:=fun b o e=>yaD (yam (yaq e) I.ok.above)
 have neC:∀b o,X.s₀.heap.get? b=some o->b ∉ X.ex->b ∉ ch:=fun b o e hx hb=>by
  rcases(hch b hb).1 with z|z
  ·exact hx z
  ·exact absurd (yam (yaq e) z) (yaQ _)
 have cellK:∀x c,X.env.cells.lookup x=some c->∀v,s.heap.IsCell c v->h'.IsCell c v:=fun x c e v ⟨o,ho,hd⟩=>by
  have nch:c ∉ ch:=fun z=>(hch c z).2.2.1 x c e rfl
  by_cases hc:c∈X.fs
  ·obtain⟨sl,q⟩:=slot c o (I.cne x c e) hc nch ho (I.freeC x c e);exact⟨_,q,hd⟩
  ·exact⟨o,keep c o (I.cne x c e) hc nch ho (I.freeC x c e),hd⟩
 refine⟨I.ok,I.os,hg,⟨fun b o e n hb hx=>?_,fun b o e n hb hx=>?_,fun b o e n hx=>?_,fun b o e hx=>?_,fun b xs e=>tups b xs (I.base.tups b xs e),fun b o xs e=>frzs b o xs (I.base.frzs b o xs e),fun b ps e=>?_⟩,?_,fun x c e=>?_,?_,fun x c e=>?_,fun p hp=>?_,hok,I.len⟩
 ·exact keep b o (neL b o e) hb (neC b o e hx) (I.base.keep b o e n hb hx) (I.base.free b o e n hx)
 ·obtain⟨sl,e1⟩:=I.base.slot b o e n hb hx;obtain⟨sl',e2⟩:=slot b _ (neL b o e) hb (neC b o e hx) e1 (I.base.free b o e n hx);exact⟨sl',e2⟩
 ·obtain⟨o',e1⟩:=I.base.there b o e hx;exact free b o' (neC b o e hx) e1 (I.base.free b o e n hx)
 ·obtain⟨o',e1⟩:=I.base.there b o e hx;exact there b o' (neC b o e hx) e1
 ·obtain⟨m1,e1⟩:=I.base.tbls b ps e;obtain⟨m2,e2⟩:=tbls b _ e1;exact⟨m1++m2,by rw[e2,Array.append_assoc]⟩
 ·obtain⟨m,hn,hl⟩:=I.loc;refine⟨m,ns m hn,fun i x v e1 e2 e3=>?_⟩;obtain⟨u,r,l⟩:=hl i x v e1 e2 e3;refine⟨u,r,?_⟩
  rcases l with l|⟨k,c,e,z⟩
  ·exact .inl l
  ·exact .inr ⟨k,c,e,cellK x c e _ z⟩
 ·obtain⟨v,z⟩:=I.cell x c e;exact⟨v,cellK x c e v z⟩
 ·obtain⟨m,⟨o,_,_,ho,_⟩,_⟩:=I.loc;exact free _ o (fun z=>(hch _ z).2.1 rfl) ho I.free
 ·obtain⟨v,o,ho,hd⟩:=I.cell x c e;exact free c o (fun z=>(hch c z).2.2.1 x c e rfl) ho (I.freeC x c e)
 ·obtain⟨e,n,ne,nf,d⟩:=I.pin p hp;have nch:p.1 ∉ ch:=fun z=>(hch p.1 z).2.2.2 p hp rfl
  exact⟨keep p.1 p.2 ne nf nch e n,free p.1 p.2 nch e n,ne,nf,d⟩
def Inv.un{t':Nat}(I:Inv X pins σ H s)(u:Un X.fs [] H H' s.heap h')(hok:HOk X.prog X.w H' h'):Inv X pins σ H' {s with heap:=h',toks:=t'}:=by
 obtain⟨m,⟨o,es,ep,ho,r⟩,_⟩:=id I.loc;obtain⟨sl,hL⟩:=u.any ho I.free (by simp)
 exact I.step (g':=s.gens) (d':=s.drawn) (ch:=[]) (fun _ z=>nomatch z) (fun b o _ hb _ e n=>u.keep b o e n hb (by simp)) (fun b o _ hb _ e n=>u.slot b o e n hb (by simp)) (fun b o _ e n=>u.free b o e n (by simp)) (fun b o _ e=>u.there b o e (by simp)) u.tups u.frzs u.tbls (fun m' hm=>by
  obtain⟨o',es',ep',ho',r'⟩:=hm;rw[ho]at ho';cases ho'
  exact⟨_,es',ep',hL,r'⟩) hok I.bare
def Inv.call{g':Array GenState}{t':Nat}{d':Drawn}{ch:List Addr}(I:Inv X pins σ H s)(u:Un (frs X.stack) ch H H' s.heap h')(hok:HOk X.prog X.w H' h')(hg:AllBare g')
  (hch:∀b∈ch,(b∈X.ex\/X.s₀.heap.objs.size<=b)/\b≠X.env.locals/\(∀x c,X.env.cells.lookup x=some c->c≠b)/\∀p∈X.pn++pins,p.1≠b):
  Inv X pins σ H' {s with heap:=h',gens:=g',drawn:=d',toks:=t'}:=by
 obtain⟨m,⟨o,es,ep,ho,r⟩,_⟩:=id I.loc;obtain⟨sl,hL⟩:=u.any ho I.free fun z=>(hch _ z).2.1 rfl
 exact I.step (ch:=ch) hch (fun b o hL hb hc e n=>u.keep b o e n (fun z=>(yav.mp (I.stkSub b z)).elim hL hb) hc) (fun b o _ _ hc e n=>u.any e n hc) (fun b o hc e n=>u.free b o e n hc) (fun b o hc e=>u.there b o e hc) u.tups u.frzs u.tbls (fun m' hm=>by
  obtain⟨o',es',ep',ho',r'⟩:=hm;rw[ho]at ho';cases ho'
  exact⟨_,es',ep',hL,r'⟩) hok hg
def Inv.turned{t':Nat}{it:Addr}(I:Inv X pins σ H s)(k:∀b o,b≠it->s.heap.get? b=some o->h'.get? b=some o)(hn:H it=none)(hL:it≠X.env.locals)
  (h1:it∈X.ex\/X.s₀.heap.objs.size<=it) (h2:∀x c,X.env.cells.lookup x=some c->c≠it) (h3:∀p∈X.pn++pins,p.1≠it):Inv X pins σ H {s with heap:=h',toks:=t'}:=by
 have nit:∀b u,H b=some u->b≠it:=fun b u e z=>by rw[z,hn]at e;cases e
 refine I.step (g':=s.gens) (d':=s.drawn) (ch:=[it]) (fun b hb=>?_) (fun b o _ _ hc e _=>k b o (fun z=>hc (by simp[z])) e) (fun b o _ _ hc e _=>⟨o.slots,k b o (fun z=>hc (by simp[z])) e⟩) (fun _ _ _ _ n=>n)
  (fun b o hc e=>⟨o,k b o (fun z=>hc (by simp[z])) e⟩) (fun _ _ e=>e) (fun _ _ _ e=>e) (fun b ps e=>⟨#[],by rw[e];simp⟩) (fun m hm=>?_) (fun b u e=>?_) I.bare
 ·have e:b=it:=by simpa using hb
  subst e;exact⟨h1,hL,h2,h3⟩
 ·obtain⟨o,es,ep,ho,r⟩:=hm;exact⟨o,es,ep,k _ o (Ne.symm hL) ho,r⟩
 ·refine(I.hok b u e).stay (fun c v hc q=>k c v ?_ q) (fun _ q=>q) fun _ _ q=>q
  rcases hc with z|z
  ·rw[z];exact nit b u e
  ·exact nit c _ z
def Inv.tok(I:Inv X pins σ H s)(t:Nat):Inv X pins σ H {s with toks:=t}:=I.un (h':=s.heap) (t':=t) Un.refl I.hok
theorem Inv.kept{t':Nat}(I:Inv X pins σ H s)(k:∀b u,s.heap.get? b=some u->h'.get? b=some u):Inv X pins σ H {s with heap:=h',toks:=t'}:=I.un (Un.kept k) (I.hok.kept k)
theorem Inv.laid{a:Addr}{o:HO}{t':Nat}(I:Inv X pins σ H s)(k:∀b u,s.heap.get? b=some u->h'.get? b=some u)(hp:s.heap.objs.size<=a)(new:zbx X.prog X.w (upd H a o) h' a o):
  Inv X pins σ (upd H a o) {s with heap:=h',toks:=t'}:=I.un (Un.laid k hp (I.hok.fresh hp)) (I.hok.laid k hp new)
theorem Inv.write{x e:Addr}{o:HO}{t':Nat}(I:Inv X pins σ H s)(mu:Mut (H x))(he:e=x\/H e=some (.own x))(k:∀b u,b≠e->s.heap.get? b=some u->h'.get? b=some u)(heo:∃u,h'.get? e=some u)
  (new:zbx X.prog X.w (upd H x o) h' x o):Inv X pins σ (upd H x o) {s with heap:=h',toks:=t'}:=I.un (Un.write mu he k heo) (I.hok.write mu he k heo new)
def Inv.pins_of{pins':Z3}(I:Inv X pins σ H s)(h:∀p∈pins',s.heap.get? p.1=some p.2/\H p.1=none/\p.1≠X.env.locals/\p.1 ∉ X.fs/\∀v,p.2.data≠.cell v):Inv X pins' σ H s:=
 ⟨I.ok,I.os,I.bare,I.base,I.loc,I.cell,I.free,I.freeC,fun p hp=>(ybK.mp hp).elim (fun z=>I.pin p (ycn _ z)) (h p),I.hok,I.len⟩
def zfG{N:List Str}(hN:N.Nodup){i j:Nat}{x:Str}(a:N[i]?=some x)(b:N[j]?=some x):i=j:=by
 obtain⟨h1,e1⟩:=yaj.mp a;obtain⟨h2,e2⟩:=yaj.mp b;exact(List.getElem_inj hN).mp (e1.trans e2.symm)
def zgb{M:Model}{A:Around}{E:Z5}{i:Nat}{x:Str}{v:V}{u:Value}{Q:Unit->Shared->Prop}(I:Inv X pins σ H s)(hN:X.N.Nodup)(hi:X.N[i]?=some x)(hx:Loc X.env.scope x)(r:zbs v u)
  (h:∀s',Inv X pins (σ.set i (some v)) H s'->(∃a,Heap.SameBut a s.heap s'.heap/\(a=X.env.locals\/X.env.cells.lookup x=some a))->Q () s') (hf:X.fn x=true\/X.env.scope.names.lookup x=some .local):wpAny M A (storeName X.env x u) Q E s:=by
 obtain⟨m,hn,hl⟩:=id I.loc
 have hcls:(X.env.scope.kind==.class||(X.env.scope.kind==.module&&X.env.locals != X.env.globals))=false:=by rw[I.ok.kind];rfl
 have hiσ:i<σ.length:=by rw[I.len];exact(yaj.mp hi).1
 have cne:=I.cne
 have tracked:∀{a:Addr}{h':Heap},(∃o,s.heap.get? a=some o/\H a=none)->Heap.SameBut a s.heap h'->HOk X.prog X.w H h':=fun {a h'} ha hs b ob e=>by
  obtain⟨_,_,hfree⟩:=ha;refine(I.hok b ob e).stay (fun c w' hc q=>(hs.2 c ?_).trans q) (fun _ q=>q) fun _ _ q=>q
  rintro rfl
  rcases hc with rfl|hc
  ·rw[hfree]at e;cases e
  ·rw[hfree]at hc;cases hc
 rcases hx with hk|hk
 ·refine wpAny_storeName_local hk hn (fun h' hn' hs=>?_) hcls;obtain⟨oL,_,_,hoL,_⟩:=id hn;refine h _ ⟨I.ok,I.os,I.bare,⟨fun b o e n hb hx=>?_,fun b o e n hb hx=>?_,I.base.free,fun b o e hx=>?_,I.base.tups,I.base.frzs,I.base.tbls⟩,⟨_,hn',fun j y v' e1 e2 e3=>?_⟩,fun y c e=>?_,I.free,I.freeC,fun p hp=>?_,tracked ⟨oL,hoL,I.free⟩ hs,by simpa using I.len⟩ ⟨_,hs,.inl rfl⟩
  ·exact(hs.2 b (yaD (yam (yaq e) I.ok.above))).trans (I.base.keep b o e n hb hx)
  ·obtain⟨sl,e1⟩:=I.base.slot b o e n hb hx;exact⟨sl,(hs.2 b (yaD (yam (yaq e) I.ok.above))).trans e1⟩
  ·obtain⟨o',e1⟩:=I.base.there b o e hx;exact⟨o',(hs.2 b (yaD (yam (yaq e) I.ok.above))).trans e1⟩
  ·by_cases hj:j=i
   ·subst hj;rw[hi]at e1;cases e1;rw[yap hiσ]at e2;cases e2;exact⟨u,r,.inl ⟨hk,by simp⟩⟩
   ·rw[yaE (Ne.symm hj)]at e2;obtain⟨u',r',q⟩:=hl j y v' e1 e2 e3;refine⟨u',r',?_⟩
    rcases q with⟨k,e⟩|⟨k,c,e,z⟩
    ·refine .inl ⟨k,?_⟩;have:y≠x:=fun e=>hj (zfG hN e1 (e ▸ hi))
     simp[this,e]
    ·exact .inr ⟨k,c,e,z.sameBut hs (cne y c e)⟩
  ·obtain⟨w',z⟩:=I.cell y c e;exact⟨w',z.sameBut hs (cne y c e)⟩
  ·obtain⟨e,n,ne,nf,d⟩:=I.pin p hp;exact⟨(hs.2 p.1 ne).trans e,n,ne,nf,d⟩
 ·have hfn:X.fn x=true:=by
   rcases hf with z|z
   ·exact z
   ·rw[z]at hk;cases hk
  obtain⟨c,hc⟩:=I.ok.has x (.inl hk);obtain⟨w',z⟩:=I.cell x c hc;refine wpAny_storeName_cell I.ok.kind hk hc z (fun h' hc' hs=>?_);obtain⟨oc,hoc,hocd⟩:=id z;refine h {s with heap:=h'} ⟨I.ok,I.os,I.bare,⟨fun b o e n hb hx=>?_,fun b o e n hb hx=>?_,I.base.free,fun b o e hx=>?_,I.base.tups,I.base.frzs,I.base.tbls⟩,⟨m,hn.sameBut hs (Ne.symm (cne x c hc)),fun j y v' e1 e2 e3=>?_⟩,fun y c' e=>?_,I.free,I.freeC,fun p hp=>?_,tracked ⟨oc,hoc,I.freeC x c hc⟩ hs,by simpa using I.len⟩ ⟨c,hs,.inr hc⟩
  ·exact(hs.2 b (yaD (yam (yaq e) (I.ok.cab x c hfn hc)))).trans (I.base.keep b o e n hb hx)
  ·obtain⟨sl,e1⟩:=I.base.slot b o e n hb hx;exact⟨sl,(hs.2 b (yaD (yam (yaq e) (I.ok.cab x c hfn hc)))).trans e1⟩
  ·obtain⟨o',e1⟩:=I.base.there b o e hx;exact⟨o',(hs.2 b (yaD (yam (yaq e) (I.ok.cab x c hfn hc)))).trans e1⟩
  ·by_cases hj:j=i
   ·subst hj;rw[hi]at e1;cases e1;rw[yap hiσ]at e2;cases e2;exact⟨u,r,.inr ⟨.inl hk,c,hc,hc'⟩⟩
   ·rw[yaE (Ne.symm hj)]at e2;obtain⟨u',r',q⟩:=hl j y v' e1 e2 e3;refine⟨u',r',?_⟩
    rcases q with q|⟨k,c',e,z'⟩
    ·exact .inl q
    ·refine .inr ⟨k,c',e,z'.sameBut hs ?_⟩;rintro rfl;exact hj (zfG hN e1 (I.ok.inj _ _ _ e hc ▸ hi))
  ·by_cases hcc:c'=c
   ·subst hcc;exact⟨_,hc'⟩
   ·obtain⟨w2,z2⟩:=I.cell y c' e;exact⟨w2,z2.sameBut hs hcc⟩
  ·obtain⟨e,n,ne,nf,d⟩:=I.pin p hp;refine⟨(hs.2 p.1 ?_).trans e,n,ne,nf,d⟩;intro q;rw[q,hoc]at e;have q':oc=p.2:=Option.some.inj e;exact d w' (by rw[<-q'];exact hocd)
def zec{M:Model}{A:Around}{E:Z5}{i:Nat}{x:Str}{v:V}{u:Value}{Q:Unit->Shared->Prop}(I:Inv X pins σ H s)(hN:X.N.Nodup)(hi:X.N[i]?=some x)(hx:Loc X.env.scope x)(r:zbs v u)
  (h:∀s',Inv X pins (σ.set i (some v)) H s'->Q () s') (hf:X.fn x=true\/X.env.scope.names.lookup x=some .local):wpAny M A (storeName X.env x u) Q E s:=
 zgb I hN hi hx r (fun s' I' _=>h s' I') hf
def Inv.call'{s':Shared}{ch:List Addr}(I:Inv X pins σ H s)(ho:s'.os=s.os)(u:Un (frs X.stack) ch H H' s.heap s'.heap)(hok:HOk X.prog X.w H' s'.heap)(hg:AllBare s'.gens)
  (hch:∀b∈ch,(b∈X.ex\/X.s₀.heap.objs.size<=b)/\b≠X.env.locals/\(∀x c,X.env.cells.lookup x=some c->c≠b)/\∀p∈X.pn++pins,p.1≠b):Inv X pins σ H' s':=by
 obtain⟨h',g',d',t',o'⟩:=s';have e:o'=s.os:=ho;subst e;exact I.call (g':=g') (t':=t') (d':=d') u hok hg hch
end
noncomputable abbrev XK:=Value->Option Addr->Hp->Prop
noncomputable abbrev St:=List (Option V)
noncomputable abbrev VK:=V->Hp->Prop
noncomputable abbrev TE:=St->Hp->VK->Prop
noncomputable abbrev TT:=St->Hp->(Bool->Hp->Prop)->Prop
noncomputable abbrev TA:=St->Hp->(List V->Hp->Prop)->Prop
structure Ends where
 nx:St->Hp->Prop
 rt:VK
 bk:St->Hp->Prop:=fun _ _=>False
 ct:St->Hp->Prop:=fun _ _=>False
noncomputable abbrev TS:=Ends->St->Hp->Prop
noncomputable def EP(X:Cx)(pins:Z3)(σ:St)(Q:VK)(u:Value)(s':Shared):Prop:=∃v H',Inv X pins σ H' s'/\zbs v u/\Q v H'
noncomputable def TP(X:Cx)(pins:Z3)(σ:St)(Q:Bool->Hp->Prop)(b:Bool)(s':Shared):Prop:=∃H',Inv X pins σ H' s'/\Q b H'
noncomputable def AP(X:Cx)(pins:Z3)(σ:St)(Q:List V->Hp->Prop)(us:List Value)(s':Shared):Prop:=∃vs H',Inv X pins σ H' s'/\Vals vs us/\Q vs H'
noncomputable def SP(X:Cx)(pins:Z3)(D:Ends)(f:Flow)(s':Shared):Prop:=
 match f with
 |.next=>∃σ' H',Inv X pins σ' H' s'/\D.nx σ' H'|.brk=>∃σ' H',Inv X pins σ' H' s'/\D.bk σ' H'|.cont=>∃σ' H',Inv X pins σ' H' s'/\D.ct σ' H'|.ret u=>∃v σ' H',Inv X pins σ' H' s'/\zbs v u/\D.rt v H'
noncomputable def PE(X:Cx)(e:Expr)(t:TE):Prop:=
 ∀(pins:Z3) (s:Shared) (σ:St) (H:Hp) (Q:VK),Inv X pins σ H s->t σ H Q->wpAny (model X.prog X.w) X.A (eval e X.env) (EP X pins σ Q) X.xe s
noncomputable def PT(X:Cx)(e:Expr)(t:TT):Prop:=
 ∀(pins:Z3) (s:Shared) (σ:St) (H:Hp) (Q:Bool->Hp->Prop),Inv X pins σ H s->t σ H Q->wpAny (model X.prog X.w) X.A (isTrue e X.env (eval e X.env)) (TP X pins σ Q) X.xe s
noncomputable def PW(X:Cx)(e:Expr)(t:TT):Prop:=
 ∀(whole:Sem Value) (pins:Z3) (s:Shared) (σ:St) (H:Hp) (Q:Bool->Hp->Prop),Inv X pins σ H s->t σ H Q->wpAny (model X.prog X.w) X.A (isTrue e X.env whole) (TP X pins σ Q) X.xe s
def PW.pt{X:Cx}{e:Expr}{t:TT}(h:PW X e t):PT X e t:=h _
noncomputable def PA(X:Cx)(es:List Expr)(t:TA):Prop:=
 ∀(pos:Pos) (pins:Z3) (s:Shared) (σ:St) (H:Hp) (Q:List V->Hp->Prop),Inv X pins σ H s->t σ H Q->wpAny (model X.prog X.w) X.A (spliced (backTo pos (starEach es X.env))) (AP X pins σ Q) X.xe s
noncomputable def PS(X:Cx)(st:Stmt)(t:TS):Prop:=
 ∀(pins:Z3) (s:Shared) (σ:St) (H:Hp) (D:Ends),Inv X pins σ H s->t D σ H->wpAny (model X.prog X.w) X.A (exec st X.env) (SP X pins D) X.xe s
noncomputable def PSs(X:Cx)(st:List Stmt)(t:TS):Prop:=
 ∀(pins:Z3) (s:Shared) (σ:St) (H:Hp) (D:Ends),Inv X pins σ H s->t D σ H->wpAny (model X.prog X.w) X.A (execs st X.env) (SP X pins D) X.xe s
def thn{α:Type}{t:Sem α}{Q Q':α->Shared->Prop}{M:Model}{A:Around}{E:Z5}{s:Shared}(h:wpAny M A t Q E s)(hQ:∀a s,Q a s->Q' a s):wpAny M A t Q' E s:=ybg h hQ fun _ _ x=>x
section
variable{X:Cx}
noncomputable def zuE(i:Nat):TE:=fun σ H Q=>∃v,σ[i]?=some (some v)/\Q v H
noncomputable def tC(v:V):TE:=fun _ H Q=>Q v H
def zbQ{i:Nat}{x:Str}{pos:Pos}(hN:X.N[i]?=some x)(hv:Vis X.env.scope x)(hd:autoParam ((x==("__debug__":Str))=false) yAR)(hcd:autoParam ((x==("__classdict__":Str))=false) yAR):PE X (.Name x pos) (zuE i):=by
 intro pins s σ H Q I h;obtain⟨v,e,h⟩:=h;obtain⟨m,hn,hl⟩:=I.loc;obtain⟨u,r,l⟩:=hl i x v hN e hv;have fin:EP X pins σ Q u s:=⟨v,H,I,r,h⟩
 rcases l with⟨hk,hm⟩|⟨hk,c,hc,hcell⟩
 ·exact wpAny_Name (wpAny_loadName_local I.ok.kind hk hn hm fin) hd
 ·rcases hk with hk|hk
  ·exact wpAny_Name (wpAny_loadName_cell I.ok.kind hk hc hcell fin) hd
  ·exact wpAny_Name (wpAny_loadName_free I.ok.kind hk hc hcell fin hcd) hd
def zjR{i j pos}:PE X (.Constant (.int i) j pos) (tC (.int i)):=fun _ _ _ H _ I h=>wpAny_Constant_int ⟨.int i,H,I.tok _,⟨_,rfl⟩,h⟩
def zp6{b j pos}:PE X (.Constant (.bool b) j pos) (tC (.bl b)):=fun _ _ _ H _ I h=>Constant_bool ⟨.bl b,H,I,rfl,h⟩
def zp4{j pos}:PE X (.Constant .none j pos) (tC .non):=fun _ _ _ H _ I h=>Constant_none ⟨.non,H,I,rfl,h⟩
def zp0{x j pos}:PE X (.Constant (.str x) j pos) (tC (.str x)):=fun _ _ _ H _ I h=>Calls.Constant_str ⟨.str x,H,I.tok _,⟨_,rfl⟩,h⟩
noncomputable def Gl(X:Cx)(x:Str):Prop:=X.env.kindOf x=some .globalImplicit
def zdN{E:Z5}{pins:Z3}{s:Shared}{σ:St}{H:Hp}{x:Str}{u:Value}{pos:Pos}{Q:Z5}(I:Inv X pins σ H s)(hg:Gl X x)(hm:X.mg x=some u)(h:Q u s)
  (hd:autoParam ((x==("__debug__":Str))=false) yAR):wpAny (model X.prog X.w) X.A (eval (.Name x pos) X.env) Q E s:=
 Calls.Name_function_global I.ok.kind hg (Calls.loadGlobal_global (by rw[I.ok.glob];exact I.mod.glob.keeps I.bk) hm h) hd
def zdZ{E:Z5}{pins:Z3}{s:Shared}{σ:St}{H:Hp}{x:Str}{u:Value}{pos:Pos}{Q:Z5}(I:Inv X pins σ H s)(hg:Gl X x)(hm:X.mg x=none)(hv:bootBuiltins x=some u)(h:Q u s)
  (hn:autoParam (x ≠ "__name__") yAR) (hd:autoParam ((x==("__debug__":Str))=false) yAR):wpAny (model X.prog X.w) X.A (eval (.Name x pos) X.env) Q E s:=by
 obtain⟨mb,h1,h2⟩:=I.mod.blt;exact Calls.Name_function_global I.ok.kind hg (Calls.loadGlobal_builtin (by rw[I.ok.glob];exact I.mod.glob.keeps I.bk) hm (by rw[I.ok.blt];exact h1.keeps I.bk) ((h2 x hn).trans hv) h) hd
def zjS{x:Str}{v:V}{u:Value}{pos:Pos}(hg:Gl X x)(hm:X.mg x=some u)(r:zbs v u)(hd:autoParam ((x==("__debug__":Str))=false) yAR):PE X (.Name x pos) (tC v):=
 fun _ _ _ H _ I h=>zdN I hg hm ⟨v,H,I,r,h⟩ hd
def zjV{x:Str}{v:V}{u:Value}{pos:Pos}(hg:Gl X x)(hm:X.mg x=none)(hv:bootBuiltins x=some u)(r:zbs v u)(hn:autoParam (x ≠ "__name__") yAR)(hd:autoParam ((x==("__debug__":Str))=false) yAR):PE X (.Name x pos) (tC v):=
 fun _ _ _ H _ I h=>zdZ I hg hm hv ⟨v,H,I,r,h⟩ hn hd
variable{a b:Expr}{ta tb:TE}{pos:Pos}
noncomputable def tB(t:TE):TT:=fun σ H Q=>t σ H fun x H1=>∃c,x=.bl c/\Q c H1
def zpU{e:Expr}{t:TE}(h:PE X e t)(he:autoParam (∀whole,isTrue e X.env whole=(do let v ← whole;standAt e.pos;holding [v] (truthy v))) yAU):PT X e (tB t):=by
 intro pins s σ H Q I hw;refine isTrue_plain (thn (h pins s σ H _ I hw) fun v s1 ⟨x,H1,I1,r1,q1⟩=>?_) (he _);obtain⟨d,rfl,q⟩:=q1;cases r1;exact ybf ⟨H1,I1,q⟩
variable{tA tB':TT}{zbF:List Expr}
noncomputable def zuH(t u:TT):TT:=fun σ H Q=>t σ H fun c H1=>if c=true then u σ H1 Q else Q false H1
noncomputable def tOr(t u:TT):TT:=fun σ H Q=>t σ H fun c H1=>if c=true then Q true H1 else u σ H1 Q
noncomputable def zuF(t:TT):TT:=fun σ H Q=>t σ H fun c H1=>Q (!c) H1
def znP(ha:PT X a tA):PW X (.BoolOp .And [a] pos) tA:=by
 intro wh pins s σ H Q I h;refine isTrue_and (thn (ha pins s σ H Q I h) fun c s1 e=>?_)
 cases c with
 |true=>exact isTrue_and_nil e|false=>exact e
def zpS(ha:PT X a tA):PW X (.BoolOp .Or [a] pos) tA:=by
 intro wh pins s σ H Q I h;refine isTrue_or (thn (ha pins s σ H Q I h) fun c s1 e=>?_)
 cases c with
 |false=>exact isTrue_or_nil e|true=>exact e
def zpT(ha:PT X a tA)(hb:PW X (.BoolOp .And (b::zbF) pos) tB'):PW X (.BoolOp .And (a::b::zbF) pos) (zuH tA tB'):=by
 intro wh pins s σ H Q I h;refine isTrue_and (thn (ha pins s σ H _ I h) fun c s1 ⟨H1,I1,q1⟩=>?_)
 cases c with
 |true=>exact hb wh pins s1 σ H1 Q I1 q1|false=>exact⟨H1,I1,q1⟩
def zsF(ha:PT X a tA)(hb:PW X (.BoolOp .Or (b::zbF) pos) tB'):PW X (.BoolOp .Or (a::b::zbF) pos) (tOr tA tB'):=by
 intro wh pins s σ H Q I h;refine isTrue_or (thn (ha pins s σ H _ I h) fun c s1 ⟨H1,I1,q1⟩=>?_)
 cases c with
 |true=>exact⟨H1,I1,q1⟩|false=>exact hb wh pins s1 σ H1 Q I1 q1
def zpV(ha:PT X a tA):PT X (.UnaryOp .Not a pos) (zuF tA):=by
 intro pins s σ H Q I h;exact isTrue_not (ha pins s σ H (fun c H1=>Q (!c) H1) I h)
noncomputable def zsp(ta tb:TE):TE:=fun σ H Q=>ta σ H fun x H1=>∃c,x=.bl c/\if c=true then tb σ H1 Q else Q (.bl false) H1
noncomputable def zwF(ta tb:TE):TE:=fun σ H Q=>ta σ H fun x H1=>∃c,x=.bl c/\if c=true then Q (.bl true) H1 else tb σ H1 Q
noncomputable def zsg(ta:TE):TE:=fun σ H Q=>ta σ H fun x H1=>∃c,x=.bl c/\Q (.bl (!c)) H1
def zp2{op}{t:TE}(h:PE X a t):PE X (.BoolOp op [a] pos) t:=fun pins s σ H Q I hw=>BoolOp_one (h pins s σ H Q I hw)
def zp7(ha:PE X a ta)(hb:PE X (.BoolOp .And (b::zbF) pos) tb):PE X (.BoolOp .And (a::b::zbF) pos) (zsp ta tb):=by
 intro pins s σ H Q I h;refine BoolOp_and (thn (ha pins s σ H _ I h) fun v s1 ⟨x,H1,I1,r1,q1⟩=>?_);obtain⟨c,rfl,q1⟩:=q1;cases r1;refine ybf ?_
 cases c with
 |true=>exact hb pins s1 σ H1 Q I1 q1|false=>exact⟨.bl false,H1,I1,rfl,q1⟩
def zsI(ha:PE X a ta)(hb:PE X (.BoolOp .Or (b::zbF) pos) tb):PE X (.BoolOp .Or (a::b::zbF) pos) (zwF ta tb):=by
 intro pins s σ H Q I h;refine BoolOp_or (thn (ha pins s σ H _ I h) fun v s1 ⟨x,H1,I1,r1,q1⟩=>?_);obtain⟨c,rfl,q1⟩:=q1;cases r1;refine ybf ?_
 cases c with
 |false=>exact hb pins s1 σ H1 Q I1 q1|true=>exact⟨.bl true,H1,I1,rfl,q1⟩
def zp3(ha:PE X a ta):PE X (.UnaryOp .Not a pos) (zsg ta):=by
 intro pins s σ H Q I h;refine UnaryOp_ (thn (ha pins s σ H _ I h) fun v s1 ⟨x,H1,I1,r1,q1⟩=>?_);obtain⟨c,rfl,q1⟩:=q1;cases r1;exact not_of (ybf ⟨.bl (!c),H1,I1,rfl,q1⟩)
noncomputable def tIf(t:TT)(ta tb:TE):TE:=fun σ H Q=>t σ H fun c H1=>if c=true then ta σ H1 Q else tb σ H1 Q
def zlI{c:Expr}(hc:PT X c tA)(ha:PE X a ta)(hb:PE X b tb):PE X (.IfExp c a b pos) (tIf tA ta tb):=by
 intro pins s σ H Q I h;refine wpAny_IfExp (thn (hc pins s σ H _ I h) fun d s1 ⟨H1,I1,q1⟩=>?_)
 cases d with
 |true=>exact ha pins s1 σ H1 Q I1 q1|false=>exact hb pins s1 σ H1 Q I1 q1
end
noncomputable def SqL(K:PySem.W.Frag)(H:Hp)(a:Addr)(xs:List V):Prop:=
 Rd H a (.lst xs) ∨
  ∃(o:Obj) (its:Array Value) (n:Nat),K.lookup a=some o/\o.cls=.type "list" /\ o.dict=none/\o.data=.seq its n/\its.size<=sizeLine/\Vals xs its.toList
noncomputable def SqT(K:PySem.W.Frag)(H:Hp)(a:Addr)(xs:List V):Prop:=
 Rd H a (.tup xs) ∨
  ∃(o:Obj) (its:Array Value) (n:Nat),K.lookup a=some o/\o.cls=.type "tuple" /\ o.data=.seq its n/\its.size<=sizeLine/\Vals xs its.toList
noncomputable def zx1:Value->Option V
 |.none=>some .non|.bool b=>some (.bl b)|.int i _=>some (.int i)|.str x _=>some (.str x)|.bytes b _=>some (.byt b)|.float b _=>some (.flt b)|.ref a=>some (.ref a)|.type n=>some (.ty n)|_=>none
def zbs.abs{x:V}{u:Value}(r:zbs x u):zx1 u=some x:=by
 cases x with
 |non=>cases r;rfl|bl _=>cases r;rfl|int _=>obtain⟨t,rfl⟩:=r;rfl|str _=>obtain⟨t,rfl⟩:=r;rfl|byt _=>obtain⟨t,rfl⟩:=r;rfl|flt _=>obtain⟨t,rfl⟩:=r;rfl|ref _=>cases r;rfl|ty _=>cases r;rfl
theorem zbs.inj{x y:V}{u:Value}(r:zbs x u)(q:zbs y u):x=y:=Option.some.inj (r.abs.symm.trans q.abs)
theorem Vals.inj:∀{xs ys:List V}{us:List Value},Vals xs us->Vals ys us->xs=ys
 |_,_,_,.nil,.nil=>rfl|_,_,_,.cons r t,.cons r' t'=>by rw[r.inj r',Vals.inj t t']
section
variable{X:Cx}{pins:Z3}{σ:St}{H:Hp}{s:Shared}{a:Addr}{xs ys:List V}
def SqL.of{K:PySem.W.Frag}(h:H a=some (.lst xs)):SqL K H a xs:=.inl (.inl h)
def SqT.of{K:PySem.W.Frag}(h:H a=some (.tup xs)):SqT K H a xs:=.inl (.inl h)
theorem Inv.list(I:Inv X pins σ H s)(h:SqL X.K H a xs):∃its:List Value,Vals xs its/\PlainL s.heap a its.toArray/\xs.length<=sizeLine:=by
 rcases h with h|⟨o,its,n,hk,hc,hd,hs,hz,r⟩
 ·obtain⟨z,its,n,r,e⟩:=h.ok I.hok;exact⟨its,r,⟨_,n,e,rfl,rfl,rfl⟩,z⟩
 ·refine⟨its.toList,r,⟨o,n,I.kIn a o hk,hc,hd,by simpa using hs⟩,?_⟩;have e:=r.length;simp only[ycv]at e;omega
def Inv.tuple(I:Inv X pins σ H s)(h:SqT X.K H a xs):∃its:List Value,Vals xs its/\IsTup s.heap a its.toArray/\xs.length<=sizeLine:=by
 rcases h with h|⟨o,its,n,hk,hc,hs,hz,r⟩
 ·obtain⟨z,its,r,p⟩:=h.ok I.hok;exact⟨its,r,p,z⟩
 ·refine⟨its.toList,r,⟨o,I.kIn a o hk,hc,n,by simpa using hs⟩,?_⟩;have e:=r.length;simp only[ycv]at e;omega
def Inv.list_inj(I:Inv X pins σ H s)(h:SqL X.K H a xs)(h':SqL X.K H a ys):xs=ys:=by
 obtain⟨its,r,⟨o,n,e,_,_,d⟩,_⟩:=I.list h;obtain⟨its',r',⟨o',n',e',_,_,d'⟩,_⟩:=I.list h';rw[e]at e';cases e';rw[d]at d'
 injection d' with d1 _
 have:its=its':=by simpa using congrArg Array.toList d1
 subst this;exact r.inj r'
def Inv.tuple_inj(I:Inv X pins σ H s)(h:SqT X.K H a xs)(h':SqT X.K H a ys):xs=ys:=by
 obtain⟨its,r,⟨o,e,_,n,d⟩,_⟩:=I.tuple h;obtain⟨its',r',⟨o',e',_,n',d'⟩,_⟩:=I.tuple h';rw[e]at e';cases e';rw[d]at d'
 injection d' with d1 _
 have:its=its':=by simpa using congrArg Array.toList d1
 subst this;exact r.inj r'
end
section
variable{X:Cx}{st:Stmt}{zbF:List Stmt}{t u:TS}{e:Expr}{te:TE}{pos:Pos}
noncomputable def zsi:TS:=fun D σ H=>D.nx σ H
noncomputable def zwC(t u:TS):TS:=fun D σ H=>t {D with nx:=u D} σ H
def znR:PSs X [] zsi:=fun _ _ σ H _ I h=>ycw ⟨σ,H,I,h⟩
def zlA(h1:PS X st t)(h2:PSs X zbF u):PSs X (st::zbF) (zwC t u):=by
 intro pins s σ H D I h;refine wpAny_execs_cons (thn (h1 pins s σ H {D with nx:=u D} I h) fun f s1 q=>?_)
 cases f with
 |next=>
  obtain⟨σ',H',I',q⟩:=q;exact h2 pins s1 σ' H' D I' q
 |ret v=>exact q|brk=>exact q|cont=>exact q
def znQ(h1:PS X st t):PSs X [st] t:=by
 intro pins s σ H D I h;refine wpAny_execs_cons (thn (h1 pins s σ H D I h) fun f s1 q=>?_)
 cases f with
 |next=>exact ycw q|ret v=>exact q|brk=>exact q|cont=>exact q
def Inv.quiet{pins:Z3}{σ:St}{H:Hp}{s:Shared}(I:Inv X pins σ H s):interactive X.env=false:=by simp[interactive,I.ok.kind]
noncomputable def zsm(te:TE):TS:=fun D σ H=>te σ H fun _ H1=>D.nx σ H1
def zhh(he:PE X e te)(hs:autoParam (swapsWith e none pos.line X.env=pure false) yAW):PS X (.Expr e pos) (zsm te):=by
 intro pins s σ H D I h;exact wpAny_Expr_any (thn (he pins s σ H _ I h) fun v s1 ⟨x,H1,I1,r1,q1⟩=>⟨σ,H1,I1,q1⟩) I.quiet hs
noncomputable def zwE(te:TE):TS:=fun D σ H=>te σ H D.rt
def zjH(he:PE X e te):PS X (.Return (some e) pos) (zwE te):=by
 intro pins s σ H D I h;exact wpAny_Return_some (thn (he pins s σ H _ I h) fun v s1 ⟨x,H1,I1,r1,q1⟩=>⟨x,σ,H1,I1,r1,q1⟩)
noncomputable def zwH(c:TT)(t u:TS):TS:=fun D σ H=>c σ H fun b H1=>if b=true then t D σ H1 else u D σ H1
def zsG{c:Expr}{a b:List Stmt}{tc:TT}(hc:PT X c tc)(ha:PSs X a t)(hb:PSs X b u):PS X (.If c a b pos) (zwH tc t u):=by
 intro pins s σ H D I h;refine wpAny_If (thn (hc pins s σ H _ I h) fun d s1 ⟨H1,I1,q1⟩=>?_)
 cases d with
 |true=>exact ha pins s1 σ H1 D I1 q1|false=>exact hb pins s1 σ H1 D I1 q1
end
noncomputable abbrev TG:=V->St->Hp->(St->Hp->Prop)->Prop
noncomputable abbrev TGs:=List V->St->Hp->(St->Hp->Prop)->Prop
noncomputable def PG(X:Cx)(target:Expr)(t:TG):Prop:=
 ∀(pins:Z3) (s:Shared) (σ:St) (H:Hp) (v:V) (u:Value) (Q:St->Hp->Prop),Inv X pins σ H s->zbs v u->t v σ H Q →
  wpAny (model X.prog X.w) X.A (assign target X.env u) (fun _ s'=>∃σ' H',Inv X pins σ' H' s'/\Q σ' H') X.xe s
noncomputable def PGs(X:Cx)(ts:List Expr)(t:TGs):Prop:=
 ∀(pins:Z3) (s:Shared) (σ:St) (H:Hp) (vs:List V) (us:List Value) (Q:St->Hp->Prop),Inv X pins σ H s->Vals vs us->t vs σ H Q →
  wpAny (model X.prog X.w) X.A (assignInOrder ((assignEach ts X.env).map (·.2)) us) (fun _ s'=>∃σ' H',Inv X pins σ' H' s'/\Q σ' H') X.xe s
noncomputable abbrev TSet:=V->V->V->Hp->(Hp->Prop)->Prop
noncomputable def zrV(X:Cx)(t:TSet):Prop:=
 ∀(pins:Z3) (s:Shared) (σ:St) (H:Hp) (o i v:V) (ov iv u:Value) (Q:Hp->Prop),Inv X pins σ H s->zbs o ov->zbs i iv->zbs v u->t o i v H Q →
  wpAny (model X.prog X.w) X.A (setItem ov iv u) (fun _ s'=>∃H',Inv X pins σ H' s'/\Q H') X.xe s
section
variable{X:Cx}{pos:Pos}
noncomputable def zhq(i:Nat):TG:=fun v σ H Q=>Q (σ.set i (some v)) H
def zjO{i:Nat}{x:Str}(hN:X.N.Nodup)(hi:X.N[i]?=some x)(hx:Loc X.env.scope x)(hf:X.fn x=true\/X.env.scope.names.lookup x=some .local):PG X (.Name x pos) (zhq i):=by
 intro pins s σ H v u Q I r h;exact wpAny_assign_Name (zec I hN hi hx r (fun s' I'=>⟨_,H,I',h⟩) hf)
noncomputable def zxP:TGs:=fun vs σ H Q=>vs=[]/\Q σ H
noncomputable def ztn(t:TG)(u:TGs):TGs:=fun vs σ H Q=>∃v r,vs=v::r/\t v σ H fun σ' H'=>u r σ' H' Q
def znY:PGs X [] zxP:=by
 intro pins s σ H vs us Q I r h;obtain⟨e,h⟩:=h;subst e;cases r;exact assignInOrder_nil ⟨σ,H,I,h⟩
def zlE{e:Expr}{es:List Expr}{t:TG}{u:TGs}(h1:PG X e t)(h2:PGs X es u)
  (hs:autoParam ((assignEach (e::es) X.env).map (·.2)=assign e X.env::(assignEach es X.env).map (·.2)) yAW):PGs X (e::es) (ztn t u):=by
 intro pins s σ H vs us Q I r h;obtain⟨v,vr,e1,h⟩:=h;subst e1
 cases r with
 |cons r rr=>
  rw[hs];refine assignInOrder_cons (thn (h1 pins s σ H _ _ _ I r h) fun _ s1 ⟨σ1,H1,I1,q1⟩=>?_);exact h2 pins s1 σ1 H1 _ _ Q I1 rr q1
noncomputable def zxN(K:PySem.W.Frag)(n:Nat)(t:TGs):TG:=fun v σ H Q=>∃a xs,v=.ref a/\SqT K H a xs/\xs.length=n/\t xs σ H Q
def zpY{es:List Expr}{k:Nat}{t:TGs}{n:Nat}(hc:X.calm=true)(h:PGs X es t)
  (hn:autoParam ((assignEach es X.env).length=n) yAW) (hst:autoParam ((assignEach es X.env).findIdx? (·.1)=none) yAW):PG X (.Tuple es k pos) (zxN X.K n t):=by
 intro pins s σ H v u Q I r hw;obtain⟨a,xs,e1,hq,hl,hw⟩:=hw;subst e1;cases r;obtain⟨its,rv,ht,hz⟩:=I.tuple hq;refine assign_Tuple_tuple (I.ok.hd hc) ht (by simp[hn,<-hl,rv.length]) hst fun h' hx=>?_
 have I1:Inv X pins σ H {s with heap:=h'}:=I.kept (t':=s.toks) fun b o e=>hx b o (yaD (yaq e)) e
 exact h pins _ σ H xs _ Q I1 (by simpa using rv) hw
noncomputable def zxO(to ti:TE)(t:TSet):TG:=fun v σ H Q=>to σ H fun o H1=>ti σ H1 fun i H2=>t o i v H2 fun H3=>Q σ H3
def zjN{o i:Expr}{to ti:TE}{t:TSet}(ho:PE X o to)(hi:PE X i ti)(hs:zrV X t)
  (ha:autoParam (∀v,assign (.Subscript o i pos) X.env v=(do
   let ov ← holding [v] (eval o X.env)
   let iv ← holding [v,ov] (eval i X.env)
   standAt pos
   holding [v,ov,iv] (setItem ov iv v)
   release [v,ov,iv] [])) yAU):PG X (.Subscript o i pos) (zxO to ti t):=by
 intro pins s σ H v u Q I r h;rw[ha];refine yaa (ybP (thn (ho pins s σ H _ I h) fun ov s1 ⟨x,H1,I1,r1,q1⟩=>?_));refine yaa (ybP (thn (hi pins s1 σ H1 _ I1 q1) fun iv s2 ⟨y,H2,I2,r2,q2⟩=>?_));refine yaa (wpAny_standAt (yaa (ybP (thn (hs pins s2 σ H2 x y v ov iv u _ I2 r1 r2 r q2) fun _ s3 ⟨H3,I3,q3⟩=>?_))));exact wpAny_release ⟨σ,H3,I3,q3⟩
noncomputable def zmB(te:TE)(g:TG):TS:=fun D σ H=>te σ H fun x H1=>g x σ H1 D.nx
def zhY{tg e:Expr}{te:TE}{g:TG}(he:PE X e te)(hg:PG X tg g)(hs:autoParam (swapsWithSole [tg] e pos.line X.env=pure false) yAW)(hw:autoParam (swappedStores [tg] e X.env=pure none) yAW)
  (h1:autoParam ((assignEach [tg] X.env).map (·.2)=[assign tg X.env]) yAW):PS X (.Assign [tg] e pos) (zmB te g):=by
 intro pins s σ H D I h;refine wpAny_Assign_stores (thn (he pins s σ H _ I h) fun v s1 ⟨x,H1,I1,r1,q1⟩=>?_) hs hw;rw[h1];exact thn (hg pins s1 σ H1 x v _ I1 r1 q1) fun _ s2 q=>q
def zhW{i:Nat}{x:Str}{e:Expr}{te:TE}{pos':Pos}(hN:X.N.Nodup)(hi:X.N[i]?=some x)(hx:Loc X.env.scope x)(he:PE X e te)(hs:autoParam (swapsWith e (some (.Name x pos')) pos.line X.env=pure false) yAW)(hf:X.fn x=true\/X.env.scope.names.lookup x=some .local):
  PS X (.Assign [.Name x pos'] e pos) (zmB te (zhq i)):=by
 intro pins s σ H D I h;refine wpAny_Assign_Name (thn (he pins s σ H _ I h) fun v s1 ⟨y,H1,I1,r1,q1⟩=>?_) hs;exact zec I1 hN hi hx r1 (fun s2 I2=>⟨_,H1,I2,q1⟩) hf
end
structure It where
 go:Nat->Hp->Prop
 yld:Nat->Hp->V->Hp->Prop
 stop:Nat->Hp->Prop
noncomputable def zk2(X:Cx)(pins:Z3)(H:Hp)(b:Addr):Prop:=
 H b=none/\b≠X.env.locals/\b ∉ X.fs/\(b∈X.ex\/X.s₀.heap.objs.size<=b)/\(∀x c,X.env.cells.lookup x=some c->c≠b)/\∀p∈X.pn++pins,p.1≠b
def Inv.fpOk{X:Cx}{pins:Z3}{σ:St}{H H':Hp}{s:Shared}{b:Addr}(I:Inv X pins σ H s)(hb:s.heap.objs.size<=b)(hn:H' b=none):zk2 X pins H' b:=by
 refine⟨hn,ya0 (yam I.lt hb),I.nofs hb,.inr (yan I.sz hb),fun x c e z=>?_,fun p hp z=>?_⟩
 ·obtain⟨v,q⟩:=I.cell x c e;exact absurd (yam q.lt (by rw[z];exact hb)) (yaQ _)
 ·exact absurd (yam (yaq (I.pin p hp).1) (by rw[z];exact hb)) (yaQ _)
structure Turn(P:Program)(w:World)(K:PySem.W.Frag)(tg:Expr)(J:It)(fp:List Addr)(it:Addr)(tn:Nat->Heap->Prop):Prop where
 mem:it∈fp
 obj:∀i h,tn i h->∀b∈fp,∃o,h.get? b=some o/\∀v,o.data≠.cell v
 keep:∀i h h',tn i h->(∀b∈fp,∀o,h.get? b=some o->h'.get? b=some o)->tn i h'
 item:∀(X:Cx),X.prog=P->X.w=w->X.K=K->X.calm=true->∀(i:Nat) (pins:Z3) (s:Shared) (σ:St) (H:Hp) (E:Z5),Inv X pins σ H s->(∀b∈fp,zk2 X pins H b)->tn i s.heap->J.go i H →
  wpAny (model P w) X.A (pyNext (.ref it)) (fun r s1=>∃u,r=some u ∧
   wpAny (model P w) X.A (letOwnedTupleGo tg (.ref it) u) (fun _ s2=>∃x H',Inv X pins σ H' s2/\zbs x u/\J.yld i H x H'/\tn (i+1) s2.heap/\∀b∈fp,H' b=none) E s1) E s
 done:∀(X:Cx),X.prog=P->X.w=w->X.K=K->X.calm=true->∀(i:Nat) (pins:Z3) (s:Shared) (σ:St) (H:Hp) (E:Z5),Inv X pins σ H s->(∀b∈fp,zk2 X pins H b)->tn i s.heap->J.stop i H →
  wpAny (model P w) X.A (pyNext (.ref it)) (fun r s1=>r=none/\Inv X pins σ H s1) E s
 self:∀(A:Around) (i:Nat) (s:Shared) (Q:Z5) (E:Z5),tn i s.heap->Q (.ref it) s->wpAny (model P w) A (pyIter (.ref it)) Q E s
noncomputable abbrev TI:=St->Hp->(It->Hp->Prop)->Prop
noncomputable def PIE(X:Cx)(pins:Z3)(σ:St)(tg:Expr)(R:It->Hp->Prop)(itv:Value)(s2:Shared):Prop:=
 ∃(it:Addr) (fp:List Addr) (tn:Nat->Heap->Prop) (J:It) (H':Hp),itv=.ref it/\Inv X pins σ H' s2/\Turn X.prog X.w X.K tg J fp it tn/\tn 0 s2.heap/\(∀b∈fp,zk2 X pins H' b)/\R J H'
noncomputable def PI(X:Cx)(tg iter:Expr)(wi:TI):Prop:=
 ∀(pins:Z3) (s:Shared) (σ:St) (H:Hp) (R:It->Hp->Prop),Inv X pins σ H s->wi σ H R →
  wpAny (model X.prog X.w) X.A (eval iter X.env) (fun v s1=>wpAny (model X.prog X.w) X.A (pyIter v) (PIE X pins σ tg R) X.xe s1) X.xe s
def zoC {M : Model}{A : Around}{E : Z5}{s : Shared}{tg : Expr}{it : Addr}{u : Value}{o : Obj}{n : String}{vs : Array Value}{Q : Unit -> Shared -> Prop} (ho : s.heap.get? it=some o) (hc : o.cls=.type n) (hd : o.data=.fields vs)
    (hn : ["enumerate", "zip", "dict_itemiterator", "dict_reverseitemiterator", "odict_iterator", "itertools.zip_longest", "itertools.pairwise"].contains n=false) (hQ : Q () s): wpAny M A (letOwnedTupleGo tg (.ref it) u) Q E s:= by
  unfold letOwnedTupleGo
  cases tg <;> first
    |exact yah hQ
    | (cases u <;> first
        |exact yah hQ
        | (refine yaa (wpAny_load ho ?_)
           rw[hc, hd];show wpAny M A (if(["enumerate", "zip", "dict_itemiterator", "dict_reverseitemiterator", "odict_iterator", "itertools.zip_longest", "itertools.pairwise"].contains n && vs[0]?==some (rawInt _))=true then _ else _) Q E s;rw[if_neg (by intro h; rw[hn, Bool.false_and]at h; cases h)]
           exact yah hQ))
noncomputable def Itl(K:PySem.W.Frag)(a:Addr):It:=
 ⟨fun i H=>∃xs x,SqL K H a xs/\xs[i]?=some x,fun i H x H'=>H'=H/\∀xs,SqL K H a xs->xs[i]?=some x,fun i H=>∃xs,SqL K H a xs/\xs.length<=i⟩
noncomputable def Itt(K:PySem.W.Frag)(a:Addr):It:=
 ⟨fun i H=>∃xs x,SqT K H a xs/\xs[i]?=some x,fun i H x H'=>H'=H/\∀xs,SqT K H a xs->xs[i]?=some x,fun i H=>∃xs,SqT K H a xs/\xs.length<=i⟩
noncomputable def Itr(lo:Int)(n:Nat):It:=⟨fun i _=>i<n,fun i H x H'=>H'=H/\x=.int (lo+i),fun i _=>n<=i⟩
theorem zjh{P:Program}{w:World}{K:PySem.W.Frag}{tg:Expr}(a it:Addr):Turn P w K tg (Itl K a) [it] it (fun i h=>h.IsListIter it a i)where
 mem:=by simp
 obj:=fun i h st b hb=>by
  have e:b=it:=by simpa using hb
  subst e;obtain⟨o,e,c,d⟩:=st;exact⟨o,e,fun v z=>by rw[d]at z;cases z⟩
 keep:=fun i h h' st k=>st.at fun o e=>k it (by simp) o e
 item:=by
  intro X hP hw hK hc i pins s σ H E I hf st hg;subst hP hw hK;obtain⟨xs,x,hq,hx⟩:=hg;obtain⟨its,rv,p,hz⟩:=I.list hq;obtain⟨u,hu,ru⟩:=rv.get hx;obtain⟨f0,f1,f2,f3,f4,f5⟩:=hf it (by simp);refine wpAny_pyNext_list_item st p.isList (x:=u) (by simpa using hu) fun h' st' sb=>?_
  have I1:Inv X pins σ H {s with heap:=h'}:=I.turned (t':=s.toks) (fun b o hb e=>(sb.2 b hb).trans e) f0 f1 f3 f4 f5;obtain⟨o,e,c,d⟩:=id st';exact⟨u,rfl,zoC (s:={s with heap:=h'}) e c d (by decide) ⟨x,H,I1,ru,⟨rfl,fun ys hy=>by rw[I.list_inj hy hq];exact hx⟩,st',fun b hb=>(hf b hb).1⟩⟩
 done:=by
  intro X hP hw hK hc i pins s σ H E I hf st hg;subst hP hw hK;obtain⟨xs,hq,hx⟩:=hg;obtain⟨its,rv,p,hz⟩:=I.list hq;obtain⟨f0,f1,f2,f3,f4,f5⟩:=hf it (by simp);have hl:=rv.length;exact wpAny_pyNext_list_end (I.ok.hd hc) st p.isList (by simp;omega) fun h' eb=>⟨rfl,I.turned (t':=s.toks) (fun b o hb e=>eb b o hb e) f0 f1 f3 f4 f5⟩
 self:=fun _ _ _ _ _ st h=>wpAny_pyIter_listiter st h
def ziB{P:Program}{w:World}{K:PySem.W.Frag}{tg:Expr}(a it:Addr):Turn P w K tg (Itt K a) [it] it (fun i h=>h.IsTupleIter it a i)where
 mem:=by simp
 obj:=fun i h st b hb=>by
  have e:b=it:=by simpa using hb
  subst e;obtain⟨o,e,c,d⟩:=st;exact⟨o,e,fun v z=>by rw[d]at z;cases z⟩
 keep:=fun i h h' st k=>st.at fun o e=>k it (by simp) o e
 item:=by
  intro X hP hw hK hc i pins s σ H E I hf st hg;subst hP hw hK;obtain⟨xs,x,hq,hx⟩:=hg;obtain⟨its,rv,p,hz⟩:=I.tuple hq;obtain⟨u,hu,ru⟩:=rv.get hx;obtain⟨f0,f1,f2,f3,f4,f5⟩:=hf it (by simp);refine wpAny_pyNext_tuple_item st (show s.heap.IsTuple a its.toArray from p) (x:=u) (by simpa using hu) fun h' st' sb=>?_
  have I1:Inv X pins σ H {s with heap:=h'}:=I.turned (t':=s.toks) (fun b o hb e=>(sb.2 b hb).trans e) f0 f1 f3 f4 f5;obtain⟨o,e,c,d⟩:=id st';exact⟨u,rfl,zoC (s:={s with heap:=h'}) e c d (by decide) ⟨x,H,I1,ru,⟨rfl,fun ys hy=>by rw[I.tuple_inj hy hq];exact hx⟩,st',fun b hb=>(hf b hb).1⟩⟩
 done:=by
  intro X hP hw hK hc i pins s σ H E I hf st hg;subst hP hw hK;obtain⟨xs,hq,hx⟩:=hg;obtain⟨its,rv,p,hz⟩:=I.tuple hq;obtain⟨f0,f1,f2,f3,f4,f5⟩:=hf it (by simp);have hl:=rv.length;exact wpAny_pyNext_tuple_end (I.ok.hd hc) st (show s.heap.IsTuple a its.toArray from p) (by simp;omega) fun h' eb=>⟨rfl,I.turned (t':=s.toks) (fun b o hb e=>eb b o hb e) f0 f1 f3 f4 f5⟩
 self:=fun _ _ _ _ _ st h=>wpAny_pyIter_tupleiter st h
theorem ziC{P:Program}{w:World}{K:PySem.W.Frag}{tg:Expr}(it:Addr)(lo:Int)(n:Nat):Turn P w K tg (Itr lo n) [it] it (fun i h=>IsRangeIter h it (lo+(i:Nat)*1) ((n:Int)-(i:Nat)) 1)where
 mem:=by simp
 obj:=fun i h st b hb=>by
  have e:b=it:=by simpa using hb
  subst e
  exact⟨_,st,fun v z=>by
   have z':Data.fields _=Data.cell v:=z
   cases z'⟩
 keep:=fun i h h' st k=>k it (by simp) _ st
 item:=by
  intro X hP hw hK hc i pins s σ H E I hf st hg;subst hP hw hK;obtain⟨f0,f1,f2,f3,f4,f5⟩:=hf it (by simp);have W:=Walks.range (prog:=X.prog) (w:=X.w) (I.ok.hd hc) it lo 1 n;refine W.item i s _ _ hg st fun v h' tk hv st' kk=>?_
  obtain⟨t,rfl⟩:=hv;have I1:Inv X pins σ H {s with heap:=h',toks:=tk}:=I.turned (fun b o hb e=>kk b o (by simpa using hb) e) f0 f1 f3 f4 f5;refine⟨_,rfl,zoC (s:={s with heap:=h',toks:=tk}) (n:="range_iterator") st' rfl rfl (by decide) ⟨.int (lo+i),H,I1,⟨t,?_⟩,⟨rfl,rfl⟩,st',fun b hb=>(hf b hb).1⟩⟩;rw[Int.mul_one]
 done:=by
  intro X hP hw hK hc i pins s σ H E I hf st hg;subst hP hw hK;obtain⟨f0,f1,f2,f3,f4,f5⟩:=hf it (by simp);exact wpAny_pyNext_range_end (I.ok.hd hc) st (by have:n<=i:=hg;omega) fun h' eb=>⟨rfl,I.turned (t':=s.toks) (fun b o hb e=>eb b o hb e) f0 f1 f3 f4 f5⟩
 self:=fun _ _ _ _ _ st h=>wpAny_pyIter_rangeiter st h
section
variable{X:Cx}{tg:Expr}
noncomputable def ztl(K:PySem.W.Frag)(tl:TE):TI:=fun σ H R=>tl σ H fun x H1=>∃a,x=.ref a/\(∃xs,SqL K H1 a xs)/\R (Itl K a) H1
noncomputable def zxK(K:PySem.W.Frag)(tl:TE):TI:=fun σ H R=>tl σ H fun x H1=>∃a,x=.ref a/\(∃xs,SqT K H1 a xs)/\R (Itt K a) H1
def zjM{l:Expr}{tl:TE}(hl:PE X l tl):PI X tg l (ztl X.K tl):=by
 intro pins s σ H R I h;refine thn (hl pins s σ H _ I h) fun v s1 ⟨x,H1,I1,r1,q1⟩=>?_
 obtain⟨a,e,⟨xs,hq⟩,q⟩:=q1;subst e;cases r1;obtain⟨its,rv,p,hz⟩:=I1.list hq;refine ycJ p.isList ?_;refine⟨s1.heap.objs.size,[s1.heap.objs.size],_,_,H1,rfl,I1.kept (t':=s1.toks) fun b o e=>yag _ e,zjh a _,⟨_,yau _ rfl,rfl,rfl⟩,fun b hb=>?_,q⟩
 have e:b=s1.heap.objs.size:=by simpa using hb
 subst e;exact I1.fpOk (yal _) (I1.hok.fresh (yal _))
def zpX{l:Expr}{tl:TE}(hl:PE X l tl):PI X tg l (zxK X.K tl):=by
 intro pins s σ H R I h;refine thn (hl pins s σ H _ I h) fun v s1 ⟨x,H1,I1,r1,q1⟩=>?_
 obtain⟨a,e,⟨xs,hq⟩,q⟩:=q1;subst e;cases r1;obtain⟨its,rv,p,hz⟩:=I1.tuple hq;refine ybZ (show s1.heap.IsTuple a its.toArray from p) ?_;refine⟨s1.heap.objs.size,[s1.heap.objs.size],_,_,H1,rfl,I1.kept (t':=s1.toks) fun b o e=>yag _ e,ziB a _,⟨_,yau _ rfl,rfl,rfl⟩,fun b hb=>?_,q⟩
 have e:b=s1.heap.objs.size:=by simpa using hb
 subst e;exact I1.fpOk (yal _) (I1.hok.fresh (yal _))
theorem zlx{pins:Z3}{σ:St}{H:Hp}{s:Shared}{R:It->Hp->Prop}{E:Z5}{lo hi:Int}{t u v:Tok}{tk:Nat}(I:Inv X pins σ H s)(h1:-(2 ^ 62)<=lo)(h2:lo<2 ^ 62)(h3:-(2 ^ 62)<=hi)(h4:hi<2 ^ 62)
  (q:R (Itr lo (hi-lo).toNat) H):wpAny (model X.prog X.w) X.A (pyIter (.ref s.heap.objs.size)) (PIE X pins σ tg R) E {s with heap:=s.heap.push {cls:=.type "range",data:=.fields #[.int lo t,.int hi u,.int 1 v]},toks:=tk}:=by
 refine wpAny_pyIter_range (IsRange.new ..) (small_one h1 h2 h3 h4) ?_;have I1:Inv X pins σ H {s with heap:=s.heap.push {cls:=.type "range",data:=.fields #[.int lo t,.int hi u,.int 1 v]},toks:=tk}:=I.kept fun b o e=>yag _ e
 refine⟨(s.heap.push {cls:=.type "range",data:=.fields #[.int lo t,.int hi u,.int 1 v]}).objs.size,[(s.heap.push {cls:=.type "range",data:=.fields #[.int lo t,.int hi u,.int 1 v]}).objs.size],_,_,H,rfl,
  I1.kept (t':=tk) fun b o e=>yag _ e,ziC _ lo (hi-lo).toNat,?_,fun b hb=>?_,q⟩
 ·have e1:lo+((0:Nat):Int)*1=lo:=by simp
  have e2:(((hi-lo).toNat:Nat):Int)-((0:Nat):Int)=Builtin.Range.rangeSize lo hi 1:=by rw[rangeSize_one];split<;>omega
  show IsRangeIter _ _ (lo+((0:Nat):Int)*1) ((((hi-lo).toNat:Nat):Int)-((0:Nat):Int)) 1;rw[e1,e2];exact yau _ rfl
 ·have e:b=(s.heap.push {cls:=.type "range",data:=.fields #[.int lo t,.int hi u,.int 1 v]}).objs.size:=by simpa using hb
  subst e;exact I1.fpOk (yal _) (I1.hok.fresh (yal _))
noncomputable def ztk(ta:TA):TI:=fun σ H R=>ta σ H fun vs H1=>∃j:Int,vs=[.int j]/\-(2 ^ 62)<=j/\j<2 ^ 62/\R (Itr 0 j.toNat) H1
theorem zjL{a:Expr}{ta:TA}{p pos:Pos}(hg:Gl X "range")(hm:X.mg "range"=none)(ha:PA X [a] ta)(hs:autoParam (starEach [a] X.env=[(false,eval a X.env)]) yAW):PI X tg (.Call (.Name "range" p) [a] [] pos) (ztk ta):=by
 intro pins s σ H R I h;refine Call_ (zdZ I hg hm boot_range (ya1 (thn (ha pos pins s σ H _ I h) fun us s1 ⟨vs,H1,I1,r1,q1⟩=>?_) hs rfl));obtain⟨j,e,q1,q2,q⟩:=q1;subst e
 cases r1 with
 |cons r rr=>
  cases rr;obtain⟨t,rfl⟩:=r;exact call_range_1 (zlx I1 (by omega) (by omega) q1 q2 (by simpa using q))
noncomputable def zwI(wi:TI)(g:TG)(tb:TS):TS:=fun D σ H=>wi σ H fun J H1=>∃W:Nat->Nat->St->Hp->Prop,(∃m,W 0 m σ H1)/\∀i m σ H,W i m σ H →
 (J.stop i H/\D.nx σ H)\/(J.go i H/\∃N:St->Hp->Prop,(∀σ' H',N σ' H'->∃m',m'<m/\W (i+1) m' σ' H')/\∀x H',J.yld i H x H'->g x σ H' fun σ2 H2=>tb {D with nx:=N,ct:=N,bk:=D.nx} σ2 H2)
noncomputable def zgr(fp:List Addr)(h:Heap):List (Addr×Obj):=fp.filterMap fun b=>(h.get? b).map fun o=>(b,o)
def zcW{fp:List Addr}{h:Heap}{b:Addr}{o:Obj}(hb:b∈fp)(e:h.get? b=some o):(b,o)∈zgr fp h:=yb0.mpr ⟨b,hb,by rw[e];rfl⟩
def zj2{fp:List Addr}{h:Heap}{p:Addr×Obj}(hp:p∈zgr fp h):p.1∈fp/\h.get? p.1=some p.2:=by
 obtain⟨b,hb,e⟩:=yb0.mp hp
 cases q:h.get? b with
 |none=>rw[q]at e;cases e|some o=>
  rw[q]at e;have e':(b,o)=p:=Option.some.inj e;subst e';exact⟨hb,q⟩
def Inv.pinned{pins:Z3}{σ:St}{H:Hp}{s:Shared}{fp:List Addr}(I:Inv X pins σ H s)(hf:∀b∈fp,zk2 X pins H b)(ho:∀b∈fp,∃o,s.heap.get? b=some o/\∀v,o.data≠.cell v):Inv X (pins++zgr fp s.heap) σ H s:=
 I.pins_of fun p hp=>(ybK.mp hp).elim (fun z=>I.pin p (yaF _ z)) fun z=>by
  obtain⟨hb,e⟩:=zj2 z;obtain⟨f0,f1,f2,_⟩:=hf p.1 hb;obtain⟨o,e',d⟩:=ho p.1 hb;rw[e]at e';cases e';exact⟨e,f0,f1,f2,d⟩
def Inv.unpinned{pins pl:Z3}{σ:St}{H:Hp}{s:Shared}(I:Inv X (pins++pl) σ H s):Inv X pins σ H s:=I.pins_of fun p hp=>I.pin p (yaF _ (ycn _ hp))
def zpW{iter:Expr}{body:List Stmt}{wi:TI}{g:TG}{tb:TS}{pos:Pos}(hp:PassesOwn (model X.prog X.w) X.A X.env X.xe)(hc:X.calm=true)(hi:PI X tg iter wi)(hg:PG X tg g)(hb:PSs X body tb)
  (hs:autoParam (∀x,foldedSetIterable iter X.env x=pure x) yAU):PS X (.For tg iter body [] pos) (zwI wi g tb):=by
 intro pins s σ H D I h;refine wpAny_For (thn (hi pins s σ H _ I h) fun v s1 h1=>thn h1 fun itv s2 h2=>?_) hs;obtain⟨it,fp,tn,J,H2,e,I2,T,st2,f2,W,⟨m0,w0⟩,turn⟩:=h2;subst e;have stat:∀{H':Hp},(∀b∈fp,H' b=none)->∀b∈fp,zk2 X pins H' b:=fun hn b hb=>⟨hn b hb,(f2 b hb).2⟩
 refine codeAny_forLoop_any (fun n s'=>∃i σ' H',Inv X pins σ' H' s'/\tn i s'.heap/\(∀b∈fp,H' b=none)/\W i n σ' H') ?_ m0 ⟨0,σ,H2,I2,st2,fun b hb=>(f2 b hb).1,w0⟩;rintro n s3 ⟨i,σ3,H3,I3,st3,fr3,w3⟩
 rcases turn i n σ3 H3 w3 with⟨stop,qn⟩|⟨go,N,hN,step⟩
 ·refine yb1 hp (thn (T.done X rfl rfl rfl hc i pins s3 σ3 H3 X.xe I3 (stat fr3) st3 stop) fun r s4 ⟨hr,I4⟩=>?_);subst hr;exact ycw ⟨σ3,H3,I4,qn⟩
 ·refine yb1 hp (thn (T.item X rfl rfl rfl hc i pins s3 σ3 H3 X.xe I3 (stat fr3) st3 go) fun r s4 ⟨u,hr,h4⟩=>?_);subst hr;refine yb1 hp (thn h4 fun _ s5 ⟨x,H5,I5,r5,y5,st5,fr5⟩=>?_);have I5':=I5.pinned (stat fr5) (T.obj _ _ st5);refine yb1 hp (thn (hg _ s5 σ3 H5 x u _ I5' r5 (step x H5 y5)) fun _ s6 ⟨σ6,H6,I6,q6⟩=>?_);refine yb1 hp (thn (hb _ s6 σ6 H6 _ I6 q6) fun f s7 q7=>?_)
  have again:∀{σ7:St}{H7:Hp},Inv X (pins++zgr fp s5.heap) σ7 H7 s7->N σ7 H7->∃m,m<n/\∃i σ' H',Inv X pins σ' H' s7/\tn i s7.heap/\(∀b∈fp,H' b=none)/\W i m σ' H':=fun {σ7 H7} I7 n7=>by
   obtain⟨m',hm,w7⟩:=hN σ7 H7 n7;refine⟨m',hm,i+1,σ7,H7,I7.unpinned,T.keep _ _ _ st5 fun b hb o e=>(I7.pin (b,o) (yaF _ (yaF _ (zcW hb e)))).1,fun b hb=>?_,w7⟩;obtain⟨o,e,d⟩:=T.obj _ _ st5 b hb;exact(I7.pin (b,o) (yaF _ (yaF _ (zcW hb e)))).2.1
  cases f with
  |next=>obtain⟨σ7,H7,I7,n7⟩:=q7;exact again I7 n7|cont=>obtain⟨σ7,H7,I7,n7⟩:=q7;exact again I7 n7|brk=>obtain⟨σ7,H7,I7,q7⟩:=q7;exact⟨σ7,H7,I7.unpinned,q7⟩|ret v=>obtain⟨x7,σ7,H7,I7,r7,q7⟩:=q7;exact⟨x7,σ7,H7,I7.unpinned,r7,q7⟩
end
noncomputable abbrev R2:=V->V->Hp->VK->Prop
noncomputable def OpR(X:Cx)(f:Value->Value->Sem Value)(r:R2):Prop:=
 ∀(pins:Z3) (s:Shared) (σ:St) (H:Hp) (x y:V) (v u:Value) (Q:VK),Inv X pins σ H s->zbs x v->zbs y u->r x y H Q →
  wpAny (model X.prog X.w) X.A (f v u) (EP X pins σ Q) X.xe s
noncomputable def UnR(X:Cx)(f:Value->Sem Value)(r:V->Hp->VK->Prop):Prop:=
 ∀(pins:Z3) (s:Shared) (σ:St) (H:Hp) (x:V) (v:Value) (Q:VK),Inv X pins σ H s->zbs x v->r x H Q →
  wpAny (model X.prog X.w) X.A (f v) (EP X pins σ Q) X.xe s
noncomputable def zdT(X:Cx)(f:Value)(r:List V->Hp->VK->Prop):Prop:=
 ∀(pins:Z3) (s:Shared) (σ:St) (H:Hp) (xs:List V) (us:List Value) (Q:VK),Inv X pins σ H s->Vals xs us->r xs H Q →
  wpAny (model X.prog X.w) X.A (call f us) (EP X pins σ Q) X.xe s
noncomputable def tOp(r:R2)(ta tb:TE):TE:=fun σ H Q=>ta σ H fun x H1=>tb σ H1 fun y H2=>r x y H2 Q
noncomputable def tUn(r:V->Hp->VK->Prop)(ta:TE):TE:=fun σ H Q=>ta σ H fun x H1=>r x H1 Q
noncomputable def rI(C:Int->Int->Prop)(g:Int->Int->V):R2:=fun x y H Q=>∃i j,x=.int i/\y=.int j/\C i j/\Q (g i j) H
noncomputable def rI0(g:Int->Int->V):R2:=fun x y H Q=>∃i j,x=.int i/\y=.int j/\Q (g i j) H
noncomputable def rU(g:Int->V):V->Hp->VK->Prop:=fun x H Q=>∃i,x=.int i/\Q (g i) H
section
variable{X:Cx}{a b c:Expr}{ta tb tc:TE}{pos:Pos}
def ztC(ha:PE X a ta)(hb:PE X b tb){pins:Z3}{s:Shared}{σ:St}{H:Hp}{R:V->V->Hp->Prop}(I:Inv X pins σ H s)
  (h:ta σ H fun x H1=>tb σ H1 fun y H2=>R x y H2) {Q:Z5}{f:Value->Value->Sem Value}
  (hf:∀v u s2 x y H2,Inv X pins σ H2 s2->zbs x v->zbs y u->R x y H2->wpAny (model X.prog X.w) X.A (f v u) Q X.xe s2):
  wpAny (model X.prog X.w) X.A (eval a X.env) (fun v s₁=>wpAny (model X.prog X.w) X.A (eval b X.env) (fun u s₂=>wpAny (model X.prog X.w) X.A (f v u) Q X.xe s₂) X.xe s₁) X.xe s:=by
 refine thn (ha pins s σ H _ I h) fun v s1 ⟨x,H1,I1,r1,q1⟩=>?_
 refine thn (hb pins s1 σ H1 _ I1 q1) fun u s2 ⟨y,H2,I2,r2,q2⟩=>?_
 exact hf v u s2 x y H2 I2 r1 r2 q2
def zsJ{op:Operator}{r:R2}(ho:OpR X (binaryOp op) r)(ha:PE X a ta)(hb:PE X b tb):PE X (.BinOp a op b pos) (tOp r ta tb):=by
 intro pins s σ H Q I h;exact wpAny_BinOp (ztC ha hb I h fun v u s2 x y H2 I2 rx ry q=>ho pins s2 σ H2 x y v u Q I2 rx ry q)
def zsH{op:UnaryOp}{r:V->Hp->VK->Prop}(ho:UnR X (unaryOp op) r)(ha:PE X a ta):PE X (.UnaryOp op a pos) (tUn r ta):=by
 intro pins s σ H Q I h;exact UnaryOp_ (thn (ha pins s σ H _ I h) fun v s1 ⟨x,H1,I1,r1,q1⟩=>ho pins s1 σ H1 x v Q I1 r1 q1)
def opI{f:Value->Value->Sem Value}{C:Int->Int->Prop}{g:Int->Int->Int}
  (rule:∀(i j:Int) (t u:Tok) (s:Shared) (Q:Z5) (E:Z5),C i j->Q (.int (g i j) s.toks) {s with toks:=s.toks+1}->wpAny (model X.prog X.w) X.A (f (.int i t) (.int j u)) Q E s):
  OpR X f (rI C fun i j=>.int (g i j)):=by
 intro pins s σ H x y v u Q I rx ry h;obtain⟨i,j,rfl,rfl,hc,q⟩:=h;obtain⟨t,rfl⟩:=rx;obtain⟨t',rfl⟩:=ry;exact rule i j t t' s _ _ hc ⟨.int (g i j),H,I.tok _,⟨_,rfl⟩,q⟩
def zuJ{f:Value->Value->Sem Value}{g:Int->Int->Int}
  (rule:∀(i j:Int) (t u:Tok) (s:Shared) (Q:Z5) (E:Z5),Q (.int (g i j) s.toks) {s with toks:=s.toks+1}->wpAny (model X.prog X.w) X.A (f (.int i t) (.int j u)) Q E s):
  OpR X f (rI0 fun i j=>.int (g i j)):=by
 intro pins s σ H x y v u Q I rx ry h;obtain⟨i,j,rfl,rfl,q⟩:=h;obtain⟨t,rfl⟩:=rx;obtain⟨t',rfl⟩:=ry;exact rule i j t t' s _ _ ⟨.int (g i j),H,I.tok _,⟨_,rfl⟩,q⟩
def zrI{f:Value->Value->Sem Value}{g:Int->Int->Bool}
  (rule:∀(i j:Int) (t u:Tok) (s:Shared) (Q:Z5) (E:Z5),Q (.bool (g i j)) s->wpAny (model X.prog X.w) X.A (f (.int i t) (.int j u)) Q E s):
  OpR X f (rI0 fun i j=>.bl (g i j)):=by
 intro pins s σ H x y v u Q I rx ry h;obtain⟨i,j,rfl,rfl,q⟩:=h;obtain⟨t,rfl⟩:=rx;obtain⟨t',rfl⟩:=ry;exact rule i j t t' s _ _ ⟨.bl (g i j),H,I,rfl,q⟩
noncomputable def zx4(i j:Int):Prop:=0<j/\j<1073741824
noncomputable def ztJ(i j:Int):Prop:=(-(2 ^ 64)<i/\i<2 ^ 64)\/(-(2 ^ 64)<j/\j<2 ^ 64)
def ztJ.ok{i j:Int}(h:ztJ i j):IntMulOk i j:=by
 rcases h with⟨h1,h2⟩|⟨h1,h2⟩
 ·exact .of_left (intBits_le_64 h1 h2)
 ·exact .of_right (intBits_le_64 h1 h2)
def zqf:OpR X (binaryOp .Add) (rI0 fun i j=>.int (i+j)):=zuJ fun _ _ _ _ _ _ _ q=>add_int q
def zp9:OpR X (binaryOp .Sub) (rI0 fun i j=>.int (i-j)):=zuJ fun _ _ _ _ _ _ _ q=>sub_int q
def zqb:OpR X (binaryOp .Mult) (rI ztJ fun i j=>.int (i*j)):=opI fun _ _ _ _ _ _ _ hc q=>mul_int q hc.ok
theorem zn2:OpR X (binaryOp .FloorDiv) (rI zx4 fun i j=>.int (i / j)):=opI fun i j _ _ _ _ _ hc q=>by
 have h1:(0:Int)<j:=hc.1;have h2:j<1073741824:=hc.2;exact floordiv_int (by omega) (by rw[Int.fdiv_eq_ediv_of_nonneg i (by omega)];exact q) (.inl (PyProof.noPylong_small (by omega)))
theorem zqc:OpR X (binaryOp .Mod) (rI (fun _ j=>0<j) fun i j=>.int (i % j)):=opI fun i j _ _ _ _ _ hc q=>by
 have h1:(0:Int)<j:=hc;exact mod_int' (by omega) (by rw[Int.fmod_eq_emod_of_nonneg i (by omega)];exact q)
def unI{f:Value->Sem Value}{g:Int->Int}
  (rule:∀(i:Int) (t:Tok) (s:Shared) (Q:Z5) (E:Z5),Q (.int (g i) s.toks) {s with toks:=s.toks+1}->wpAny (model X.prog X.w) X.A (f (.int i t)) Q E s):
  UnR X f (rU fun i=>.int (g i)):=by
 intro pins s σ H x v Q I rx h;obtain⟨i,rfl,q⟩:=h;obtain⟨t,rfl⟩:=rx;exact rule i t s _ _ ⟨.int (g i),H,I.tok _,⟨_,rfl⟩,q⟩
def zo1:UnR X (unaryOp .USub) (rU fun i=>.int (-i)):=unI fun _ _ _ _ _ q=>neg_int q
end
section
variable{X:Cx}{a b c:Expr}{ta tb tc:TE}{pos:Pos}
def zq1{pins:Z3}{σ:St}{H:Hp}{s:Shared}{Q:VK}{k k':Bool}(I:Inv X pins σ H s)(q:Q (.bl k) H)(e:k=k'):EP X pins σ Q (.bool k') s:=by
 subst e;exact⟨.bl k,H,I,rfl,q⟩
def zsK:OpR X (compareOp .Lt) (rI0 fun i j=>.bl (decide (i<j))):=zrI fun _ _ _ _ _ _ _ q=>lt_int q
def zsL:OpR X (compareOp .LtE) (rI0 fun i j=>.bl (decide (i<=j))):=zrI fun _ _ _ _ _ _ _ q=>le_int q
def zsM:OpR X (compareOp .Gt) (rI0 fun i j=>.bl (decide (j<i))):=zrI fun _ _ _ _ _ _ _ q=>gt_int q
def zsN:OpR X (compareOp .GtE) (rI0 fun i j=>.bl (decide (j<=i))):=zrI fun _ _ _ _ _ _ _ q=>ge_int q
def zqd:OpR X (compareOp .Is) (fun x y H Q=>y=.non/\Q (.bl (decide (x=.non))) H):=by
 intro pins s σ H x y v u Q I rx ry h;obtain⟨rfl,q⟩:=h;cases ry;refine is_none_gen (zq1 I q ?_)
 cases x<;>first
  |(cases rx;rfl)
  |(obtain⟨t,rfl⟩:=rx;rfl)
def zjT{op:CmpOp}{r:R2}(ho:OpR X (compareOp op) r)(ha:PE X a ta)(hb:PE X b tb)(hm:behindInMarks op b=false):PE X (.Compare a [op] [b] pos) (tOp r ta tb):=by
 intro pins s σ H Q I h;exact wpAny_Compare1 (ztC ha hb I h fun v u s2 x y H2 I2 rx ry q=>ho pins s2 σ H2 x y v u Q I2 rx ry q) hm
noncomputable def zni(t:TE):TT:=fun σ H Q=>t σ H fun x H'=>∃k,x=.bl k/\Q k H'
def zjG{op:CmpOp}{r:R2}(ho:OpR X (compareOp op) r)(ha:PE X a ta)(hb:PE X b tb)(hm:behindInMarks op b=false):PT X (.Compare a [op] [b] pos) (zni (tOp r ta tb)):=by
 intro pins s σ H Q I h
 refine wpAny_isTrue_Compare1 (thn (ha pins s σ H _ I h) fun v s1 ⟨x,H1,I1,r1,q1⟩=>thn (hb pins s1 σ H1 _ I1 q1) fun u s2 ⟨y,H2,I2,r2,q2⟩=>
  thn (ho pins s2 σ H2 x y v u _ I2 r1 r2 q2) fun c s3 ⟨z,H3,I3,r3,k,e,q3⟩=>?_) hm
 subst e;cases r3;exact ybf ⟨H3,I3,q3⟩
noncomputable def zjr(r r':R2)(ta tb tc:TE):TE:=fun σ H Q=>ta σ H fun x H1=>tb σ H1 fun y H2=>r x y H2 fun z H3=>∃k,z=.bl k ∧
 (if k=true then tc σ H3 fun w' H4=>r' y w' H4 Q else Q (.bl false) H3)
def zlK{op op':CmpOp}{r r':R2}(ho:OpR X (compareOp op) r)(ho':OpR X (compareOp op') r')(ha:PE X a ta)(hb:PE X b tb)(hc:PE X c tc)
  (hm:autoParam (lastMarks [op,op'] [b,c]=false) yAO):PE X (.Compare a [op,op'] [b,c] pos) (zjr r r' ta tb tc):=by
 intro pins s σ H Q I h
 refine Compare_chain (thn (ha pins s σ H _ I h) fun v s1 ⟨x,H1,I1,r1,q1⟩=>chain_link (thn (hb pins s1 σ H1 _ I1 q1) fun u s2 ⟨y,H2,I2,r2,q2⟩=>
  thn (ho pins s2 σ H2 x y v u _ I2 r1 r2 q2) fun d s3 ⟨z,H3,I3,r3,k,e,q3⟩=>?_)) hm
 subst e;cases r3;refine ybf ?_
 cases k with
 |false=>exact ite_ff ⟨.bl false,H3,I3,rfl,q3⟩|true=>exact ite_tt (chain_last (thn (hc pins s3 σ H3 _ I3 q3) fun w' s4 ⟨z',H4,I4,r4,q4⟩=>ho' pins s4 σ H4 y z' u w' Q I4 r2 r4 q4))
def zlz{op op':CmpOp}{r r':R2}(ho:OpR X (compareOp op) r)(ho':OpR X (compareOp op') r')(ha:PE X a ta)(hb:PE X b tb)(hc:PE X c tc)
  (hm:autoParam (lastMarks [op,op'] [b,c]=false) yAO):PT X (.Compare a [op,op'] [b,c] pos) (zni (zjr r r' ta tb tc)):=by
 intro pins s σ H Q I h
 refine isTrue_chain (thn (ha pins s σ H _ I h) fun v s1 ⟨x,H1,I1,r1,q1⟩=>test_link (thn (hb pins s1 σ H1 _ I1 q1) fun u s2 ⟨y,H2,I2,r2,q2⟩=>
  thn (ho pins s2 σ H2 x y v u _ I2 r1 r2 q2) fun d s3 ⟨z,H3,I3,r3,k,e,q3⟩=>?_)) hm
 subst e;cases r3;refine ybf ?_
 cases k with
 |false=>
  obtain⟨k',e',q'⟩:=q3;cases e';exact ite_ff ⟨H3,I3,q'⟩
 |true=>
  refine ite_tt (test_last (thn (hc pins s3 σ H3 _ I3 q3) fun w' s4 ⟨z',H4,I4,r4,q4⟩=>thn (ho' pins s4 σ H4 y z' u w' _ I4 r2 r4 q4) fun d' s5 ⟨z2,H5,I5,r5,k2,e2,q5⟩=>?_));subst e2;cases r5;exact ybf ⟨H5,I5,q5⟩
def zgx:(sizeLine:Nat)<2 ^ 63:=by rw[sizeLine_eq];decide
def ziO:OpR X (binaryOp .Add) (fun x y H Q=>∃i j,x=.str i/\y=.str j/\i.length+j.length<=sizeLine/\Q (.str (i++j)) H):=by
 intro pins s σ H x y v u Q I rx ry h;obtain⟨i,j,rfl,rfl,hz,q⟩:=h;obtain⟨t,rfl⟩:=rx;obtain⟨t',rfl⟩:=ry;exact add_str (fun t' tk=>⟨.str (i++j),H,I.tok _,⟨_,rfl⟩,q⟩) hz
def ziz{x:V}{us:List Value}(r:Vals [x] us):∃u,us=[u]/\zbs x u:=by
 cases r with
 |cons r1 r2=>cases r2;exact⟨_,rfl,r1⟩
end
structure ObjM(h:Heap)(x dx C:Addr)(mA:Z6):Prop where
 obj:h.get? x=some (PySem.W.instObj C dx)
 ns:h.Ns1 dx mA
 ne:dx≠x
def zke{h:Heap}{dx:Addr}{mA:Z6}(n:h.Ns1 dx mA):∃od,h.get? dx=some od/\∀name,PySem.W.lookIn name od=some (mA name):=by
 obtain⟨o,es,ep,ho,hd,hk,_,hm⟩:=n;refine⟨o,ho,fun name=>?_⟩;have e:=hm name;unfold nsFind findBy at e;rw[<-Array.find?_toList]at e;unfold PySem.W.lookIn;rw[hd];dsimp only;split
 ·rename_i y q;rw[q]at e;exact congrArg some e
 ·rename_i q;rw[q]at e
  have a:es.toList.any (·.refKey)=false:=by
   rw[List.any_eq_false];intro y hy;obtain⟨z,t,hkey⟩:=hk y (Array.mem_toList_iff.mp hy);simp[DictEntry.refKey,hkey]
  have a':¬ es.toList.any (·.refKey)=true:=by rw[a];exact ya5
  rw[if_neg a'];exact congrArg some e
def ObjM.look{h:Heap}{x dx C:Addr}{mA:Z6}(I:ObjM h x dx C mA):∃od,PySem.W.InstAt h x (PySem.W.instObj C dx) C (some od)/\∀name,PySem.W.lookIn name od=some (mA name):=
 let ⟨od,ho,hl⟩:=zke I.ns
 ⟨od,⟨I.obj,rfl,rfl,ho⟩,hl⟩
section
variable{prog:Program}{w:World}{A:Around}{E:Z5}{s:Shared}{K:PySem.W.Frag}{x dx C f:Addr}{mA:Z6}{name:Str}{v:Value}
def zoD{expr:Bool}{Q:Z5}(X:K.In s.heap)(I:ObjM s.heap x dx C mA)(hg:PySem.W.plainGet K C name=true)(hh:PySem.W.hasDictIn K C=true)
  (ha:PySem.W.findIn K (.ref C) name=some none) (hv:mA name=some v) (hv':PySem.W.handedIn v=true) (h:Q v {s with toks:=s.toks+1}):
  wpAny (model prog w) A (getAttr (.ref x) name expr) Q E s:=by
 obtain⟨od,J,hl⟩:=I.look;exact PySem.W.get_value X J (ycx hg).1 (PySem.W.findObj_own hh ha rfl (by rw[hl,hv])) hv' h
def zmb{pl:Sem Bool}{Q:Value×List Value->Shared->Prop}(X:K.In s.heap)(I:ObjM s.heap x dx C mA)(hg:PySem.W.plainGet K C name=true)
  (hf:PySem.W.findIn K (.ref C) name=some (some (.ref f))) (ht:PySem.W.isFn K (.ref f)=true) (hv:mA name=none) (h:Q (.ref f,[.ref x]) s):
  wpAny (model prog w) A (getMethod (.ref x) name pl) Q E s:=by
 obtain⟨od,J,hl⟩:=I.look;exact PySem.W.method_fn X J (ycx hg).1 (ycx hg).2 hf (ybQ.mp ht) (by show(PySem.W.lookIn name od).map (·.isSome)=some false;rw[hl,hv];rfl) h
theorem znA{ns:List Str}{Q:Unit->Shared->Prop}(X:K.In s.heap)(I:ObjM s.heap x dx C mA)
  (hs:PySem.W.findIn K (.ref C) "__setattr__"=some (some (.builtin "object.__setattr__"))) (hp:PySem.W.plainOver K C=true) (ht:PySem.W.takerIn K C name=some none) (hh:PySem.W.hasDictIn K C=true)
  (hw:PySem.Within mA ns) (hsz:ns.length<=sizeLine)
  (h:∀h',ObjM h' x dx C (fun y=>if y=name then some v else mA y)->Heap.SameBut dx s.heap h'->Q () {s with heap:=h',toks:=s.toks+2}):
  wpAny (model prog w) A (setAttr (.ref x) name v) Q E s:=by
 obtain⟨od,J,hl⟩:=I.look;refine PySem.W.set_plain X J hs (PySem.W.osa_open (s:={s with toks:=s.toks+1}) (r:=none) X J hp ht fun b=>?_);obtain⟨cd,hc,hd'⟩:=PySem.W.any_some hh;have hx:s.heap.get? x=some ⟨.ref C,some dx,.plain,#[]⟩:=I.obj;refine yaa (yah (yaa (yaa (wpAny_loadPart hx (yaa (PySem.W.Looks.here (s:={s with toks:=s.toks+1}) (PySem.W.looks_clsIn X hc) ?_))))));rw[hd'];refine yah (a:=some dx) (yaa (yah (yaa ?_)));refine wpAny_nsSet1 (s:={s with toks:=s.toks+1}) I.ns fun h' hn2 hs2=>?_
 obtain⟨oD,esD,epD,hoD,hdD,hcD⟩:=hn2.count (PySem.Within.cons name v hw);refine yaa (wpAny_lookBehind hoD (by rw[hdD];exact pastItsLine_dict (yan hcD (by rw[yae];omega))) ?_);exact yah (h _ ⟨(hs2.2 _ (Ne.symm I.ne)).trans I.obj,hn2,I.ne⟩ hs2)
def zlT{R:Result->Shared->Prop}{vs:List Value}{kw:List (Str×Value)}(X:K.In s.heap)(hm:PySem.W.makesIn K C=true)
  (hi:PySem.W.findIn K (.ref C) "__init__"=some (some (.ref f))) (hf:PySem.W.typeIn K (.ref f)=some (.type "function"))
  (h:codeAny (model prog w) (A.under (.builtin "type.__call__" ⟨.ref C::vs,kw⟩)) (.call (.ref f) ⟨.ref (s.heap.objs.size+1)::vs,kw⟩) (PySem.W.InitBack (s.heap.objs.size+1) R)
   {s with heap:=(s.heap.push PySem.W.emptyDict).push (PySem.W.instObj C s.heap.objs.size)}):
  codeAny (model prog w) A (.call (.ref C) ⟨vs,kw⟩) R s:=by
 obtain⟨hh,g,d,t,os⟩:=s;exact PySem.W.make_core (PySem.W.makes_of X hm) (PySem.W.looks_findIn X hi) (fun self=>PySem.W.bind_fn X self hf) (.inl rfl) h
end
noncomputable def zc8(f:Str)(v:V):List (Str×V)->List (Str×V)
 |[]=>[(f,v)]|(g,x)::r=>if g=f then(g,v)::r else(g,x)::zc8 f v r
theorem zez(f g:Str)(v:V):∀fs:List (Str×V),(zc8 f v fs).lookup g=if g=f then some v else fs.lookup g
 |[]=>by
  show List.lookup g [(f,v)]=_
  by_cases h:g=f
  ·have hb:(g==f)=true:=ybQ.mpr h;simp only[List.lookup,hb,if_pos h]
  ·have hb:(g==f)=false:=yaY.mpr h;simp only[List.lookup,hb,if_neg h]
 |(k,x)::r=>by
  have ih:=zez f g v r;rw[show zc8 f v ((k,x)::r)=(if k=f then(k,v)::r else(k,x)::zc8 f v r)from rfl]
  by_cases hk:k=f
  ·rw[if_pos hk]
   by_cases h:g=k
   ·have hb:(g==k)=true:=ybQ.mpr h;simp only[List.lookup,hb,if_pos (h.trans hk)]
   ·have hb:(g==k)=false:=yaY.mpr h;simp only[List.lookup,hb,if_neg (fun e:g=f=>h (e.trans hk.symm))]
  ·rw[if_neg hk]
   by_cases h:g=k
   ·have hb:(g==k)=true:=ybQ.mpr h;simp only[List.lookup,hb,if_neg (fun e:g=f=>hk (h.symm.trans e))]
   ·have hb:(g==k)=false:=yaY.mpr h;simp only[List.lookup,hb];exact ih
theorem zeB(f:Str)(v:V):∀fs:List (Str×V),f∈(zc8 f v fs).map (·.1)/\∀g,g∈fs.map (·.1)->g∈(zc8 f v fs).map (·.1)
 |[]=>⟨by simp[zc8],fun g h=>by simp at h⟩
 |(k,x)::r=>by
  obtain⟨i1,i2⟩:=zeB f v r;rw[show zc8 f v ((k,x)::r)=(if k=f then(k,v)::r else(k,x)::zc8 f v r)from rfl]
  by_cases hk:k=f
  ·rw[if_pos hk];subst hk;exact⟨by simp,fun g h=>by simpa using h⟩
  ·rw[if_neg hk];refine⟨?_,fun g h=>?_⟩
   ·rw[yaA];exact yas _ i1
   ·rw[yaA]at h ⊢
    rcases yav.mp h with e|e
    ·exact yav.mpr (.inl e)
    ·exact yas _ (i2 g e)
theorem zeA(f:Str)(v:V):∀fs:List (Str×V),(zc8 f v fs).length<=fs.length+1
 |[]=>by simp[zc8]
 |(k,x)::r=>by
  have ih:=zeA f v r;rw[show zc8 f v ((k,x)::r)=(if k=f then(k,v)::r else(k,x)::zc8 f v r)from rfl]
  by_cases hk:k=f
  ·rw[if_pos hk,yae,yae];omega
  ·rw[if_neg hk,yae,yae];omega
def zk7.some_of{v:V}{o:Option Value}(r:zk7 (some v) o):∃u,o=some u/\zbs v u:=by
 cases o with
 |none=>exact(show False from r).elim|some u=>exact⟨u,rfl,r⟩
def zk7.none_of{o:Option Value}(r:zk7 none o):o=none:=by
 cases o with
 |none=>rfl|some u=>exact(show False from r).elim
def zkw{v:V}{u:Value}(r:zbs v u):PySem.W.handedIn u=true:=by
 cases v with
 |non=>cases (show u=Value.none from r);rfl|bl b=>cases (show u=Value.bool b from r);rfl|int i=>obtain⟨t,e⟩:=(show ∃t,u=Value.int i t from r);cases e;rfl|str x=>obtain⟨t,e⟩:=(show ∃t,u=Value.str x t from r);cases e;rfl|byt b=>obtain⟨t,e⟩:=(show ∃t,u=Value.bytes b t from r);cases e;rfl|flt b=>obtain⟨t,e⟩:=(show ∃t,u=Value.float b t from r);cases e;rfl|ref a=>cases (show u=Value.ref a from r);rfl|ty n=>cases (show u=Value.type n from r);rfl
section
variable{P:Program}{w:World}{H H':Hp}{h h':Heap}{a C dx:Addr}{fs fs':List (Str×V)}
def zfJ(hok:HOk P w H h)(e:H a=some (.ins C dx fs)):∃mA,ObjM h a dx C mA/\(∀f,zk7 (fs.lookup f) (mA f))/\PySem.Within mA (fs.map (·.1))/\fs.length<=1000/\H dx=some (.own a):=by
 obtain⟨d,z,ne,ob,mA,n,r,q⟩:=(show zbx P w H h a (.ins C dx fs)from hok a _ e);exact⟨mA,⟨ob,n,ne⟩,r,q,z,d⟩
end
structure Cls(K:PySem.W.Frag)(C:Addr):Prop where
 pg:PySem.W.plainGet K C Str.empty=true
 hd:PySem.W.hasDictIn K C=true
 po:PySem.W.plainOver K C=true
 sa:PySem.W.findIn K (.ref C) "__setattr__"=some (some (.builtin "object.__setattr__"))
def Cls.get{K:PySem.W.Frag}{C:Addr}(c:Cls K C)(f:Str):PySem.W.plainGet K C f=true:=c.pg
noncomputable def zc6(K:PySem.W.Frag)(C:Addr)(f:Str):Prop:=PySem.W.findIn K (.ref C) f=some none
def zc6.taker{K:PySem.W.Frag}{C:Addr}{f:Str}(n:zc6 K C f):PySem.W.takerIn K C f=some none:=by
 unfold PySem.W.takerIn;rw[show PySem.W.findIn K (.ref C) f=some none from n];rfl
structure Meth(K:PySem.W.Frag)(C:Addr)(m:Str)(f:Addr):Prop where
 at_:PySem.W.findIn K (.ref C) m=some (some (.ref f))
 fn:PySem.W.isFn K (.ref f)=true
 kp:PySem.W.keepIn K (.ref f)=true
section
variable{X:Cx}{pins:Z3}{σ:St}{H:Hp}{s:Shared}{a C dx:Addr}{fs:List (Str×V)}{f:Str}{v:V}{A:Around}{E:Z5}
def ziZ{b:Bool}{Q:Z5}(I:Inv X pins σ H s)(e:H a=some (.ins C dx fs))(c:Cls X.K C)(n:zc6 X.K C f)(l:fs.lookup f=some v)
  (h:∀u s',Inv X pins σ H s'->zbs v u->Q u s'):wpAny (model X.prog X.w) A (getAttr (.ref a) f b) Q E s:=by
 obtain⟨mA,O,r,_,_,_⟩:=zfJ I.hok e;obtain⟨u,hu,ru⟩:=zk7.some_of (v:=v) (o:=mA f) (by rw[<-l];exact r f);exact zoD I.kIn O (c.get f) c.hd n hu (zkw ru) (h u _ (I.tok _) ru)
def zfh{m:Str}{g:Addr}{pl:Sem Bool}{Q:Value×List Value->Shared->Prop}(I:Inv X pins σ H s)(e:H a=some (.ins C dx fs))(c:Cls X.K C)(k:Meth X.K C m g)(l:fs.lookup m=none)
  (h:Q (.ref g,[.ref a]) s):wpAny (model X.prog X.w) A (getMethod (.ref a) m pl) Q E s:=by
 obtain⟨mA,O,r,_,_,_⟩:=zfJ I.hok e;have hn:mA m=none:=zk7.none_of (by rw[<-l];exact r m);exact zmb I.kIn O (c.get m) k.at_ k.fn hn h
def ziG{y:V}{u:Value}{Q:Unit->Shared->Prop}(I:Inv X pins σ H s)(e:H a=some (.ins C dx fs))(c:Cls X.K C)(n:zc6 X.K C f)(hl:fs.length<1000)(ry:zbs y u)
  (h:∀s',Inv X pins σ (upd H a (.ins C dx (zc8 f y fs))) s'->Q () s'):wpAny (model X.prog X.w) A (setAttr (.ref a) f u) Q E s:=by
 obtain⟨mA,O,r,wi,_,ho⟩:=zfJ I.hok e
 have hz:(fs.map (·.1)).length<=sizeLine:=by rw[yaf,sizeLine_eq];omega
 refine znA I.kIn O c.sa c.po n.taker c.hd wi hz fun h' O' sb=>h _ ?_
 have hd:∃o,h'.get? dx=some o:=let ⟨o,_,_,e',_⟩:=O'.ns;⟨o,e'⟩
 refine I.write (x:=a) (e:=dx) (by rw[e];exact True.intro) (.inr ho) (fun b q hb z=>(sb.2 b hb).trans z) hd ?_;refine⟨by rw[zah O.ne];exact ho,?_,O.ne,O'.obj,_,O'.ns,fun g=>?_,fun g hg=>?_⟩
 ·have:=zeA f y fs;omega
 ·show zk7 ((zc8 f y fs).lookup g) (if g=f then some u else mA g);rw[zez]
  by_cases q:g=f
  ·rw[if_pos q,if_pos q];exact ry
  ·rw[if_neg q,if_neg q];exact r g
 ·by_cases q:g=f
  ·rw[q];exact(zeB f y fs).1
  ·refine(zeB f y fs).2 g (wi g fun z=>hg ?_);show(if g=f then some u else mA g)=none;rw[if_neg q];exact z
def Inv.made(I:Inv X pins σ H s):Inv X pins σ (upd (upd H s.heap.objs.size (.own (s.heap.objs.size+1))) (s.heap.objs.size+1) (.ins C s.heap.objs.size []))
  {s with heap:=(s.heap.push PySem.W.emptyDict).push (PySem.W.instObj C s.heap.objs.size)}:=by
 have e1:(s.heap.push PySem.W.emptyDict).get? s.heap.objs.size=some PySem.W.emptyDict:=yau s.heap rfl
 have e2:((s.heap.push PySem.W.emptyDict).push (PySem.W.instObj C s.heap.objs.size)).get? (s.heap.objs.size+1)=some (PySem.W.instObj C s.heap.objs.size):=by
  have:=yau (s.heap.push PySem.W.emptyDict) (o:=PySem.W.instObj C s.heap.objs.size) rfl
  rwa[ya6]at this
 have e3:(s.heap.push PySem.W.emptyDict).Ns s.heap.objs.size (fun _=>none):=⟨PySem.W.emptyDict,#[],_,e1,rfl,(fun e he=>absurd he (by simp)),fun _=>rfl⟩;have I1:=I.laid (a:=s.heap.objs.size) (o:=.own (s.heap.objs.size+1)) (h':=s.heap.push PySem.W.emptyDict) (t':=s.toks) (fun b u q=>yag _ q) (yal _) ⟨_,e1⟩;refine I1.laid (a:=s.heap.objs.size+1) (o:=.ins C s.heap.objs.size []) (t':=s.toks) (fun b u q=>yag _ q) (Nat.le_of_eq (ya6 _ _)) ?_;have ne:s.heap.objs.size≠s.heap.objs.size+1:=yaD (ybW _);refine⟨by rw[zah ne,zau],ybh _,ne,e2,fun _=>none,(Heap.Ns1.of_empty e3).at fun o q=>yag _ q,fun _=>True.intro,fun y hy=>absurd rfl hy⟩
def zoN{prog:Program}{w:World}{env:Env}{e:Expr}{f:Str}{pos:Pos}{s:Shared}{Q:Z5}(hb:attributeBase e f env (eval e env)=eval e env)
  (h:wpAny (model prog w) A (eval e env) (fun o s₁=>wpAny (model prog w) A (getAttr o f true) Q E s₁) E s):wpAny (model prog w) A (eval (.Attribute e f pos) env) Q E s:=
 Attribute_any_ h (by rw[arm_eval_Attribute,hb])
end
noncomputable def zuG(K:PySem.W.Frag)(ta:TE)(f:Str):TE:=fun σ H Q=>ta σ H fun x H1=>∃a C dx fs v,x=.ref a/\H1 a=some (.ins C dx fs)/\Cls K C/\zc6 K C f/\fs.lookup f=some v/\Q v H1
noncomputable def zwM(K:PySem.W.Frag)(ta tv:TE)(f:Str):TS:=fun D σ H=>tv σ H fun y H1=>ta σ H1 fun x H2=>∃a C dx fs,x=.ref a/\H2 a=some (.ins C dx fs)/\Cls K C/\zc6 K C f/\fs.length<1000 ∧
 D.nx σ (upd H2 a (.ins C dx (zc8 f y fs)))
section
variable{X:Cx}{o e value:Expr}{f:Str}{pos pos' tpos:Pos}{ta tv:TE}
def zgs(he:PE X e ta)(hb:attributeBase e f X.env (eval e X.env)=eval e X.env):PE X (.Attribute e f pos) (zuG X.K ta f):=by
 intro pins s σ H Q I h;refine zoN hb (thn (he pins s σ H _ I h) fun u s1 ⟨x,H1,I1,rx,a,C,dx,fs,v,ex,ea,c,n,l,q⟩=>?_);subst ex;obtain rfl:u=Value.ref a:=rx;exact ziZ I1 ea c n l fun u' s2 I2 ru=>⟨v,H1,I2,ru,q⟩
def zmK(ha:PE X o ta)(hv:PE X value tv)(hs:swapsWith value (some (.Attribute o f pos')) pos.line X.env=pure false):PS X (.Assign [.Attribute o f pos'] value pos) (zwM X.K ta tv f):=by
 intro pins s σ H D I h;refine plainObj_wpAny_Assign_Attribute (thn (hv pins s σ H _ I h) fun u s1 ⟨y,H1,I1,ry,q⟩=>thn (ha pins s1 σ H1 _ I1 q) fun ov s2 ⟨x,H2,I2,rx,a,C,dx,fs,ex,ea,c,n,l,q2⟩=>?_) hs;subst ex;obtain rfl:ov=Value.ref a:=rx;exact ziG I2 ea c n l ry fun s3 I3=>⟨σ,_,I3,q2⟩
end
section
variable{X:Cx}{pins:Z3}{σ:St}{H:Hp}{s:Shared}{A:Around}{E:Z5}{Q:Z5}{c:Value}{b:Bool}
inductive TyOf(K:PySem.W.Frag)(H:Hp):V->Value->Prop where
 |non:TyOf K H .non (.type "NoneType")
 |bl (x:Bool):TyOf K H (.bl x) (.type "bool")
 |int (i:Int):TyOf K H (.int i) (.type "int")
 |str (x:Str):TyOf K H (.str x) (.type "str")
 |flt (x:UInt64):TyOf K H (.flt x) (.type "float")
 |lst {a:Addr}{xs:List V} (e:H a=some (.lst xs)):TyOf K H (.ref a) (.type "list")
 |frz {a:Addr}{o:Obj}{xs:List V} (e:H a=some (.frz o (.lst xs))):TyOf K H (.ref a) (.type "list")
 |tup {a:Addr}{xs:List V} (e:H a=some (.tup xs)):TyOf K H (.ref a) (.type "tuple")
 |dK {a:Addr}{kvs:List (Key×V)} (e:H a=some (.dK kvs)):TyOf K H (.ref a) (.type "dict")
 |dT {a:Addr}{kvs:List (List Key×V)} (e:H a=some (.dT kvs)):TyOf K H (.ref a) (.type "dict")
 |ins {a C dx:Addr}{fs:List (Str×V)} (e:H a=some (.ins C dx fs)) (cl:Cls K C) (ha:PySem.W.findIn K (.ref C) "__class__"=some (some (.builtin "object.__class__")))
   (hn:PySem.W.specialIn K (.builtin "object.__class__") "__get__"=some (some (.builtin "getset_descriptor.__get__"))) (htk:PySem.W.takesIn K (.builtin "object.__class__")=some true)
   (hm:PySem.W.mroIn K C (.type "object")=some true):TyOf K H (.ref a) (.ref C)
def zko{x:V}{u t:Value}(I:Inv X pins σ H s)(rx:zbs x u)(ty:TyOf X.K H x t)(e:PySem.W.kitOne X.K t c=some b)(h:∀tk,Q (.bool b) {s with toks:=tk}):
  wpAny (model X.prog X.w) A (call (.builtin "isinstance") [u,c]) Q E s:=by
 cases ty with
 |non=>cases (show u=Value.none from rx);exact ya2 PySem.W.kitx_none I.kIn True.intro e (fun z=>nomatch z) h|bl y=>cases (show u=Value.bool y from rx);exact ya2 PySem.W.kitx_bool I.kIn True.intro e (fun z=>nomatch z) h|int i=>obtain⟨t,q⟩:=(show ∃t,u=Value.int i t from rx);cases q;exact ya2 PySem.W.kitx_int I.kIn True.intro e (fun z=>nomatch z) h|str y=>obtain⟨t,q⟩:=(show ∃t,u=Value.str y t from rx);cases q;exact ya2 PySem.W.kitx_str I.kIn True.intro e (fun z=>nomatch z) h|flt y=>obtain⟨t,q⟩:=(show ∃t,u=Value.float y t from rx);cases q;exact ya2 PySem.W.kitx_float I.kIn True.intro e (fun z=>nomatch z) h| @lst a xs ea=>
  cases (show u=Value.ref a from rx);obtain⟨_,_,n,_,h1⟩:=(show zbx X.prog X.w H s.heap a (.lst xs)from I.hok a _ ea);exact ya2 PySem.W.kitx_list I.kIn ⟨_,h1,rfl⟩ e (fun z=>nomatch z) h
 | @frz a ob xs ea=>
  cases (show u=Value.ref a from rx);obtain⟨_,_,_,n,_,h1⟩:=(show zbx X.prog X.w H s.heap a (.frz ob (.lst xs))from I.hok a _ ea);exact ya2 PySem.W.kitx_list I.kIn ⟨_,h1,rfl⟩ e (fun z=>nomatch z) h
 | @tup a xs ea=>
  cases (show u=Value.ref a from rx);obtain⟨_,_,_,p⟩:=(show zbx X.prog X.w H s.heap a (.tup xs)from I.hok a _ ea);obtain⟨o,h1,h2,_⟩:=p;exact ya2 PySem.W.kitx_tuple I.kIn ⟨o,h1,h2⟩ e (fun z=>nomatch z) h
 | @dK a kvs ea=>
  cases (show u=Value.ref a from rx);obtain⟨_,_,vs,_,p⟩:=(show zbx X.prog X.w H s.heap a (.dK kvs)from I.hok a _ ea);obtain⟨o,es,ep,h1,h2,_⟩:=p;exact ya2 PySem.W.kitx_dict I.kIn ⟨o,h1,h2.1⟩ e (fun z=>nomatch z) h
 | @dT a kvs ea=>
  cases (show u=Value.ref a from rx);obtain⟨_,_,xs,_,o,es,ep,h1,h2,_⟩:=(show zbx X.prog X.w H s.heap a (.dT kvs)from I.hok a _ ea);exact ya2 PySem.W.kitx_dict I.kIn ⟨o,h1,h2.1⟩ e (fun z=>nomatch z) h
 | @ins a C dx fs ea cl ha hn htk hm=>
  cases (show u=Value.ref a from rx);obtain⟨mA,O,_⟩:=zfJ I.hok ea;obtain⟨od,J,_⟩:=O.look;exact ya2 (PySem.W.kitx_own (cl.get _) cl.hd ha hn htk hm) I.kIn J e (fun z=>nomatch z) h
end
structure Room(k:Nat)(A:Around):Prop where
 hd:A.handled=none
 dp:A.depth+3*k+5<recursionLimit
 un:A.units+16*k+200<cLine
theorem Room.mono{j k:Nat}{A:Around}(r:Room k A)(h:j<=k):Room j A:=⟨r.hd,by have:=r.dp;omega,by have:=r.un;omega⟩
theorem Room.deeper{k:Nat}{A:Around}(r:Room (k+1) A)(env:Env):Room k (A.deeper env):=
 ⟨r.hd,by have:=r.dp;show A.depth+1+3*k+5<_;omega,by have:=r.un;show A.units+3+16*k+200<_;omega⟩
def ziU{A:Around}{C:Addr}{us:List Value}{kw:List (Str×Value)}:(A.under (.builtin "type.__call__" ⟨.ref C::us,kw⟩)).depth=A.depth+1:=by
 first|rfl|simp[Around.under,Code.weight,Code.isCreation,Code.isGuard,Code.isCaller,Code.frames,Code.isFrame,guardIds]
def ziT{A:Around}{C:Addr}{us:List Value}{kw:List (Str×Value)}:(A.under (.builtin "type.__call__" ⟨.ref C::us,kw⟩)).units=A.units+1:=by
 first|rfl|simp[Around.under,Code.cUnits,Code.frames,Code.isFrame]
theorem Room.make{k:Nat}{A:Around}(r:Room (k+1) A)(C:Addr)(us:List Value)(kw:List (Str×Value)):Room k (A.under (.builtin "type.__call__" ⟨.ref C::us,kw⟩)):=
 ⟨r.hd,by have:=r.dp;rw[ziU];omega,by have:=r.un;rw[ziT];omega⟩
theorem Room.depth{k:Nat}{A:Around}(r:Room k A):A.depth<recursionLimit:=by have:=r.dp;omega
theorem Room.units{k:Nat}{A:Around}(r:Room k A):A.units+64<cLine:=by have:=r.un;omega
noncomputable def zsh:TA:=fun _ H Q=>Q [] H
noncomputable def zso(ta:TE)(tr:TA):TA:=fun σ H Q=>ta σ H fun x H1=>tr σ H1 fun xs H2=>Q (x::xs) H2
section
variable{X:Cx}{e:Expr}{es:List Expr}{te:TE}{t:TA}{pos:Pos}
def zdX:PA X [] zsh:=fun _ _ _ _ H Q I h=>Calls.spliced_nil ⟨[],H,I,.nil,h⟩
def zb7(ha:PE X e te)(hr:PA X es t)(hs:autoParam (starEach (e::es) X.env=(false,eval e X.env)::starEach es X.env) yAW):PA X (e::es) (zso te t):=by
 intro pos pins s σ H Q I h;rw[hs];show wpAny _ _ (spliced ((false,eval e X.env)::backTo pos (starEach es X.env))) _ _ s;refine Calls.spliced_cons (thn (ha pins s σ H _ I h) fun u s1 ⟨x,H1,I1,r1,q1⟩=>?_);exact thn (hr pos pins s1 σ H1 _ I1 q1) fun us s2 ⟨xs,H2,I2,r2,q2⟩=>⟨x::xs,H2,I2,.cons r1 r2,q2⟩
noncomputable def zwB(t:TA):TE:=fun σ H Q=>t σ H fun xs H1=>xs.length<=sizeLine/\∀p,H1 p=none->Q (.ref p) (upd H1 p (.tup xs))
noncomputable def zwG(t:TA):TE:=fun σ H Q=>t σ H fun xs H1=>xs.length<=sizeLine/\∀p,H1 p=none->Q (.ref p) (upd H1 p (.lst xs))
def zpZ{x1}(h:PA X es t):PE X (.Tuple es x1 pos) (zwB t):=by
 intro pins s σ H Q I hq;refine wpAny_Tuple_spliced (thn (h pos pins s σ H _ I hq) fun us s1 ⟨xs,H1,I1,r,z,q⟩=>⟨by rw[<-r.length];exact z,?_⟩);have hf:H1 s1.heap.objs.size=none:=I1.hok.fresh (yal _);refine⟨.ref s1.heap.objs.size,upd H1 s1.heap.objs.size (.tup xs),I1.laid (t':=s1.toks) (fun b u e=>yag _ e) (yal _) ?_,rfl,q _ hf⟩;exact⟨z,us,r,⟨_,yau _ rfl,rfl,_,rfl⟩⟩
def zp5(h:PA X es t):PE X (.List es pos) (zwG t):=by
 intro pins s σ H Q I hq;refine wpAny_List_spliced (thn (h pos pins s σ H _ I hq) fun us s1 ⟨xs,H1,I1,r,z,q⟩=>⟨by rw[<-r.length];exact z,?_⟩);have hf:H1 s1.heap.objs.size=none:=I1.hok.fresh (yal _);refine⟨.ref s1.heap.objs.size,upd H1 s1.heap.objs.size (.lst xs),I1.laid (t':=s1.toks) (fun b u e=>yag _ e) (yal _) ?_,rfl,q _ hf⟩;exact⟨z,us,0,r,yau _ rfl⟩
end
noncomputable abbrev Sp:=List V->Hp->VK->XK->Prop
noncomputable abbrev CXT:=List Env->Hp->Shared->XK->Value->Shared->Prop
structure Env0(P:Program)(w:World)(K:PySem.W.Frag)(mg:Z6)(base:Heap)(A:Around)(outer:List Env)(s:Shared)(H:Hp):Prop where
 frames:A.frames=some outer
 mod:Mod K mg base
 bs:∀b o,base.get? b=some o->s.heap.get? b=some o/\H b=none
 bsz:base.objs.size<=s.heap.objs.size
 funs:s.heap.FunFrames base outer
 frf:∀b∈frs outer,H b=none
 hok:HOk P w H s.heap
 bare:AllBare s.gens
noncomputable def CE(outer:List Env)(P:Program)(w:World)(H:Hp)(s:Shared)(Q:VK)(u:Value)(s':Shared):Prop:=
 ∃v H',s'.os=s.os/\AllBare s'.gens/\Un (frs outer) [] H H' s.heap s'.heap/\HOk P w H' s'.heap/\zbs v u/\Q v H'
noncomputable def CR(CX:CXT)(outer:List Env)(P:Program)(w:World)(H:Hp)(s:Shared)(Q:VK)(E:XK)(r:Result)(s':Shared):Prop:=
 match r with
 |.ok (.ret u)=>CE outer P w H s Q u s'|.ok _=>False|.error e=>CX outer H s E e s'
structure FnOk(P:Program)(w:World)(K:PySem.W.Frag)(mg:Z6)(base:Heap)(CX:CXT)(k:Nat)(f:Addr)(fd:FuncData)(ps:List Str)(sp:Sp):Prop where
 len:∀vs H Q E,sp vs H Q E->vs.length=ps.length
 run:∀(A:Around) (outer:List Env) (s:Shared) (H:Hp) (args:Args) (us:List Value) (vs:List V) (Q:VK) (E:XK),Room k A->Env0 P w K mg base A outer s H->BindsTo s fd args (ps.zip us)->Vals vs us->sp vs H Q E →
  codeAny (model P w) A (.call (.ref f) args) (CR CX outer P w H s Q E) s
theorem FnOk.mono{P:Program}{w:World}{K:PySem.W.Frag}{mg:Z6}{base:Heap}{CX:CXT}{j k:Nat}{f:Addr}{fd:FuncData}{ps:List Str}{sp:Sp}(F:FnOk P w K mg base CX j f fd ps sp)(h:j<=k):
  FnOk P w K mg base CX k f fd ps sp:=⟨F.len,fun A outer s H args us vs Q E hr=>F.run A outer s H args us vs Q E (hr.mono h)⟩
def FnOk.imp{P:Program}{w:World}{K:PySem.W.Frag}{mg:Z6}{base:Heap}{CX:CXT}{k:Nat}{f:Addr}{fd:FuncData}{ps:List Str}{sp sp':Sp}(F:FnOk P w K mg base CX k f fd ps sp)
  (h:∀vs H Q E,sp' vs H Q E->sp vs H Q E):FnOk P w K mg base CX k f fd ps sp':=
 ⟨fun vs H Q E q=>F.len vs H Q E (h _ _ _ _ q),fun A outer s H args us vs Q E hr he hb hv hs=>F.run A outer s H args us vs Q E hr he hb hv (h _ _ _ _ hs)⟩
def Env0.make{P:Program}{w:World}{K:PySem.W.Frag}{mg:Z6}{base:Heap}{A:Around}{outer:List Env}{s:Shared}{H:Hp}(e:Env0 P w K mg base A outer s H)(C:Addr)(us:List Value)(kw:List (Str×Value)):
  Env0 P w K mg base (A.under (.builtin "type.__call__" ⟨.ref C::us,kw⟩)) outer s H:=⟨by first|exact e.frames|(simpa[Around.under,Code.envs,Code.isFrame,pushEnvs]using e.frames),e.mod,e.bs,e.bsz,e.funs,e.frf,e.hok,e.bare⟩
section
variable{X:Cx}{pins:Z3}{σ:St}{H:Hp}{s s':Shared}
def Inv.env0(I:Inv X pins σ H s):Env0 X.prog X.w X.K X.mg X.base X.A X.stack s H:=
 ⟨I.ok.frames,I.ok.mod,I.bs,yan I.ok.bsz I.sz,I.stack,I.stkFree,I.hok,I.bare⟩
def Inv.after{Q:VK}{u:Value}(I:Inv X pins σ H s)(h:CE X.stack X.prog X.w H s Q u s'):EP X pins σ Q u s':=by
 obtain⟨v,H',os,bare,un,hok,r,q⟩:=h;obtain⟨hh,g,d,t,os'⟩:=s';obtain rfl:os'=s.os:=os;exact⟨v,H',I.call (h':=hh) (g':=g) (d':=d) (t':=t) (ch:=[]) un hok bare (fun b z=>absurd z (by simp)),r,q⟩
end
noncomputable def zbZ(K:PySem.W.Frag)(fd:FuncData)(ps:List Str)(ds:List Value):Prop:=
 ∀(s:Shared) (us:List Value),K.In s.heap->(us++ds).length=ps.length->BindsTo s fd ⟨us,[]⟩ (ps.zip (us++ds))
def zbZ.all{K:PySem.W.Frag}{fd:FuncData}{ps:List Str}(h:∀us:List Value,us.length=ps.length->bindArgs fd ⟨us,[]⟩=pure (ps.zip us)):zbZ K fd ps []:=fun s us _ hl=>by
 rw[yaU]at hl ⊢;exact .of_eq (h us hl)
noncomputable def zry(CX:CXT)(X:Cx)(E:XK):Prop:=∀(pins:Z3) (σ:St) (H:Hp) (s:Shared) (e:Value) (s':Shared),Inv X pins σ H s->CX X.stack H s E e s'->X.xe e s'
section
variable{X:Cx}{CX:CXT}{k:Nat}{f C:Addr}{fd:FuncData}{ps:List Str}{sp:Sp}{dvs:List V}{ds:List Value}{E:XK}{x m:Str}{p pos apos:Pos}{e o:Expr}{es:List Expr}{ta:TE}{t:TA}
structure Mk(K:PySem.W.Frag)(C f:Addr):Prop where
 makes:PySem.W.makesIn K C=true
 init:PySem.W.findIn K (.ref C) "__init__"=some (some (.ref f))
 fn:PySem.W.isFn K (.ref f)=true
 kp:PySem.W.keepIn K (.ref C)=true
end
structure FnScope(N P:List Str)(sc:Scope):Prop where
 kind:sc.kind=.function
 co:sc.isCoroutine=false
 gen:sc.isGenerator=false
 nd:N.Nodup
 pre:N.take P.length=P
 par:∀x∈P,sc.names.lookup x=some .local\/sc.names.lookup x=some .cell
 nofree:∀y∈sc.names,y.2≠.free
theorem zgQ{kindOf:Str->Option NameKind}{x:Str}:∀{binds:List (Str×Value)}{m:Z6},(∀v,(x,v) ∉ binds)->bindL kindOf binds m x=m x
 |[],_,_=>rfl|(n,v)::r,m,h=>by
  unfold bindL;rw[zgQ fun w hw=>h w (yas _ hw)];split
  ·have:x≠n:=by rintro rfl;exact h v yaz
   simp[this]
  ·rfl
theorem zgS{kindOf:Str->Option NameKind}{x:Str}:∀{binds:List (Str×Value)}{m:Z6},(∀v,(x,v) ∉ binds)->bindC kindOf binds m x=m x
 |[],_,_=>rfl|(n,v)::r,m,h=>by
  unfold bindC;rw[zgS fun w hw=>h w (yas _ hw)];split
  ·rfl
  ·have:x≠n:=by rintro rfl;exact h v yaz
   simp[this]
theorem zgR{kindOf:Str->Option NameKind}{x:Str}{v:Value}:∀{P:List Str}{vs:List Value}{i:Nat}{m:Z6},P.Nodup->P[i]?=some x->vs[i]?=some v->kindOf x=some .local →
  bindL kindOf (P.zip vs) m x=some v
 |[],_,_,_,_,h,_,_=>by simp at h
 |_::_,[],_,_,_,_,h,_=>by simp at h
 |p::P,w::vs,0,m,nd,h1,h2,hk=>by
  simp at h1 h2;subst h1;subst h2;show bindL kindOf ((p,w)::P.zip vs) m p=_;unfold bindL;rw[zgQ fun v hv=>(ya7.mp nd).1 (List.of_mem_zip hv).1,if_pos hk];simp
 |p::P,w::vs,i+1,m,nd,h1,h2,hk=>by
  show bindL kindOf ((p,w)::P.zip vs) m x=_;unfold bindL;exact zgR (i:=i) (ya7.mp nd).2 (by simpa using h1) (by simpa using h2) hk
theorem zgT{kindOf:Str->Option NameKind}{x:Str}{v:Value}:∀{P:List Str}{vs:List Value}{i:Nat}{m:Z6},P.Nodup->P[i]?=some x->vs[i]?=some v->kindOf x≠some .local →
  bindC kindOf (P.zip vs) m x=some v
 |[],_,_,_,_,h,_,_=>by simp at h
 |_::_,[],_,_,_,_,h,_=>by simp at h
 |p::P,w::vs,0,m,nd,h1,h2,hk=>by
  simp at h1 h2;subst h1;subst h2;show bindC kindOf ((p,w)::P.zip vs) m p=_;unfold bindC;rw[zgS fun v hv=>(ya7.mp nd).1 (List.of_mem_zip hv).1,if_neg hk];simp
 |p::P,w::vs,i+1,m,nd,h1,h2,hk=>by
  show bindC kindOf ((p,w)::P.zip vs) m x=_;unfold bindC;exact zgT (i:=i) (ya7.mp nd).2 (by simpa using h1) (by simpa using h2) hk
noncomputable def zeW(N:List Str)(vs:List V):St:=vs.map some++List.replicate (N.length-vs.length) none
noncomputable def zmm(CX:CXT)(P:Program)(w:World)(K:PySem.W.Frag)(mg:Z6)(base:Heap)(N:List Str)(qual:Str)(scope:Scope)(f:Addr)(cd:Value)(A:Around)(outer:List Env)(s:Shared)(H:Hp)(E:XK):Cx where
 prog:=P
 w:=w
 K:=K
 mg:=mg
 base:=base
 A:=A.deeper (envOfC qual scope s.heap.objs.size f cd)
 N:=N
 s₀:=s
 H₀:=H
 env:=envOfC qual scope s.heap.objs.size f cd
 outer:=outer
 stack:=envOfC qual scope s.heap.objs.size f cd::outer
 ex:=[]
 calm:=true
 fn:=fun _=>true
 pn:=[]
 xe:=fun e s'=>wpAny (model P w) (A.deeper (envOfC qual scope s.heap.objs.size f cd)) (leaving (envOfC qual scope s.heap.objs.size f cd) e) (fun _ s''=>CX outer H s E e s'') (fun e' s''=>CX outer H s E e' s'') s'
def zit{sc:Scope}{n:Nat}{x:Str}(h:sc.names.lookup x=some .cell):∃c,(cellsFrom n sc.names []).lookup x=some c:=by
 have q:=PySem.W.cellsFrom_some sc.names n [] (.inl h);exact Option.isSome_iff_exists.mp q
theorem zkr{CX:CXT}{P:Program}{w:World}{K:PySem.W.Frag}{mg:Z6}{base:Heap}{N ps:List Str}{qual:Str}{scope:Scope}{f:Addr}{cd:Value}{A:Around}{outer:List Env}{s s1:Shared}{H:Hp}{E:XK}{us:List Value}{vs:List V}
  (S:FnScope N ps scope) (hd:A.handled=none) (e0:Env0 P w K mg base A outer s H) (hl:vs.length=ps.length) (r:Vals vs us)
  (x:InCallC s s.heap.objs.size (bindL (envOfC qual scope s.heap.objs.size f cd).kindOf (ps.zip us) fun _=>none) (cellsFrom (s.heap.objs.size+1) scope.names []) (bindC (envOfC qual scope s.heap.objs.size f cd).kindOf (ps.zip us) fun _=>none) s1):
  Inv (zmm CX P w K mg base N qual scope f cd A outer s H E) [] (zeW N vs) H s1:=by
 have hpl:ps.length<=N.length:=by have:=congrArg List.length S.pre;rw[ybi]at this;omega
 obtain⟨h1,tk,rfl,hk⟩:=x.done;have noA:∀b:Addr,b ∉ (zmm CX P w K mg base N qual scope f cd A outer s H E).ex:=fun b z=>absurd (show b∈([]:List Addr)from z) (by simp)
 refine⟨⟨e0.mod,S.kind,rfl,rfl,yal _,fun y z c h1 h2=>?_,fun y hy=>?_,fun y c _ h=>?_,fun _=>hd,Around.frames_deeper e0.frames,.inr ⟨rfl,rfl⟩,fun b z=>absurd z (noA b),e0.bs,e0.bsz,fun b _ _=>noA b,fun b z=>absurd z (noA b),e0.funs,e0.frf⟩,
  rfl,e0.bare,Un.kept hk,⟨_,x.toInCall.ns,fun i y v h1 h2 h3=>?_⟩,fun y c h=>⟨_,x.cell y c h⟩,e0.hok.fresh (yal _),fun y c h=>?_,fun p hp=>absurd (show p∈([]:Z3)from hp) (by simp),e0.hok.kept hk,?_⟩
 ·exact name_of_addr x.apart (yaG h1) (yaG h2)
 ·have hy:scope.names.lookup y=some .cell\/scope.names.lookup y=some .free:=hy
  rcases hy with hy|hy
  ·exact zit hy
  ·exact absurd rfl (S.nofree _ (yaG hy))
 ·exact ycC (x.above y c (yaG h))
 ·have hi:i<vs.length:=by
   unfold zeW at h2
   by_cases hi:i<vs.length
   ·exact hi
   ·rw[yat (by simpa using hi)]at h2;rw[ybc]at h2
    split at h2<;>cases h2
  have ha:vs[i]?=some v:=by
   unfold zeW at h2;rw[yaC (by simpa using hi),yar]at h2
   cases e:vs[i]? with
   |none=>rw[e]at h2;cases h2|some a=>rw[e]at h2;cases h2;rfl
  obtain⟨u,hu,rv⟩:=r.get ha
  have hp:ps[i]?=some y:=by
   rw[<-S.pre,ybz (by omega)];exact h1
  have ndP:ps.Nodup:=by rw[<-S.pre];exact S.nd.sublist (List.take_sublist _ _)
  refine⟨u,rv,?_⟩
  rcases S.par y (ybl hp)with k|k
  ·exact .inl ⟨k,zgR ndP hp hu k⟩
  ·obtain⟨c,e⟩:=zit (n:=s.heap.objs.size+1) k;refine .inr ⟨.inl k,c,e,?_⟩;have q:=x.cell y c e;rw[zgT ndP hp hu (by show scope.names.lookup y≠_;rw[k];decide)]at q;exact q
 ·exact e0.hok.fresh (ycC (x.above y c (yaG h)))
 ·unfold zeW;show _=N.length;rw[yao,yaf,yaH];omega
def zqZ{CX:CXT}{P:Program}{w:World}{K:PySem.W.Frag}{mg:Z6}{base:Heap}{k:Nat}{f:Addr}{name qual:Str}{params:Arguments}{body:List Stmt}{scope:Scope}{dV kV doc pm cdv ct oc:Value}{an od:Option Addr}
  {osl:Array (Option Value)}{N ps:List Str}{sp:Sp} (lk:K.lookup f=some ⟨oc,od,.func (PySem.W.fnOf name qual params body scope dV kV doc pm an cdv ct),osl⟩) (hcd:PySem.W.codeIn K cdv qual=true) (S:FnScope N ps scope)
  (len:∀vs H Q E,sp vs H Q E->vs.length=ps.length)
  (hbody:∀(A:Around) (outer:List Env) (s:Shared) (H:Hp) (vs:List V) (Q:VK) (E:XK),Room k (A.deeper (envOfC qual scope s.heap.objs.size f cdv))->sp vs H Q E →
   ∃t,PSs (zmm CX P w K mg base N qual scope f cdv A outer s H E) body t/\t {nx:=fun _ H'=>Q .non H',rt:=Q} (zeW N vs) H):
  FnOk P w K mg base CX (k+1) f (PySem.W.fnOf name qual params body scope dV kV doc pm an cdv ct) ps sp:=by
 refine⟨len,fun A outer s H args us vs Q E hr e0 hb r hsp=>?_⟩;have hl:=len _ _ _ _ hsp;have KX:K.In s.heap:=e0.mod.kin.keeps fun b o e=>(e0.bs b o e).1
 have lim:s.heap.NoLimit:=e0.mod.nolimit.keeps fun b o e=>(e0.bs b o e).1
 have hkind:∀y∈ps.zip us,scope.names.lookup y.1=some .local\/(scope.names.lookup y.1=some .cell/\((cellsFrom (s.heap.objs.size+1) scope.names []).lookup y.1).isSome=true):=fun⟨n,v⟩ hy=>by
  rcases S.par n (List.of_mem_zip hy).1 with q|q
  ·exact .inl q
  ·exact .inr ⟨q,PySem.W.cellsFrom_some _ _ _ (.inl q)⟩
 refine codeAny_call_function hr.depth (KX _ _ lk) rfl S.co S.gen rfl (PySem.W.codeRec_of KX hcd) (hb _ _ _ _ ?_);refine wpAny_newFunctionEnv_cells S.kind hkind fun env he s1 x=>?_
 subst he;refine⟨lim.keeps x.toInCall.keep,codeAny_func ?_⟩;obtain⟨t,ht,hq⟩:=hbody A outer s H vs Q E (hr.deeper _) hsp;have I:Inv (zmm CX P w K mg base N qual scope f cdv A outer s H E) [] (zeW N vs) H s1:=zkr S hr.hd e0 hl r x;refine ybg (ht [] s1 (zeW N vs) H _ I hq) (fun fl s' hs=>?_) fun e s' hs=>hs
 have fin:∀{σ':St}{H':Hp}{v:V}{u:Value},Inv (zmm CX P w K mg base N qual scope f cdv A outer s H E) [] σ' H' s'->zbs v u->Q v H'->CE outer P w H s Q u s':=
  fun {σ' H' v u} J rv q=>⟨v,H',J.os,J.bare,J.base,J.hok,rv,q⟩
 cases fl with
 |ret u=>
  obtain⟨v,σ',H',J,rv,q⟩:=hs;exact fin J rv q
 |next=>
  obtain⟨σ',H',J,q⟩:=hs;exact fin (v:=V.non) (u:=Value.none) J rfl q
 |brk=>
  obtain⟨_,_,_,q⟩:=hs;exact False.elim q
 |cont=>
  obtain⟨_,_,_,q⟩:=hs;exact False.elim q
section
variable{X:Cx}{x:Str}{p pos:Pos}{e:Expr}{es:List Expr}{t:TA}{id T:String}{r:List V->Hp->VK->Prop}
noncomputable def tCB(r:List V->Hp->VK->Prop)(t:TA):TE:=fun σ H Q=>t σ H fun vs H1=>r vs H1 Q
def zdo(hc:zdT X (.builtin id) r)(hg:Gl X x)(hm:X.mg x=none)(hv:bootBuiltins x=some (.builtin id))(ha:PA X (e::es) t)(hn:autoParam (x ≠ "__name__") yAR)(hdb:autoParam ((x==("__debug__":Str))=false) yAR)
  (he:autoParam (starEach (e::es) X.env=(false,eval e X.env)::starEach es X.env) yAW) (hpl:autoParam ((backTo pos (starEach es X.env)).any (·.1)=false) yAW):PE X (.Call (.Name x p) (e::es) [] pos) (tCB r t):=by
 intro pins s σ H Q I h;refine ybI (zdZ I hg hm hv ?_ hn hdb);exact PyProof.Rows.callWith_builtin1 (thn (ha pos pins s σ H _ I h) fun us s1 ⟨vs,H1,I1,r1,q1⟩=>hc pins s1 σ H1 vs us Q I1 r1 q1) he hpl
def zer(hc:zdT X (.type T) r)(hg:Gl X x)(hm:X.mg x=none)(hv:bootBuiltins x=some (.type T))(ha:PA X (e::es) t)(hn:autoParam (x ≠ "__name__") yAR)(hdb:autoParam ((x==("__debug__":Str))=false) yAR)
  (he:autoParam (starEach (e::es) X.env=(false,eval e X.env)::starEach es X.env) yAW) (hpl:autoParam ((backTo pos (starEach es X.env)).any (·.1)=false) yAW):PE X (.Call (.Name x p) (e::es) [] pos) (tCB r t):=by
 intro pins s σ H Q I h;refine ybI (zdZ I hg hm hv ?_ hn hdb);exact ya1 (thn (ha pos pins s σ H _ I h) fun us s1 ⟨vs,H1,I1,r1,q1⟩=>hc pins s1 σ H1 vs us Q I1 r1 q1) he hpl
end
end L2
namespace HT
open PySem PyProof.Rows
section
open PySem.SeqAt
open PySem.AutoSeq1 (wpAny_loadPart')
open PySem.MeetsSeq PySem.MeetsSeq2 PySem.MeetsSeq3
end
section
variable{prog:Program}{w:World}{A:Around}{E:Z5}{s:Shared}
def zoM{t b:Addr}{vs ws:List Value}{Q:Z5}(ht:IsTup s.heap t vs.toArray)(hb:IsTup s.heap b ws.toArray)(hv:vs≠[])
  (h1:ws=[]->Q (.ref t) s) (h2:ws≠[]->Q (.ref s.heap.objs.size) {s with heap:=s.heap.push {cls:=.type "tuple",data:=.seq (vs++ws).toArray}})
  (hsz:vs.length+ws.length<=sizeLine):wpAny (model prog w) A (binaryOp .Add (.ref t) (.ref b)) Q E s:=by
 obtain⟨⟨cls,dd,data,sl⟩,ho,hc,n,hd⟩:=id ht;obtain⟨⟨cls2,dd2,data2,sl2⟩,ho2,hc2,n2,hd2⟩:=id hb;simp only at hc hd hc2 hd2;subst hc hd hc2 hd2
 have e:vs.toArray++ws.toArray=(vs++ws).toArray:=by simp
 by_cases hw:ws=[]
 ·exact concat_meets ⟨_,ho,rfl⟩ ⟨_,ho2,rfl⟩ noFill_tuple_add seq_tuple_add yb9 yb2 (ybX _ _)
   (tuple_addW1 t b vs.toArray ws.toArray n n2 dd dd2 sl sl2 (by simpa using hv) (by simp[hw])) ⟨ho,ho2,h1 hw⟩
 ·refine concat_meets ⟨_,ho,rfl⟩ ⟨_,ho2,rfl⟩ noFill_tuple_add seq_tuple_add yb9 yb2 (ybX _ _)
   (tuple_addW2 t b vs.toArray ws.toArray n n2 dd dd2 sl sl2 (by simpa using hv) (by simpa using hw) (by rw[yai,yai];exact hsz)) ⟨ho,ho2,?_⟩
  rw[e];exact h2 hw
noncomputable def sIx(n d:Nat):Option Int->Nat
 |none=>d|some v=>if v<0 then(v+(n:Int)).toNat else min v.toNat n
theorem zg8(n d k:Nat):sIx n d (some (k:Int))=min k n:=by
 show(if(k:Int)<0 then((k:Int)+(n:Int)).toNat else min (k:Int).toNat n)=min k n;rw[if_neg (by omega),ya8]
theorem zpP(n d:Nat)(hd:d<=n)(o:Option Int):sIx n d o<=n:=by
 cases o with
 |none=>exact hd|some v=>
  show(if v<0 then(v+(n:Int)).toNat else min v.toNat n)<=n
  by_cases hv:v<0
  ·rw[if_pos hv];omega
  ·rw[if_neg hv];exact Nat.min_le_right _ _
theorem zkN(v:Int)(n d:Nat):(if v<0 then max (v+(n:Int)) 0 else min v (n:Int))=((sIx n d (some v):Nat):Int):=by
 show(if v<0 then max (v+(n:Int)) 0 else min v (n:Int))=(((if v<0 then(v+(n:Int)).toNat else min v.toNat n):Nat):Int)
 by_cases hv:v<0
 ·simp only[if_pos hv];omega
 ·simp only[if_neg hv];omega
theorem zja(lo hi:Option Int)(n:Nat):Builtin.Slice.sliceAdjust lo hi 1 (n:Int)=(((sIx n 0 lo:Nat):Int),((sIx n n hi:Nat):Int)):=by
 have h1:¬ ((1:Int)<0):=by omega
 unfold Builtin.Slice.sliceAdjust;simp only[h1,ybJ];refine Prod.ext ?_ ?_
 ·cases lo with
  |none=>rfl|some v=>exact zkN v n 0
 ·cases hi with
  |none=>rfl|some v=>exact zkN v n n
theorem ziN(i j:Nat):Builtin.Slice.slicePlaces (i:Int) (j:Int) 1=j-i:=by
 unfold Builtin.Slice.slicePlaces
 have h1:(1:Int) > 0:=by omega
 simp only[h1,yci,Int.ediv_one]
 split<;>omega
def ze6{v:Value}{o:Option Int}{Q:Option Int->Shared->Prop}(p:IsPart v o)(h:Q o s):wpAny (model prog w) A (Builtin.Slice.slicePartIndex v) Q E s:=by
 cases p with
 |none=>exact slicePart_none h|int i t=>exact slicePart_int h
def zcw{sl:Addr}{vl vu:Value}{lo hi:Option Int}{n:Nat}{Q:Int×Int×Nat->Shared->Prop}(hs:s.heap.IsSliceOf sl vl vu .none)(pl:IsPart vl lo)(pu:IsPart vu hi)
  (h:Q (((sIx n 0 lo:Nat):Int),1,sIx n n hi-sIx n 0 lo) s):wpAny (model prog w) A (Builtin.Slice.sliceApplied (.ref sl) (pure (n:Int))) Q E s:=by
 obtain⟨os,hos,hcs,hds⟩:=id hs;unfold Builtin.Slice.sliceApplied Builtin.Slice.sliceFields;refine yaa (yaa (ybq hos hds (x:=vl) rfl (yaa (ybq hos hds (x:=vu) rfl (yaa (ybq hos hds (x:=.none) rfl (yah ?_)))))));refine yaa (slicePart_none ?_);show wpAny _ _ (if((1:Int)==0)=true then _ else _) _ _ s;rw[if_neg (by decide)];refine yaa (ze6 pl (yaa (ze6 pu (yaa (yah ?_)))));show wpAny _ _ (match Builtin.Slice.sliceAdjust lo hi 1 (n:Int)with|(lo,hi)=>pure (lo,(1:Int),Builtin.Slice.slicePlaces lo hi 1)) _ _ s;rw[zja lo hi n];show wpAny _ _ (pure (((sIx n 0 lo:Nat):Int),(1:Int),Builtin.Slice.slicePlaces ((sIx n 0 lo:Nat):Int) ((sIx n n hi:Nat):Int) 1)) _ _ s;rw[ziN];exact yah h
theorem zlB(xs:Array Value)(i k:Nat):((List.range k).filterMap fun(m:Nat)=>xs[((i:Int)+(m:Int)*1).toNat]?).toArray=((xs.toList.drop i).take k).toArray:=by
 have e:(fun(m:Nat)=>xs[((i:Int)+(m:Int)*1).toNat]?)=fun m=>xs[i+m]?:=by
  funext m
  have:((i:Int)+(m:Int)*1).toNat=i+m:=by omega
  rw[this]
 rw[e];have:=pick_run xs i k;rw[List.filterMap_map]at this;have e2:((fun x=>xs[x]?)∘fun x=>i+x)=fun m=>xs[i+m]?:=rfl
 rw[e2]at this;rw[this]
theorem zdP{t sl:Addr}{items:Array Value}{vl vu:Value}{lo hi:Option Int}{Q:Z5}(ht:IsTup s.heap t items)(hs:s.heap.IsSliceOf sl vl vu .none)(pl:IsPart vl lo)(pu:IsPart vu hi)
  (hw:¬ (sIx items.size 0 lo=0/\sIx items.size items.size hi=items.size))
  (h:Q (.ref s.heap.objs.size) {s with heap:=s.heap.push {cls:=.type "tuple",data:=.seq ((items.toList.drop (sIx items.size 0 lo)).take (sIx items.size items.size hi-sIx items.size 0 lo)).toArray}})
  (hsz:items.size<=sizeLine):wpAny (model prog w) A (getItem (.ref t) (.ref sl)) Q E s:=by
 have htake:sizeOk (.seq ((items.toList.drop (sIx items.size 0 lo)).take (sIx items.size items.size hi-sIx items.size 0 lo)).toArray):=by
  show((items.toList.drop (sIx items.size 0 lo)).take (sIx items.size items.size hi-sIx items.size 0 lo)).toArray.size<=sizeLine;rw[yai,ybi,ybs,ycv];omega
 have hj:sIx items.size items.size hi<=items.size:=zpP _ _ (yal _) hi;obtain⟨os,hos,hcs,hds⟩:=id hs;have hTs:s.TypeIs (.ref sl) "slice":=⟨os,hos,hcs⟩;unfold getItem
 try with_reducible refine ybP ?_
 first|refine yaa (yah ?_)|skip
 refine yaa (wpAny_sequenceKey ht.typeIs (by decide) ?_)
 refine yaa (ya4 (name:=Str.ofString "__getitem__") ht.typeIs yaR
  (ybd yaR ht.typeIs entry_tuple_getitem ?_ (args_tuple_getitem _ _)))
 show wpAny _ _ (Builtin.Tuple.tupleItemsOf (.ref t) >>= _) _ _ s;refine yaa (tupleItemsOf_ ht ?_);refine yaa (wpAny_typeOf hTs ?_);rw[if_pos (by decide)];refine yaa (zcw hs pl pu ?_)
 have hno:¬ ((((sIx items.size 0 lo:Nat):Int)==0&&(1:Int)==1&&(sIx items.size items.size hi-sIx items.size 0 lo)==items.size)=true):=by
  intro q;rw[yac,yac]at q;have q1:((sIx items.size 0 lo:Nat):Int)=0:=eq_of_beq q.1.1;have q2:sIx items.size items.size hi-sIx items.size 0 lo=items.size:=eq_of_beq q.2;exact hw ⟨by omega,by omega⟩
 show wpAny _ _ (if(((sIx items.size 0 lo:Nat):Int)==0&&(1:Int)==1&&(sIx items.size items.size hi-sIx items.size 0 lo)==items.size)=true then _ else _) _ _ s;rw[if_neg hno,zlB]
 first
  |exact yaa (m:=Builtin.Tuple.tupleExact _) (ya9 (yah ⟨_,rfl,yah h⟩) htake)
  |exact yaa (m:=Builtin.Tuple.tupleExact _) (ya9 (yaa (yah (yah ⟨_,rfl,yah h⟩))) htake)
  |exact yaa (yaa (m:=Builtin.Tuple.tupleExact _) (ya9 (yah (yah ⟨_,rfl,yah h⟩)) htake))
  |exact yaa (yaa (m:=Builtin.Tuple.tupleExact _) (ya9 (yah ⟨_,rfl,yah h⟩) htake))
end
end HT
namespace L2
open PySem PySem.Spec PyProof.Rows
noncomputable abbrev TO:=St->Hp->(Option Int->Hp->Prop)->Prop
noncomputable def PO(X:Cx)(e:Option Expr)(t:TO):Prop:=
 ∀(pins:Z3) (s:Shared) (σ:St) (H:Hp) (Q:Option Int->Hp->Prop),Inv X pins σ H s->t σ H Q →
  wpAny (model X.prog X.w) X.A (evalPart e X.env) (fun u s'=>∃o H',Inv X pins σ H' s'/\IsPart u o/\Q o H') X.xe s
noncomputable def zjq:TO:=fun _ H Q=>Q none H
noncomputable def zo9(t:TE):TO:=fun σ H Q=>t σ H fun x H1=>∃i,x=.int i/\Q (some i) H1
section
variable{X:Cx}{e:Expr}{te:TE}{lo hi:Option Expr}{tl th:TO}{pos p2:Pos}
def znU:PO X none zjq:=by
 intro pins s σ H Q I h;rw[evalPart_none];exact yah ⟨none,H,I,.none,h⟩
def znT(h:PE X e te):PO X (some e) (zo9 te):=by
 intro pins s σ H Q I hw;rw[evalPart_some];refine thn (h pins s σ H _ I hw) fun u s1 ⟨x,H1,I1,r1,q1⟩=>?_
 obtain⟨i,rfl,q⟩:=q1;obtain⟨t,rfl⟩:=r1;exact⟨some i,H1,I1,.int i t,q⟩
noncomputable def SlR(X:Cx)(r:V->Option Int->Option Int->Hp->VK->Prop):Prop:=
 ∀(pins:Z3) (s:Shared) (σ:St) (H:Hp) (x:V) (v vl vu:Value) (lo hi:Option Int) (sl:Addr) (Q:VK),Inv X pins σ H s->zbs x v->s.heap.IsSliceOf sl vl vu .none->IsPart vl lo->IsPart vu hi->r x lo hi H Q →
  ∃T id,typeLookup (.type T) "__getitem__"=pure (some (.builtin id))/\s.TypeIs v T/\wpAny (model X.prog X.w) X.A (getItem v (.ref sl)) (EP X pins σ Q) X.xe s
noncomputable def tSl(r:V->Option Int->Option Int->Hp->VK->Prop)(te:TE)(tl th:TO):TE:=fun σ H Q=>te σ H fun x H1=>tl σ H1 fun l H2=>th σ H2 fun u H3=>r x l u H3 Q
def zlF{r:V->Option Int->Option Int->Hp->VK->Prop}(hr:SlR X r)(he:PE X e te)(hl:PO X lo tl)(hu:PO X hi th):PE X (.Subscript e (.Slice lo hi none p2) pos) (tSl r te tl th):=by
 intro pins s σ H Q I h;refine Subscript_ (thn (he pins s σ H _ I h) fun v s1 ⟨x,H1,I1,r1,q1⟩=>?_);refine wpAny_Slice (thn (hl pins s1 σ H1 _ I1 q1) fun vl s2 ⟨l,H2,I2,pl,q2⟩=>thn (hu pins s2 σ H2 _ I2 q2) fun vu s3 ⟨u,H3,I3,pu,q3⟩=>?_);rw[evalPart_none];refine yah ?_;have I4:Inv X pins σ H3 {s3 with heap:=s3.heap.push {cls:=.type "slice",data:=.fields #[vl,vu,.none]}}:=I3.kept (t':=s3.toks) fun b ob q=>yag _ q
 obtain⟨T,id,hT,ht,hg⟩:=hr pins {s3 with heap:=s3.heap.push {cls:=.type "slice",data:=.fields #[vl,vu,.none]}} σ H3 x v vl vu l u s3.heap.objs.size Q I4 r1 (Heap.IsSliceOf.new ..) pl pu q3;show wpAny (model X.prog X.w) X.A (subscriptTail e (.Slice lo hi none p2) v (.ref s3.heap.objs.size)) (EP X pins σ Q) X.xe {s3 with heap:=s3.heap.push {cls:=.type "slice",data:=.fields #[vl,vu,.none]}};exact tail_any (ops:=[.ref s3.heap.objs.size,v]) ht hT hg (by with_unfolding_all rfl)
def zm2(xs:List V)(lo hi:Option Int):List V:=(xs.drop (HT.sIx xs.length 0 lo)).take (HT.sIx xs.length xs.length hi-HT.sIx xs.length 0 lo)
theorem zeP(xs:List V)(lo hi:Option Int):(zm2 xs lo hi).length<=xs.length:=by
 unfold zm2;rw[ybi,ybs];omega
noncomputable def zwQ(K:PySem.W.Frag):V->Option Int->Option Int->Hp->VK->Prop:=fun x lo hi H Q=>∃a xs,x=.ref a/\SqT K H a xs ∧
 ¬ (HT.sIx xs.length 0 lo=0/\HT.sIx xs.length xs.length hi=xs.length)/\∀p,H p=none->Q (.ref p) (upd H p (.tup (zm2 xs lo hi)))
def zpq:SlR X (zwQ X.K):=by
 intro pins s σ H x v vl vu lo hi sl Q I rx hs pl pu h;obtain⟨a,xs,rfl,hx,hw,q⟩:=h;cases rx;obtain⟨its,r,ht,hz⟩:=I.tuple hx
 have hlen:its.toArray.size=xs.length:=by rw[yai];exact r.length.symm
 refine⟨"tuple",_,yaR.lookup,ht.typeIs,?_⟩;refine HT.zdP ht hs pl pu (by rw[hlen];exact hw) ?_ (by rw[hlen];exact hz);rw[hlen];refine⟨.ref s.heap.objs.size,_,I.laid (t':=s.toks) (o:=.tup (zm2 xs lo hi)) (fun b ob q=>yag _ q) (yal _) ?_,rfl,q _ (I.hok.fresh (yal _))⟩;exact⟨yan (zeP xs lo hi) hz,_,(r.drop (HT.sIx xs.length 0 lo)).take (HT.sIx xs.length xs.length hi-HT.sIx xs.length 0 lo),IsTup.new _ _⟩
noncomputable def zsE(K:PySem.W.Frag):R2:=fun x y H Q=>∃a b xs ys,x=.ref a/\y=.ref b/\SqT K H a xs/\SqT K H b ys/\xs≠[]/\xs.length+ys.length<=sizeLine ∧
 (ys=[]->Q (.ref a) H)/\(ys≠[]->∀p,H p=none->Q (.ref p) (upd H p (.tup (xs++ys))))
def Vals.nil_iff{xs:List V}{us:List Value}(r:Vals xs us):us=[]↔xs=[]:=by
 cases r with
 |nil=>simp|cons _ _=>simp
def zn3:OpR X (binaryOp .Add) (zsE X.K):=by
 intro pins s σ H x y v u Q I rx ry h;obtain⟨a,b,xs,ys,rfl,rfl,ha,hb,hx,hz,q1,q2⟩:=h;cases rx;cases ry;obtain⟨its,r1,p1,_⟩:=I.tuple ha;obtain⟨its2,r2,p2,_⟩:=I.tuple hb;refine HT.zoM p1 p2 (fun z=>hx (r1.nil_iff.mp z)) (fun z=>⟨.ref a,H,I,rfl,q1 (r2.nil_iff.mp z)⟩) (fun z=>?_) (by rw[<-r1.length,<-r2.length];exact hz);refine⟨.ref s.heap.objs.size,_,I.laid (t':=s.toks) (o:=.tup (xs++ys)) (fun b ob q=>yag _ q) (yal _) ?_,rfl,q2 (fun w=>z (r2.nil_iff.mpr w)) _ (I.hok.fresh (yal _))⟩;exact⟨by rw[yao];exact hz,_,r1.append r2,IsTup.new _ _⟩
end
noncomputable def ixN(n:Nat)(i:Int):Option Nat:=if 0<=i then(if i<n then some i.toNat else none)else if -(n:Int)<=i then some (i+n).toNat else none
def atI{α:Type}(xs:List α)(i:Int):Option α:=(ixN xs.length i).bind fun j=>xs[j]?
theorem zho{n:Nat}{i:Int}{j:Nat}(h:ixN n i=some j):seqIndex? i n=some j/\j<n/\-(n:Int)<=i/\i<n:=by
 unfold ixN at h
 by_cases h0:0<=i
 ·rw[if_pos h0]at h
  by_cases h1:i<n
  ·rw[if_pos h1]at h;have e:i.toNat=j:=Option.some.inj h;exact⟨by rw[seqIndex_of h0 h1,e],by omega,by omega,h1⟩
  ·rw[if_neg h1]at h;cases h
 ·rw[if_neg h0]at h
  by_cases h1:-(n:Int)<=i
  ·rw[if_pos h1]at h;have e:(i+n).toNat=j:=Option.some.inj h;exact⟨by rw[seqIndex_neg (by omega) h1,e],by omega,h1,by omega⟩
  ·rw[if_neg h1]at h;cases h
def zkX{α:Type}{xs:List α}{i:Int}{v:α}(h:atI xs i=some v):∃j,seqIndex? i xs.length=some j/\xs[j]?=some v/\j<xs.length/\-(xs.length:Int)<=i/\i<xs.length:=by
 unfold atI at h
 cases e:ixN xs.length i with
 |none=>rw[e]at h;cases h|some j=>
  rw[e]at h;obtain⟨h1,h2,h3,h4⟩:=zho e;exact⟨j,h1,h,h2,h3,h4⟩
noncomputable def zfZ(b:Expr):Prop:=∀o i,subscripted b false o i=operate [o,i] (getItem o i)
noncomputable def IxR(X:Cx)(r:R2):Prop:=
 ∀(value slice:Expr) (pins:Z3) (s:Shared) (σ:St) (H:Hp) (x y:V) (v u:Value) (Q:VK),Inv X pins σ H s->zbs x v->zbs y u->r x y H Q →
  subscripted slice false v u=operate [v,u] (getItem v u)->wpAny (model X.prog X.w) X.A (subscriptTail value slice v u) (EP X pins σ Q) X.xe s
noncomputable def MtR(X:Cx)(id:String)(r:V->List V->Hp->VK->Prop):Prop:=
 ∀(pins:Z3) (s:Shared) (σ:St) (H:Hp) (x:V) (xs:List V) (v:Value) (us:List Value) (Q:VK),Inv X pins σ H s->zbs x v->Vals xs us->r x xs H Q →
  wpAny (model X.prog X.w) X.A (call (.builtin id) (v::us)) (EP X pins σ Q) X.xe s
section
variable{X:Cx}{a b:Expr}{ta tb:TE}{pos:Pos}
def zjQ{r:R2}(hr:IxR X r)(ha:PE X a ta)(hb:PE X b tb)(hs:zfZ b):PE X (.Subscript a b pos) (tOp r ta tb):=by
 intro pins s σ H Q I h;exact Subscript_ (ztC ha hb I h fun v u s2 x y H2 I2 rx ry q=>hr a b pins s2 σ H2 x y v u Q I2 rx ry q (hs _ _))
noncomputable def zwU(K:PySem.W.Frag):R2:=fun x y H Q=>∃p xs i v,x=.ref p/\y=.int i/\SqL K H p xs/\atI xs i=some v/\Q v H
noncomputable def zwT(K:PySem.W.Frag):R2:=fun x y H Q=>∃p xs i v,x=.ref p/\y=.int i/\SqT K H p xs/\atI xs i=some v/\Q v H
theorem zhn:IxR X (zwU X.K):=by
 intro value slice pins s σ H x y v u Q I rx ry h hs;obtain⟨p,xs,i,z,rfl,rfl,hq,he,q⟩:=h;cases rx;obtain⟨t,rfl⟩:=ry;obtain⟨its,r,pl,hz⟩:=I.list hq;obtain⟨j,h1,h2,h3,h4,h5⟩:=zkX he;obtain⟨w,ew,rw'⟩:=r.get h2;have hl:=r.length;have hn:=zgx;have fin:EP X pins σ Q w s:=⟨z,H,I,rw',q⟩
 by_cases h0:0<=i
 ·have hj:i.toNat=j:=by
   rw[seqIndex_of h0 h5]at h1;exact Option.some.inj h1
  exact item_listR pl.isList h0 (by omega) (by rw[hj];simpa using ew) fin hs
 ·have hj:(i+(its.toArray.size:Int)).toNat=j:=by
   rw[seqIndex_neg (by omega) h4]at h1;rw[yai,<-hl];exact Option.some.inj h1
  exact yca (x:=w) pl.isList.typeIs slot_list_getitem.lookup
   (wpAny_getItem_list_neg (Q:=fun r s'=>r=w/\EP X pins σ Q r s') pl.isList (by omega) (by rw[yai]<;>omega) (by omega) (by rw[hj];simpa using ew) ⟨rfl,fin⟩) hs
theorem zkl:IxR X (zwT X.K):=by
 intro value slice pins s σ H x y v u Q I rx ry h hs;obtain⟨p,xs,i,z,rfl,rfl,hq,he,q⟩:=h;cases rx;obtain⟨t,rfl⟩:=ry;obtain⟨its,r,pl,hz⟩:=I.tuple hq;obtain⟨j,h1,h2,h3,h4,h5⟩:=zkX he;obtain⟨w,ew,rw'⟩:=r.get h2;have hl:=r.length;have hn:=zgx;have fin:EP X pins σ Q w s:=⟨z,H,I,rw',q⟩
 exact yca (x:=w) pl.typeIs slot_tuple_getitem.lookup
  (getItem_tuple (j:=j) (Q:=fun r s'=>r=w/\EP X pins σ Q r s') pl (by omega) (by omega) (by rw[yai,<-hl];exact h1) (by simpa using ew) ⟨rfl,fin⟩) hs
def ziS(its:List Value)(n j:Nat)(u:Value):Obj.mapSeq (·.setIfInBounds j u) {cls:=.type "list",data:=.seq its.toArray n}={cls:=.type "list",data:=.seq (its.set j u).toArray n}:=by
 simp[Obj.mapSeq]
theorem Inv.lst{pins:Z3}{σ:St}{H:Hp}{s:Shared}{p:Addr}{xs:List V}(I:Inv X pins σ H s)(h:H p=some (.lst xs)):
  ∃(its:List Value) (n:Nat),Vals xs its/\s.heap.get? p=some {cls:=.type "list",data:=.seq its.toArray n}/\xs.length<=sizeLine:=by
 obtain⟨z,its,n,r,e⟩:=I.hok p _ h;exact⟨its,n,r,e,z⟩
def Inv.lstUpd{pins:Z3}{σ:St}{H:Hp}{s:Shared}{p:Addr}{xs ys:List V}{its its':List Value}{n n':Nat}{f:Obj->Obj}(I:Inv X pins σ H s)(h:H p=some (.lst xs))
  (ho:s.heap.get? p=some {cls:=.type "list",data:=.seq its.toArray n}) (hf:f {cls:=.type "list",data:=.seq its.toArray n}={cls:=.type "list",data:=.seq its'.toArray n'}) (r:Vals ys its') (hz:ys.length<=sizeLine) (t:Nat):
  Inv X pins σ (upd H p (.lst ys)) {s with heap:=s.heap.update p f,toks:=t}:=by
 have e:(s.heap.update p f).get? p=some {cls:=.type "list",data:=.seq its'.toArray n'}:=by
  rw[ybL f ho (by rw[hf]<;>rfl),hf]
 refine I.write (x:=p) (e:=p) (by rw[h];trivial) (.inl rfl) (fun b u hb q=>(Heap.get?_update_other _ _ (Ne.symm hb)).trans q) ⟨_,e⟩ ?_;exact⟨hz,its',n',r,e⟩
noncomputable def zsD:V->V->V->Hp->(Hp->Prop)->Prop:=fun o i v H Q=>∃p xs k j,o=.ref p/\i=.int k/\H p=some (.lst xs)/\ixN xs.length k=some j/\Q (upd H p (.lst (xs.set j v)))
theorem zln:zrV X zsD:=by
 intro pins s σ H o i v ov iv u Q I ro ri rv h;obtain⟨p,xs,k,j,rfl,rfl,hp,hj,q⟩:=h;cases ro;obtain⟨t,rfl⟩:=ri;obtain⟨its,n,r,ho,hz⟩:=I.lst hp;obtain⟨h1,h2,h3,h4⟩:=zho hj;have hl:=r.length;have hn:=zgx
 have I':Inv X pins σ (upd H p (.lst (xs.set j v))) {s with heap:=s.heap.update p (Obj.mapSeq (·.setIfInBounds j u))}:=
  I.lstUpd hp ho (ziS its n j u) (r.set rv j) (by rw[yaw];exact hz) s.toks
 by_cases h0:0<=k
 ·have hk:k.toNat=j:=by
   rw[seqIndex_of h0 h4]at h1;exact Option.some.inj h1
  exact PySem.W.ki_setAt ho h0 (by omega) (by rw[yai,<-hl];exact h4) (by rw[hk];exact⟨_,I',q⟩)
 ·have hk:(k+(its.toArray.size:Int)).toNat=j:=by
   rw[seqIndex_neg (by omega) h3]at h1;rw[yai,<-hl];exact Option.some.inj h1
  exact PySem.W.ki_setBack ho (by omega) (by rw[yai,<-hl];exact h3) (by omega) (by rw[hk];exact⟨_,I',q⟩)
theorem zgd(lo hi:Option Int)(n:Nat):(sliceBounds lo hi none n).1=((HT.sIx n 0 lo:Nat):Int)/\(sliceBounds lo hi none n).2.1=((HT.sIx n n hi:Nat):Int)/\(sliceBounds lo hi none n).2.2=1:=by
 refine⟨?_,?_,rfl⟩
 ·cases lo with
  |none=>simp[sliceBounds,HT.sIx]|some i=>
   simp only[sliceBounds,HT.sIx,Option.getD_none,show(1:Int) > 0 by decide,yci]
   by_cases h:i<0
   ·simp only[h,yci]<;>omega
   ·simp only[h,ybJ]<;>omega
 ·cases hi with
  |none=>simp[sliceBounds,HT.sIx]|some i=>
   simp only[sliceBounds,HT.sIx,Option.getD_none,show(1:Int) > 0 by decide,yci]
   by_cases h:i<0
   ·simp only[h,yci]<;>omega
   ·simp only[h,ybJ]<;>omega
def zfv(its:List Value)(lo hi:Option Int):slicePick its.toArray lo hi none=((its.drop (HT.sIx its.length 0 lo)).take (HT.sIx its.length its.length hi-HT.sIx its.length 0 lo)).toArray:=by
 obtain⟨h1,h2,h3⟩:=zgd lo hi its.toArray.size;unfold slicePick;rw[h1,h2,h3]
 simp only[sliceRange_one,pick_run,yai]<;>rfl
noncomputable def zwR(K:PySem.W.Frag):V->Option Int->Option Int->Hp->VK->Prop:=fun x lo hi H Q=>∃a xs,x=.ref a/\SqL K H a xs/\∀p,H p=none->Q (.ref p) (upd H p (.lst (zm2 xs lo hi)))
theorem znt:SlR X (zwR X.K):=by
 intro pins s σ H x v vl vu lo hi sl Q I rx hs pl pu h;obtain⟨a,xs,rfl,hx,q⟩:=h;cases rx;obtain⟨its,r,ht,hz⟩:=I.list hx;have hlen:=r.length;refine⟨"list",_,slot_list_getitem.lookup,ht.isList.typeIs,?_⟩;refine wpAny_getItem_list_slice ht.isList hs pl pu .none (by simp) ?_ (by rw[yai]<;>omega);rw[zfv,<-hlen];refine⟨.ref s.heap.objs.size,_,I.laid (t':=s.toks) (o:=.lst (zm2 xs lo hi)) (fun b ob q=>yag _ q) (yal _) ?_,rfl,q _ (I.hok.fresh (yal _))⟩;exact⟨yan (zeP xs lo hi) hz,_,0,(r.drop (HT.sIx xs.length 0 lo)).take (HT.sIx xs.length xs.length hi-HT.sIx xs.length 0 lo),yau _ rfl⟩
theorem zcS:zdT X (.builtin "len") (fun xs H Q=>∃p ys,xs=[.ref p]/\(SqL X.K H p ys\/SqT X.K H p ys)/\Q (.int ys.length) H):=by
 intro pins s σ H xs us Q I r h;obtain⟨p,ys,rfl,hq,q⟩:=h;obtain⟨u,rfl,rx⟩:=ziz r;cases rx;have hn:=zgx
 rcases hq with hq|hq
 ·obtain⟨its,r',pl,hz⟩:=I.list hq;have hlen:=r'.length;exact Calls.call_len_list pl.isList (by simp only[yai]<;>omega) ⟨.int ys.length,H,I.tok _,⟨s.toks+1,by rw[yai,hlen]⟩,q⟩
 ·obtain⟨its,r',pl,hz⟩:=I.tuple hq;have hlen:=r'.length;exact len_tuple pl (by simp only[yai]<;>omega) ⟨.int ys.length,H,I.tok _,⟨s.toks+1,by rw[yai,hlen]⟩,q⟩
theorem zgN:zdT X (.builtin "len") (fun xs H Q=>∃z,xs=[.str z]/\z.length<=sizeLine/\Q (.int z.length) H):=by
 intro pins s σ H xs us Q I r h;obtain⟨z,rfl,hz,q⟩:=h;obtain⟨u,rfl,t,rfl⟩:=ziz r;have hn:=zgx;exact len_str (by omega) ⟨.int z.length,H,I.tok _,⟨_,rfl⟩,q⟩
def zd5:zdT X (.type "list") (fun xs H Q=>∃p ys,xs=[.ref p]/\(SqL X.K H p ys\/SqT X.K H p ys)/\∀l,H l=none->Q (.ref l) (upd H l (.lst ys))):=by
 intro pins s σ H xs us Q I r h;obtain⟨p,ys,rfl,hq,q⟩:=h;obtain⟨u,rfl,rx⟩:=ziz r;cases rx
 have fin:∀(its:List Value),Vals ys its->ys.length<=sizeLine->∀(h':Heap) (c':Nat),(∀b o',s.heap.get? b=some o'->h'.get? b=some o') →
   h'.get? s.heap.objs.size=some {cls:=.type "list",dict:=none,data:=.seq its.toArray c',slots:=#[]}->EP X pins σ Q (.ref s.heap.objs.size) {s with heap:=h'}:=fun its r' hz h' c' kp e=>
  ⟨.ref s.heap.objs.size,_,I.laid (t':=s.toks) kp (yal _) (show zbx X.prog X.w _ h' _ (.lst ys)from⟨hz,its,c',r',e⟩),rfl,q _ (I.hok.fresh (yal _))⟩
 rcases hq with hq|hq
 ·obtain⟨its,r',pl,hz⟩:=I.list hq;have hlen:=r'.length;obtain⟨o,ho,hc,n,hd⟩:=pl.isList;exact call_list_seq p (.inl rfl) ho hc hd (fun h' c' kp e=>fin its r' hz h' c' kp e) (by simp only[yai]<;>omega)
 ·obtain⟨its,r',pl,hz⟩:=I.tuple hq;have hlen:=r'.length;obtain⟨o,ho,hc,n,hd⟩:=pl;exact call_list_seq p (.inr rfl) ho hc hd (fun h' c' kp e=>fin its r' hz h' c' kp e) (by simp only[yai]<;>omega)
theorem zdE:zdT X (.type "tuple") (fun xs H Q=>∃p ys,xs=[.ref p]/\((SqL X.K H p ys/\∀l,H l=none->Q (.ref l) (upd H l (.tup ys)))\/(SqT X.K H p ys/\Q (.ref p) H))):=by
 intro pins s σ H xs us Q I r h;obtain⟨p,ys,rfl,h⟩:=h;obtain⟨u,rfl,rx⟩:=ziz r;cases rx
 rcases h with⟨hq,q⟩|⟨hq,q⟩
 ·obtain⟨its,r',pl,hz⟩:=I.list hq;have hlen:=r'.length;refine call_tuple_list pl.isList (fun h' kp=>?_) (by simp only[yai]<;>omega);have I1:Inv X pins σ H {s with heap:=h'}:=I.kept (t':=s.toks) kp
  have I2:Inv X pins σ (upd H h'.objs.size (.tup ys)) {s with heap:=h'.push {cls:=.type "tuple",data:=.seq its.toArray}}:=
   I1.laid (t':=s.toks) (fun b o e=>yag _ e) (yal _) (show zbx X.prog X.w _ _ _ (.tup ys)from⟨hz,its,r',IsTup.new _ _⟩)
  exact⟨.ref h'.objs.size,_,I2,rfl,q _ (I1.hok.fresh (yal _))⟩
 ·obtain⟨its,r',pl,hz⟩:=I.tuple hq;exact call_tuple_same pl ⟨.ref p,H,I,rfl,q⟩
noncomputable def tyV(K:PySem.W.Frag)(T:String)(x:V)(H:Hp):Prop:=match x with
 |.str _=>T="str"|.int _=>T="int"|.ref p=>(T="list" /\ ∃xs,SqL K H p xs)\/(T="tuple" /\ ∃o,K.lookup p=some o/\o.cls=.type "tuple" /\ o.dict=none) ∨
   (T="dict" /\ ((∃kvs,H p=some (.dK kvs))\/∃kvs,H p=some (.dT kvs)))\/(T="set" /\ ∃S n,H p=some (.set S n))
 |_=>False
def zo3{pins:Z3}{σ:St}{H:Hp}{s:Shared}{T:String}{x:V}{v:Value}(I:Inv X pins σ H s)(r:zbs x v)(ty:tyV X.K T x H):
  s.TypeIs v T/\∀a,v=.ref a->∃ob,s.heap.get? a=some ob/\ob.dict=none:=by
 cases x with
 |str z=>
  obtain⟨t,rfl⟩:=r;cases (show T="str"from ty);exact⟨typeIs_str s z t,fun _ e=>nomatch e⟩
 |int i=>
  obtain⟨t,rfl⟩:=r;cases (show T="int"from ty);exact⟨yct s i t,fun _ e=>nomatch e⟩
 |ref p=>
  cases r
  rcases ty with⟨rfl,xs,hq⟩|⟨rfl,o,hk,hc,hd⟩|⟨rfl,hk⟩|⟨rfl,S,n,hk⟩
  ·obtain⟨its,_,pl,_⟩:=I.list hq;refine⟨pl.isList.typeIs,fun a e=>?_⟩;cases e;obtain⟨o,n,e,c,hd,_⟩:=pl;exact⟨o,e,hd⟩
  ·refine⟨⟨o,I.kIn p o hk,hc⟩,fun a e=>?_⟩;cases e;exact⟨o,I.kIn _ o hk,hd⟩
  ·have z:∃o,s.heap.get? p=some o/\o.ExactDict:=by
    rcases hk with⟨kvs,hk⟩|⟨kvs,hk⟩
    ·obtain⟨_,_,_,_,o,_,_,e,ex,_⟩:=I.hok p _ hk;exact⟨o,e,ex⟩
    ·obtain⟨_,_,_,_,o,_,_,e,ex,_⟩:=I.hok p _ hk;exact⟨o,e,ex⟩
   obtain⟨o,e,ex⟩:=z;refine⟨⟨o,e,ex.1⟩,fun a e2=>?_⟩;cases e2;exact⟨o,e,ex.2.1⟩
  ·obtain⟨o,_,_,_,e,ex,_⟩:=I.hok p _ hk;refine⟨⟨o,e,ex.1⟩,fun a e2=>?_⟩;cases e2;exact⟨o,e,ex.2.1⟩
 |_=>exact False.elim ty
noncomputable def tBM(K:PySem.W.Frag)(T:String)(r:V->List V->Hp->VK->Prop)(to:TE)(t:TA):TE:=fun σ H Q=>to σ H fun x H1=>tyV K T x H1/\t σ H1 fun xs H2=>r x xs H2 Q
variable{o e:Expr}{es:List Expr}{to:TE}{t:TA}{name:Str}{apos cpos:Pos}{T id:String}{r:V->List V->Hp->VK->Prop}
def zn0(pa:PlainAttrs T)(slot:Slot T name id)(hty:typeOf (.builtin id)=pure (.type "method_descriptor"))(hm:MtR X id r)(ho:PE X o to)(ha:PA X (e::es) t)
  (hbase:autoParam (attributeBase o name X.env (eval o X.env)=eval o X.env) yAW)
  (hfew:autoParam (((backTo cpos (starEach (e::es) X.env)).all (fun x=>!x.1)&&(backToKw cpos (keywordEach [] X.env)).all (fun x=>x.1.isSome)
   && decide ((e::es).length+([]:List Keyword).length+(if([]:List Keyword).isEmpty then 0 else 1)<30))=true) yAW)
  (hline:autoParam ((apos.endLine==cpos.line)=true) yAW) (hs:autoParam (starEach (e::es) X.env=(false,eval e X.env)::starEach es X.env) yAW) (hplain:autoParam ((backTo cpos (starEach es X.env)).any (·.1)=false) yAW):
  PE X (.Call (.Attribute o name apos) (e::es) [] cpos) (tBM X.K T r to t):=by
 intro pins s σ H Q I h;refine wpAny_Call_method_late hbase hfew hline rfl (thn (ho pins s σ H _ I h) fun v s1 ⟨x,H1,I1,r1,ty,q1⟩=>?_);obtain⟨h1,h2⟩:=zo3 I1 r1 ty;refine⟨T,id,pa,slot,hty,h1,h2,?_⟩;have hA:=ha cpos pins s1 σ H1 _ I1 q1;rw[hs]at hA ⊢;refine Calls.callWith_builtin (by show(false||(backTo cpos (starEach es X.env)).any (·.1))=false;rw[hplain]<;>rfl) (Calls.evalArgs_plain ?_);exact thn hA fun us s2 ⟨vs,H2,I2,r2,q2⟩=>hm pins s2 σ H2 x vs v us Q I2 r1 r2 q2
end
noncomputable def MtM(X:Cx)(id:String)(r:V->List V->Hp->VK->Prop):Prop:=
 ∀(pins:Z3) (s:Shared) (σ:St) (H:Hp) (x:V) (xs:List V) (v:Value) (us:List Value) (Q:VK),Inv X pins σ H s->zbs x v->Vals xs us->r x xs H Q →
  wpAny (model X.prog X.w) X.A (call (.builtin id) (v::us)) (EP X pins σ Q) X.xe s
theorem Vals.one:∀{x:V}{us:List Value},Vals [x] us->∃u,us=[u]/\zbs x u
 |_,_,.cons r .nil=>⟨_,rfl,r⟩
theorem Vals.rep{xs:List V}{us:List Value}(h:Vals xs us):∀k:Nat,Vals (List.replicate k xs).flatten (List.replicate k us).flatten
 |0=>.nil|k+1=>by
  rw[ya3,ya3,ybm,ybm];exact Vals.append h (Vals.rep h k)
theorem zeJ(its:List Value):∀(k:Nat) (acc:List Value),
  List.foldl (fun x1 x2=>x1++x2) acc.toArray (List.replicate k its.toArray)=(acc++(List.replicate k its).flatten).toArray
 |0,acc=>by simp
 |k+1,acc=>by
  have e:acc.toArray++its.toArray=(acc++its).toArray:=by simp
  have e2:(acc++its)++(List.replicate k its).flatten=acc++(List.replicate (k+1) its).flatten:=by
   rw[ya3,ybm,ycb]
  rw[<-e2,<-zeJ its k (acc++its),<-e,ya3,List.foldl_cons]
section
variable{X:Cx}{pins:Z3}{σ:St}{H:Hp}{s:Shared}{l b:Addr}{xs ys zs:List V}
def Inv.lset{its its':List Value}{n:Nat}{f:Array Value->Array Value}{t':Nat}(I:Inv X pins σ H s)(hH:H l=some (.lst xs))
  (e:s.heap.get? l=some {cls:=.type "list",data:=.seq its.toArray n}) (hf:f its.toArray=its'.toArray) (hv:Vals ys its') (hz:ys.length<=sizeLine):
  Inv X pins σ (upd H l (.lst ys)) {s with heap:=s.heap.update l (Obj.mapSeq f),toks:=t'}:=by
 have q:=PySem.IsL.update e f;rw[hf]at q;refine I.write (x:=l) (e:=l) (by rw[hH];exact trivial) (.inl rfl) (fun b' u hb hu=>(Heap.get?_update_other s.heap (Obj.mapSeq f) (Ne.symm hb)).trans hu) ⟨_,q⟩ ?_;exact⟨hz,its',_,hv,q⟩
def Inv.lnew{its:List Value}{t':Nat}(I:Inv X pins σ H s)(hv:Vals ys its)(hz:ys.length<=sizeLine):
  Inv X pins σ (upd H s.heap.objs.size (.lst ys)) {s with heap:=s.heap.push {cls:=.type "list",data:=.seq its.toArray},toks:=t'}:=
 I.laid (fun _ _ q=>yag _ q) (yal _) ⟨hz,its,0,hv,yau _ rfl⟩
theorem Inv.fresh(I:Inv X pins σ H s):H s.heap.objs.size=none:=I.hok.fresh (yal _)
def Inv.lstM(I:Inv X pins σ H s)(hH:H l=some (.lst xs)):xs.length<=sizeLine/\∃(its:List Value) (n:Nat),Vals xs its/\xs.length=its.length/\s.heap.get? l=some {cls:=.type "list",data:=.seq its.toArray n}:=by
 obtain⟨z,its,n,r,e⟩:=I.hok l _ hH;exact⟨z,its,n,r,r.length,e⟩
theorem zh4{n:Nat}(h:n<=sizeLine):Builtin.List.listTooLong n=false:=by
 unfold Builtin.List.listTooLong;exact yaN (by omega)
end
section
variable{X:Cx}
noncomputable def znO:V->List V->Hp->VK->Prop:=fun x vs H Q=>∃l xs y,x=.ref l/\vs=[y]/\H l=some (.lst xs)/\xs.length<sizeLine/\Q .non (upd H l (.lst (xs++[y])))
theorem zj7:MtM X "list.append" znO:=by
 intro pins s σ H x vs v us Q I rx rv h;obtain⟨l,xs,y,rfl,rfl,hH,hz,q⟩:=h;cases rx;obtain⟨u,rfl,ru⟩:=rv.one;obtain⟨z,its,n,r,hl,e⟩:=I.lstM hH;refine ycc F.slot_list_append ⟨_,e,rfl⟩ F.entry_list_append (F.args_list_append_2 _ _) (PySem.list_append l its.toArray n u (by rw[yai];omega)) ⟨e,?_⟩;refine⟨.non,_,I.lset (its':=its++[u]) hH e (by simp) (r.append (.cons ru .nil)) ?_,rfl,q⟩;rw[yao,yba];omega
noncomputable def znN:V->List V->Hp->VK->Prop:=fun x vs H Q=>∃l b xs zs,x=.ref l/\vs=[.ref b]/\H l=some (.lst xs)/\H b=some (.lst zs)/\xs.length+zs.length<=sizeLine/\Q .non (upd H l (.lst (xs++zs)))
theorem zj6:MtM X "list.extend" znN:=by
 intro pins s σ H x vs v us Q I rx rv h;obtain⟨l,b,xs,zs,rfl,rfl,hH,hB,hz,q⟩:=h;cases rx;obtain⟨u,rfl,ru⟩:=rv.one;cases ru;obtain⟨z,its,n,r,hl,e⟩:=I.lstM hH;obtain⟨z2,its2,n2,r2,hl2,e2⟩:=I.lstM hB
 have hsz:its.toArray.size+its2.toArray.size<=sizeLine:=by rw[yai,yai];omega
 have hlong:¬ (!its.toArray.isEmpty&&Builtin.List.listTooLong (its.toArray.size+its2.toArray.size))=true:=by
  rw[zh4 hsz,Bool.and_false];exact ya5
 refine ycc F.slot_list_extend ⟨_,e,rfl⟩ F.entry_list_extend (F.args_list_extend_2 _ _)
  (AutoSeq1.list_extend_list_list_0 l its.toArray n b its2.toArray n2 hlong (by rw[yai];omega) (by omega)) ⟨e,e2,?_⟩
 refine⟨.non,_,I.lset (its':=its++its2) hH e (by simp) (r.append r2) ?_,rfl,q⟩;rw[yao];omega
noncomputable def zwV:R2:=fun x y H Q=>∃l b xs zs,x=.ref l/\y=.ref b/\H l=some (.lst xs)/\H b=some (.lst zs)/\xs.length+zs.length<=sizeLine/\∀p,H p=none->Q (.ref p) (upd H p (.lst (xs++zs)))
theorem zqe:OpR X (binaryOp .Add) zwV:=by
 intro pins s σ H x y v u Q I rx ry h;obtain⟨l,b,xs,zs,rfl,rfl,hH,hB,hz,q⟩:=h;cases rx;cases ry;obtain⟨z,its,n,r,hl,e⟩:=I.lstM hH;obtain⟨z2,its2,n2,r2,hl2,e2⟩:=I.lstM hB;refine PySem.P.add_list e e2 ?_ (by rw[yai,yai];omega)
 have ea:its.toArray++its2.toArray=(its++its2).toArray:=by simp
 rw[ea];exact⟨.ref _,_,I.lnew (t':=s.toks) (r.append r2) (by rw[yao];omega),rfl,q _ I.fresh⟩
noncomputable def zwS:R2:=fun x y H Q=>∃l k xs,x=.ref l/\y=.int k/\H l=some (.lst xs)/\-(2 ^ 63)<=k/\k<2 ^ 63/\xs.length*k.toNat<=sizeLine ∧
 ∀p,H p=none->Q (.ref p) (upd H p (.lst (List.replicate k.toNat xs).flatten))
def zhm{α:Type}(xs:List α)(k:Nat):(List.replicate k xs).flatten.length=k*xs.length:=by
 induction k with
 |zero=>simp|succ k ih=>rw[ya3,ybm,yao,ih,ycg,Nat.add_comm]
theorem zqa:OpR X (binaryOp .Mult) zwS:=by
 intro pins s σ H x y v u Q I rx ry h;obtain⟨l,k,xs,rfl,rfl,hH,h1,h2,hz,q⟩:=h;cases rx;obtain⟨t,rfl⟩:=ry;obtain⟨z,its,n,r,hl,e⟩:=I.lstM hH
 have hlen:its.toArray.size*k.toNat<=sizeLine:=by rw[yai,<-hl];exact hz
 have hcap:¬ its.toArray.size*k.toNat > (2 ^ 63-1) / 8:=by
  have:(sizeLine:Nat)<=(2 ^ 63-1) / 8:=by decide
  omega
 have hfit:¬ (!Builtin.List.listFitsIndex k)=true:=by
  rw[fitsIndex_both h1 h2];exact ya5
 have hlong:¬ Builtin.List.listTooLong (its.toArray.size*k.toNat)=true:=by
  rw[zh4 hlen];exact ya5
 have hnew:List.foldl (fun x1 x2=>x1++x2) #[] (List.replicate (if its.toArray.isEmpty=true then 0 else k.toNat) its.toArray)=(List.replicate k.toNat its).flatten.toArray:=by
  have f0:∀m:Nat,List.foldl (fun x1 x2=>x1++x2) #[] (List.replicate m its.toArray)=(List.replicate m its).flatten.toArray:=fun m=>by
   have:=zeJ its m [];rwa[List.nil_append]at this
  rw[f0]
  cases its with
  |nil=>simp|cons a r'=>rw[if_neg (by simp)]
 refine ybT (T:="list") (U:="int") (by decide) ⟨_,e,rfl⟩ (fun s'=>yct s' k t) noFill_list_mul F.fills_int_mul ybM repeat_list F.slot_int_index.lookup
  (ycc ybM (yct s k t) F.entry_int_rmul (ycK _ _) (int___rmul___int_list k t l its.toArray n)
   ⟨e,rfl,⟨_,e,rfl⟩,ycc F.slot_list_mul ⟨_,e,rfl⟩ F.entry_list_mul (F.args_list_mul_2 _ _) (AutoListH.list___mul___list_int_3 l its.toArray n k t hfit hcap hlong) ⟨e,?_⟩⟩)
 rw[hnew];exact⟨.ref _,_,I.lnew (t':=s.toks) (r.rep k.toNat) (by rw[zhm,yaX];exact hz),rfl,q _ I.fresh⟩
end
end L2
namespace Att
open PySem PySem.W PySem.Calls PyProof.Rows
def zeF{P:Params}{h:Heap}:∀(ns:List Int) (vs:List Value),WellAll P h vs (ns.map WData.int)->IntsAre vs ns:=by
 intro ns
 induction ns with
 |nil=>
  intro vs w;rw[List.map_nil]at w;cases w;exact .nil
 |cons n ns ih=>
  intro vs w;rw[yaA]at w
  cases w with
  |cons a b=>
   cases a;exact .cons _ _ (ih _ b)
theorem zjy{l:OpenLaw}{n:Nat}(hn:l.most=some n){P:Params}{h:Heap}{args:List WData}{vals:List Value}
  (hpre:l.row.toRowW.claim.pre args=true) (hwl:WellAll P h vals args):
  ∃a vs ns,vals=[Value.ref a]/\args=[WData.list (ns.map WData.int)]/\h.get? a=some {cls:=.type "list",data:=.seq vs.toArray}/\IntsAre vs ns/\ns.length<=n:=by
 have hsh:WShape.hasAll [] args [.list .int]=true:=(pre_splitW hpre).1;have hc:l.pre.holds [] {args:=args}=true:=(pre_splitW hpre).2;obtain⟨d,r,rfl,h1,h2⟩:=hasAllW_cons hsh;obtain rfl:=hasAllW_nil h2;obtain⟨xs,rfl,h3⟩:=hasW_list h1;obtain⟨ns,rfl⟩:=items_int h3
 have hlen:ns.length<=n:=by
  unfold OpenLaw.pre at hc
  have h4:(WTm.not (.lt (.lit (.int (n:Int))) (.len (.arg 0)))).holds [] {args:=[.list (ns.map .int)]}=true:=by
   have h4:=(holds_andW hc).1;rwa[hn]at h4
  have h5:=condW_of h4 (w_not (w_lt w_lit (w_len_list (w_arg rfl))));rw[yaf]at h5;refine Nat.le_of_not_lt fun q=>?_
  have q':(n:Int)<((ns.length:Nat):Int):=by omega
  first
   |(rw[yaK q']at h5;exact absurd h5 (by decide))
   |(simp at h5;omega)
 cases hwl with
 |cons w1 w2=>
  cases w2
  cases w1 with
  |list ho hall=>exact⟨_,_,ns,rfl,rfl,ho,zeF ns _ hall,hlen⟩
def zjJ(l:OpenLaw)(args:List WData):l.row.toRowW.claim.post args (.bool true) args=true:=
 postW_of (r:=l.row.toRowW) (X:=(true==true))
  (show WShape.has [] (.bool true) .bool=true by first|rfl|decide|simp[WShape.has,WShape.arms,WShape.armsAll])
  (show(WTm.eq .res (.lit (.bool true))).value [] {args:=args,res:=some (.bool true),after:=args}=some (.bool (true==true))from w_eq_bool (w_res rfl) w_lit) rfl
def zhD{l:OpenLaw}{n:Nat}{q:Program}{loose:List Str}{XP:(Str->Option Value)->Heap->Prop}{YP:World->Heap->Prop}{d:DefRec}
  (hn:l.most=some n) (hdf:d.params.defaults=[])
  (call:∀(w:World) (s₀ s₁:Shared) (mg mb:Z6) (fa:Addr) (o:Obj) (pm cd doc:Value) (a:Addr) (vs:List Value) (ns:List Int),
   Ground q loose [] XP w s₀ mg mb s₁.heap->YP w s₁.heap →
   s₁.heap.get? fa=some o->o.data=.func (docDef d.name d.params d.body d.scope pm cd doc)->s₁.heap.CodeRec cd d.name->mg d.name=some (.ref fa) →
   s₁.heap.get? a=some {cls:=.type "list",data:=.seq vs.toArray}->IntsAre vs ns->ns.length<=n->s₁.gens=#[] →
   codeAny (model l.prog w) callerA (.call (.ref fa) ⟨[.ref a],[]⟩) (fun r s'=>r=.ok (.ret (.bool true))/\OldK s₁.heap s'.heap/\s'.os=s₁.os/\AllBare s'.gens) s₁):
  WalkO q loose XP YP l.row.toRowW d [] (fun f vs=>PySem.call f vs):=by
 intro w s₀ s₁ mg mb G Y fa o pm cd doc dV kV ho hd hcd hD hmg hg args vals as hpre hlay hrd hwl hlo;obtain rfl:dV=.none:=Dflts.none hD hdf;obtain rfl:kV=.none:=Dflts.noKw hD;obtain⟨a,vs,ns,rfl,rfl,hobj,hints,hlen⟩:=zjy hn hpre hwl;refine enter_call (codeAny_mono (call w s₀ s₁ mg mb fa o pm cd doc a vs ns G Y ho (fd_plain hd) hcd hmg hobj hints hlen hg) fun r s' hq=>?_);obtain⟨rfl,h2,h3,h4⟩:=hq;exact⟨.inl ⟨.bool true,.bool true,[],rfl,fun _=>rfl,.bool true,zjJ l _,fun _=>⟨List.Pairwise.nil,fun _ hm=>(nomatch hm)⟩⟩,h2,h3,h4⟩
end Att
namespace L2
open PySem PySem.Spec PyProof.Rows
theorem zf5:∀{vs:List Value}{ns:List Int},IntsAre vs ns->Vals (ns.map V.int) vs
 |_,_,.nil=>.nil|_,_,.cons n t h=>.cons ⟨t,rfl⟩ (zf5 h)
noncomputable def zrW(H:Hp):Prop:=∀b,H b=none\/∃o xs,H b=some (.frz o (.lst xs))
def zlY{P:Program}{w:World}{K:PySem.W.Frag}{mg mb:Z6}{CX:CXT}{k:Nat}{fa a:Addr}{fd:FuncData}{x:Str}{sp:Sp}{s₁:Shared}{vs:List Value}{ns:List Int}
  (KX:K.In s₁.heap) (hns:s₁.heap.Ns mainGlobals mg) (hb:s₁.heap.Ns builtinsNs mb) (hbb:∀x:Str,x ≠ "__name__" -> mb x=bootBuiltins x) (hlim:s₁.heap.NoLimit) (hg:s₁.gens=#[])
  (ha:s₁.heap.get? a=some {cls:=.type "list",data:=.seq vs.toArray}) (hi:IntsAre vs ns) (hl:ns.length<=sizeLine) (hr:Room k callerA)
  (F:∀base:Heap,K.In base->base.Ns mainGlobals mg->FnOk P w K mg base CX k fa fd [x] sp) (hbind:∀(s:Shared) (u:Value),BindsTo s fd ⟨[u],[]⟩ [(x,u)])
  (hsp:∀H:Hp,zrW H->SqL K H a (ns.map V.int)->sp [.ref a] H (fun v _=>v=.bl true) fun _ _ _=>False)
  (hCX:∀H e s',CX [] H s₁ (fun _ _ _=>False) e s'->False):
  codeAny (model P w) callerA (.call (.ref fa) ⟨[.ref a],[]⟩) (fun r s'=>r=.ok (.ret (.bool true))/\OldK s₁.heap s'.heap/\s'.os=s₁.os/\AllBare s'.gens) s₁:=by
 have rv:=zf5 hi;have lenV:=hi.length
 have core:∀H:Hp,zrW H->SqL K H a (ns.map V.int)->HOk P w H s₁.heap->(∀b,H b≠none->b=a)->(H a≠none->K.lookup a=none) →
   codeAny (model P w) callerA (.call (.ref fa) ⟨[.ref a],[]⟩) (fun r s'=>r=.ok (.ret (.bool true))/\OldK s₁.heap s'.heap/\s'.os=s₁.os/\AllBare s'.gens) s₁:=by
  intro H hO hS hok hA hK;have zcT:∀{b:Addr}{o:Obj},s₁.heap.get? b=some o->H b=none->(zl9 s₁.heap H).get? b=some o:=fun e n=>zl8 e n
  have noA:∀{b:Addr}{o:Obj}{es:Array DictEntry}{ep:Nat},s₁.heap.get? b=some o->o.data=.dict es ep->H b=none:=fun {b o es ep} e d=>by
   cases q:H b with
   |none=>rfl|some u=>
    have e':b=a:=hA b (by rw[q];simp);subst e';rw[ha]at e;cases e;have d':Data.seq vs.toArray _=Data.dict es ep:=d;cases d'
  have nsK:∀{b:Addr}{m:Z6},s₁.heap.Ns b m->(zl9 s₁.heap H).Ns b m:=fun {b m} ⟨o,es,ep,e,d,r⟩=>⟨o,es,ep,zcT e (noA e d),d,r⟩
  have hKb:K.In (zl9 s₁.heap H):=fun b o e=>zcT (KX b o e) (by
   cases q:H b with
   |none=>rfl|some u=>
    have e':b=a:=hA b (by rw[q];simp);subst e'
    rw[hK (by rw[q];simp)]at e;cases e)
  have hM:Mod K mg (zl9 s₁.heap H):=⟨hKb,nsK hns,⟨mb,nsK hb,hbb⟩,let ⟨mc,h1,h2⟩:=hlim;⟨mc,nsK h1,h2⟩⟩;have e0:Env0 P w K mg (zl9 s₁.heap H) callerA [] s₁ H:=⟨rfl,hM,fun b o e=>zn4 e,Nat.le_of_eq (zku _ _),trivial,fun b hb=>absurd (show b∈([]:List Addr)from hb) (by simp),hok,.of_eq hg⟩;refine codeAny_mono ((F _ hKb (nsK hns)).run callerA [] s₁ H ⟨[.ref a],[]⟩ [.ref a] [.ref a] _ _ hr e0 (hbind s₁ (.ref a)) (.cons rfl .nil) (hsp H hO hS)) fun r s' h=>?_
  cases r with
  |error e=>exact(hCX H e s' h).elim|ok fl=>
   cases fl with
   |next=>exact False.elim h|brk=>exact False.elim h|cont=>exact False.elim h|ret u=>
    obtain⟨v,H',os,bare,un,hok',r',q⟩:=h;have q':v=.bl true:=q;subst q';obtain rfl:u=Value.bool true:=r';refine⟨rfl,OldK.of_keep fun b o e=>?_,os,bare⟩
    cases q:H b with
    |none=>exact un.keep b o e q (by intro z;exact absurd (show b∈([]:List Addr)from z) (by simp)) (by simp)
    |some u=>
     rcases hO b with z|⟨ob,xs,z⟩
     ·rw[q]at z;cases z
     ·have z2:=un.frzs b ob _ z;obtain⟨e1,_⟩:=hok b _ z;obtain⟨e2,_⟩:=hok' b _ z2;rw[e]at e1;cases e1;exact e2
 cases hk:K.lookup a with
 |some o=>
  have e:=KX a o hk;rw[ha]at e;cases e;refine core (fun _=>none) (fun _=>.inl rfl) (.inr ⟨_,vs.toArray,_,hk,rfl,rfl,rfl,by rw[yai,lenV];exact hl,by simpa using rv⟩) (fun b u z=>by have z':(none:Option HO)=some u:=z;cases z') (fun b z=>absurd rfl z) fun z=>absurd rfl z
 |none=>
  refine core (fun b=>if b=a then some (.frz {cls:=.type "list",data:=.seq vs.toArray} (.lst (ns.map V.int)))else none) (fun b=>?_) (.inl (.inr ⟨{cls:=.type "list",data:=.seq vs.toArray},if_pos rfl⟩)) (fun b u z=>?_) (fun b z=>?_) fun _=>hk
  ·by_cases hb:b=a
   ·exact .inr ⟨_,_,if_pos hb⟩
   ·exact .inl (if_neg hb)
  ·by_cases hb:b=a
   ·have z':=(if_pos hb).symm.trans z;cases z';subst hb;exact⟨ha,by rw[yaf];exact hl,vs,_,rv,ha⟩
   ·have z':=(if_neg hb).symm.trans z;cases z'
  ·by_cases hb:b=a
   ·exact hb
   ·exact absurd (if_neg hb) z
def znd{l:PySem.W.OpenLaw}{n k:Nat}{q:Program}{loose:List Str}{XP:(Str->Option Value)->Heap->Prop}{YP:World->Heap->Prop}{d:DefRec}{K:Params->PySem.W.Frag}{CX:World->CXT}{sp:World->Sp}{x:Str}
  (hn:l.most=some n) (hn2:n<=sizeLine) (hdf:d.params.defaults=[]) (hr:Room k callerA)
  (hY:∀(w:World) (h:Heap),YP w h->(K w.params).In h)
  (F:∀(w:World) (mg:Z6) (fa:Addr) (h:Heap),(K w.params).In h->h.Ns mainGlobals mg->mg d.name=some (.ref fa) →
   ∃fd:FuncData,(∀(s:Shared) (u:Value),BindsTo s fd ⟨[u],[]⟩ [(x,u)]) ∧
    ∀base:Heap,(K w.params).In base->base.Ns mainGlobals mg->FnOk l.prog w (K w.params) mg base (CX w) k fa fd [x] (sp w))
  (hsp:∀(w:World) (H:Hp) (a:Addr) (ns:List Int),ns.length<=n->zrW H->SqL (K w.params) H a (ns.map V.int)->sp w [.ref a] H (fun v _=>v=.bl true) fun _ _ _=>False)
  (hCX:∀(w:World) (H:Hp) (s:Shared) (e:Value) (s':Shared),CX w [] H s (fun _ _ _=>False) e s'->False):
  PySem.W.WalkO q loose XP YP l.row.toRowW d [] (fun f vs=>PySem.call f vs):=by
 refine Att.zhD hn hdf fun w s₀ s₁ mg mb fa o pm cd doc a vs ns G Y ho hd hcd hmg hobj hints hlen hg=>?_
 have KX:=hY w _ Y;obtain⟨fd,hb,hF⟩:=F w mg fa _ KX G.T.g hmg;exact zlY KX G.T.g G.T.b G.T.builtins G.T.nolimit hg hobj hints (yan hlen hn2) hr hF hb (fun H hO hS=>hsp w H a ns hlen hO hS) fun H e s'=>hCX w H s₁ e s'
noncomputable def zbq(s:Stmt):Arguments:=match s with
 |.FunctionDef _ a _ _ _ _ _ _ _ _=>a|_=>{posonlyargs:=[],args:=[],vararg:=none,kwonlyargs:=[],kw_defaults:=[],kwarg:=none,defaults:=[]}
noncomputable def za7(s:Stmt):List Stmt:=match s with
 |.FunctionDef _ _ b _ _ _ _ _ _ _=>b|_=>[]
noncomputable def zaa(s:Stmt):Scope:=match s with
 |.FunctionDef _ _ _ _ _ _ sc _ _ _=>sc|_=>{kind:=.function,names:=[],isGenerator:=false,isCoroutine:=false}
structure Fun(K:PySem.W.Frag)(x qual:Str)(st:Stmt)(f:Addr)(fd:FuncData):Prop where
 ex:∃(oc:Value) (od:Option Addr) (kV doc pm:Value) (an:Option Addr) (cdv ct:Value) (osl:Array (Option Value)),
  fd=PySem.W.fnOf x qual (zbq st) (za7 st) (zaa st) .none kV doc pm an cdv ct/\K.lookup f=some ⟨oc,od,.func fd,osl⟩/\PySem.W.codeIn K cdv qual=true
 kp:PySem.W.keepIn K (.ref f)=true
section
variable{P:Program}{w:World}{K:PySem.W.Frag}{mg:Z6}{base:Heap}
def Fun.binds{x qual:Str}{st:Stmt}{f:Addr}{fd:FuncData}{ps:List Str}(F:Fun K x qual st f fd)
  (h:∀(kV doc pm:Value) (an:Option Addr) (cdv ct:Value) (us:List Value),us.length=ps.length->bindArgs (PySem.W.fnOf x qual (zbq st) (za7 st) (zaa st) .none kV doc pm an cdv ct) ⟨us,[]⟩=pure (ps.zip us)):zbZ K fd ps []:=by
 obtain⟨oc,od,kV,doc,pm,an,cdv,ct,osl,rfl,lk,hcd⟩:=F.ex;exact .all (h kV doc pm an cdv ct)
def zmU{x qual:Str}{st:Stmt}{f:Addr}{oc:Value}{od an:Option Addr}{osl:Array (Option Value)}{kV doc pm cdv ct:Value}(l:K.lookup f=some ⟨oc,od,.func (PySem.W.fnOf x qual (zbq st) (za7 st) (zaa st) .none kV doc pm an cdv ct),osl⟩)
  (c:PySem.W.codeIn K cdv qual=true) (k:PySem.W.keepIn K (.ref f)=true):Fun K x qual st f (PySem.W.fnOf x qual (zbq st) (za7 st) (zaa st) .none kV doc pm an cdv ct):=⟨⟨oc,od,kV,doc,pm,an,cdv,ct,osl,rfl,l,c⟩,k⟩
end
def zl5{A B:Prop}(h:B):if false=true then A else B:=by
 rw[if_neg ya5];exact h
def zl4{A B:Prop}(h:A):if true=true then A else B:=by
 rw[if_pos rfl];exact h
def zi4{scope:Scope}{env:Env}(h:∀y∈scope.names,y.2=.free->∃c,env.cells.lookup y.1=some c):
  ∃cl,closureFor scope env=pure cl/\(∀y c,cl.lookup y=some c->env.cells.lookup y=some c)/\∀y,(y,NameKind.free)∈scope.names->∃c,cl.lookup y=some c:=by
 unfold closureFor
 have key:∀(l:List (Str×NameKind)) (cs:List (Str×Addr)),(∀y∈l,y.2=.free->∃c,env.cells.lookup y.1=some c)->(∀y c,cs.lookup y=some c->env.cells.lookup y=some c) →
   ∃cl,(forIn l cs fun(x:Str×NameKind) (r:List (Str×Addr))=>(if(x.2==NameKind.free)=true then(do let c ← cellOf env x.1;pure (ForInStep.yield ((x.1,c)::r)))else pure (ForInStep.yield r):Sem (ForInStep (List (Str×Addr)))))=pure cl ∧
    (∀y c,cl.lookup y=some c->env.cells.lookup y=some c)/\(∀y,(y,NameKind.free)∈l->∃c,cl.lookup y=some c)/\(∀y c,cs.lookup y=some c->∃c',cl.lookup y=some c'):=by
  intro l
  induction l with
  |nil=>intro cs _ hc;exact⟨cs,rfl,hc,fun y hy=>by simp at hy,fun y c e=>⟨c,e⟩⟩
  |cons p l ih=>
   intro cs hl hc;obtain⟨n,k⟩:=p
   by_cases hk:(k==NameKind.free)=true
   ·have ek:k=.free:=eq_of_beq hk;obtain⟨c,ec⟩:=hl (n,k) yaz ek
    obtain⟨cl,e1,e2,e3,e4⟩:=ih ((n,c)::cs) (fun y hy=>hl y (yas _ hy)) (fun y c' e=>by
     rw[yax]at e
     cases hq:y==n with
     |true=>rw[hq]at e;cases e;rw[eq_of_beq hq];exact ec|false=>rw[hq]at e;exact hc y c' e)
    refine⟨cl,?_,e2,fun y hy=>?_,fun y c' e=>?_⟩
    ·rw[ycy];show((if(k==NameKind.free)=true then _ else _) >>= _)=_;rw[if_pos hk]
     have ecell:cellOf env n=pure c:=by unfold cellOf;rw[ec]
     show(cellOf env n >>= _) >>= _=_;rw[ecell];simpa using e1
    ·rcases yav.mp hy with z|hy
     ·cases z;exact e4 n c (by rw[yax];simp)
     ·exact e3 y hy
    ·cases hq:y==n with
     |true=>exact e4 y c (by rw[yax,hq])
     |false=>exact e4 y c' (by rw[yax,hq];exact e)
   ·obtain⟨cl,e1,e2,e3,e4⟩:=ih cs (fun y hy=>hl y (yas _ hy)) hc;refine⟨cl,?_,e2,fun y hy=>?_,e4⟩
    ·rw[ycy];show((if(k==NameKind.free)=true then _ else _) >>= _)=_;rw[if_neg hk];simpa using e1
    ·rcases yav.mp hy with z|hy
     ·cases z;exact absurd rfl hk
     ·exact e3 y hy
 obtain⟨cl,e1,e2,e3,_⟩:=key scope.names [] h (fun y c e=>by simp at e);refine⟨cl,?_,e2,e3⟩;show((forIn scope.names [] _:Sem (List (Str×Addr))) >>= _)=_;have e1':=congrArg (fun m=>m >>= (pure:List (Str×Addr)->Sem (List (Str×Addr)))) e1;simpa using e1
noncomputable def PIf(X:Cx)(ifs:List Expr)(t:TT):Prop:=
 ∀(pins:Z3) (s:Shared) (σ:St) (H:Hp) (Q:Bool->Hp->Prop),Inv X pins σ H s->t σ H Q →
  wpAny (model X.prog X.w) X.A (forIn ifs true fun c r=>if r=true then do let ok ← isTrue c X.env (eval c X.env);pure (ForInStep.yield ok)else pure (ForInStep.yield r)) (TP X pins σ Q) X.xe s
noncomputable def zwA:TT:=fun _ H Q=>Q true H
def znX{X:Cx}:PIf X [] zwA:=fun _ _ _ H _ I h=>wpAny_tests_nil ⟨H,I,h⟩
def znW{X:Cx}{c:Expr}{t:TT}(h:PT X c t):PIf X [c] t:=fun pins s σ H Q I hw=>wpAny_tests_one (h pins s σ H Q I hw)
theorem zdV{scope:Scope}{env:Env}:∀{names:List (Str×NameKind)}{y:Str},(y,NameKind.free)∈names->(∀z∈names,z.1=y->z.2=.free) →
  (names.map fun(n,k)=>if(k==NameKind.free&&env.scope.kind==.function&&env.kindOf n==some .cell)then(n,NameKind.cell)else(n,k)).lookup y=some .cell ∨
  (names.map fun(n,k)=>if(k==NameKind.free&&env.scope.kind==.function&&env.kindOf n==some .cell)then(n,NameKind.cell)else(n,k)).lookup y=some .free
 |[],_,h,_=>by simp at h
 |(n,k)::r,y,h,u=>by
  rw[yaA];show List.lookup y ((if(k==NameKind.free&&env.scope.kind==.function&&env.kindOf n==some .cell)=true then(n,NameKind.cell)else(n,k))::_)=_\/List.lookup y ((if(k==NameKind.free&&env.scope.kind==.function&&env.kindOf n==some .cell)=true then(n,NameKind.cell)else(n,k))::_)=_
  cases hq:y==n with
  |true=>
   have e:n=y:=(eq_of_beq hq).symm;have ek:k=.free:=u (n,k) yaz e
   by_cases hc:(k==NameKind.free&&env.scope.kind==.function&&env.kindOf n==some .cell)=true
   ·rw[if_pos hc];left;simp[yax,hq]
   ·rw[if_neg hc];right;simp[yax,hq,ek]
  |false=>
   have hy:(y,NameKind.free)∈r:=by
    rcases yav.mp h with z|z
    ·cases z;simp at hq
    ·exact z
   have ih:=zdV (scope:=scope) (env:=env) hy fun z hz=>u z (yas _ hz)
   by_cases hc:(k==NameKind.free&&env.scope.kind==.function&&env.kindOf n==some .cell)=true
   ·rw[if_pos hc];simpa[yax,hq]using ih
   ·rw[if_neg hc];simpa[yax,hq]using ih
def Inv.track{X:Cx}{pins:Z3}{σ:St}{H:Hp}{s:Shared}{D:Addr}{o:HO}(I:Inv X pins σ H s)(hn:H D=none)(h1:X.s₀.heap.objs.size<=D)(h2:D≠X.env.locals)(h3:∀x c,X.env.cells.lookup x=some c->c≠D)(h4:∀p∈X.pn++pins,p.1≠D)
  (new:zbx X.prog X.w (upd H D o) s.heap D o):Inv X pins σ (upd H D o) s:=by
 have nD:∀b u,H b=some u->b≠D:=fun b u e=>zao e hn
 obtain⟨h',g',d',t',o'⟩:=s;refine I.step (h':=h') (g':=g') (d':=d') (t':=t') (ch:=[D]) (fun b hb=>?_) (fun b o _ _ _ e _=>e) (fun b o _ _ _ e _=>⟨o.slots,e⟩) (fun b o hc e n=>?_) (fun b o _ e=>⟨o,e⟩) (fun b xs e=>?_) (fun b o u e=>?_) (fun b ps e=>?_) (fun m hm=>hm) (fun b u e=>?_) I.bare
 ·have e:b=D:=by simpa using hb
  subst e;exact⟨.inr h1,h2,h3,h4⟩
 ·rw[zah (fun z=>hc (by simp[z]))];exact n
 ·rw[zah (nD _ _ e)];exact e
 ·rw[zah (nD _ _ e)];exact e
 ·exact⟨#[],by rw[zah (nD _ _ e),e];simp⟩
 ·by_cases hb:b=D
  ·subst hb;rw[zau]at e;cases e;exact new
  ·rw[zah hb]at e
   exact(I.hok b u e).stay (fun _ _ _ q=>q) (fun c q=>by rw[zah (nD _ _ q)];exact q) fun c xs q=>by rw[zah (nD _ _ q)];exact q
section
variable{X:Cx}{elt iter:Expr}{x:Str}{px pos:Pos}{ifs:List Expr}{scope:Scope}{caps:List (Str×Nat)}{wi:TI}{tt:TT}{te:TE}
noncomputable abbrev lob(its:List Value)(k:Nat):Obj:={cls:=.type "list",data:=.seq its.toArray k}
end
section
variable{prog:Program}{w:World}{A:Around}{R:Result->Shared->Prop}{s:Shared}
theorem zlV{elt target iter:Expr}{ifs:List Expr}{scope:Scope}{pos:Pos}{it acc:Value}{env:Env}(I:Nat->Shared->Prop)
  (turn:∀n s,I n s->wpAny (model prog w) A (pyNext it) (fun r s₁=>match r with
   |none=>R (.ok .next) s₁|some v=>wpAny (model prog w) A (letOwnedTupleGo target it v) (fun _ s₀=>wpAny (model prog w) A (assign target env v) (fun _ s₂=>
     wpAny (model prog w) A (forIn ifs true fun c r=>if r=true then do let ok ← isTrue c env (eval c env);pure (ForInStep.yield ok)else pure (ForInStep.yield r)) (fun ok s₃=>
      if ok=true then wpAny (model prog w) A (eval elt env) (fun x s₄=>
       wpAny (model prog w) A (call (.builtin "list.append") [acc,x]) (fun _ s₅=>∃m,m<n/\I m s₅) (notedBy (model prog w) A env fun e s'=>R (.error e) s') s₄) (notedBy (model prog w) A env fun e s'=>R (.error e) s') s₃
      else ∃m,m<n/\I m s₃) (notedBy (model prog w) A env fun e s'=>R (.error e) s') s₂) (notedBy (model prog w) A env fun e s'=>R (.error e) s') s₀) (notedBy (model prog w) A env fun e s'=>R (.error e) s') s₁) (notedBy (model prog w) A env fun e s'=>R (.error e) s') s)
  (n:Nat) (h:I n s):codeAny (model prog w) A (.compLoop (.ListComp elt [⟨target,iter,ifs,0⟩] scope pos) 0 it acc env) R s:=by
 refine codeAny_loop rfl I (fun n s hI=>?_) n h;show wpAny _ A ((compTurn (.ListComp elt [⟨target,iter,ifs,0⟩] scope pos) 0 it acc env).onRaise (fun x=>do noteFrame x env;theTreesLotGoes x)) _ _ s;refine wpAny_noted ?_;rw[compTurn_list];refine yaa (wpAny_standAt (yaa (ybg (turn n s hI) (fun r s₁ h₁=>?_) fun _ _ h'=>h')))
 cases r with
 |none=>exact yah h₁|some v=>
  refine yaa (ybg h₁ (fun _ s₀ h₀=>?_) fun _ _ h'=>h');refine yaa (ybg h₀ (fun _ s₂ h₂=>yaa (ybg h₂ (fun ok s₃ h₃=>?_) fun _ _ h'=>h')) fun _ _ h'=>h')
  cases ok with
  |false=>exact yah ⟨rfl,h₃⟩|true=>
   exact yaa (yaa (ybg h₃ (fun x s₄ h₄=>yaa (ybg h₄ (fun _ s₅ h₅=>yah (yah ⟨rfl,h₅⟩)) fun _ _ h'=>h')) fun _ _ h'=>h'))
end
theorem za3:∀(names:List (Str×NameKind)) (n:Nat) (acc:List (Str×Addr)),cellsFrom n names acc=cellsFrom n names []++acc
 |[],_,_=>rfl|(x,k)::r,n,acc=>by
  unfold cellsFrom;split
  ·rw[za3 r (n+1) ((x,n)::acc),za3 r (n+1) [(x,n)]];simp
  ·exact za3 r n acc
theorem zcu:∀(names:List (Str×NameKind)) (n:Nat) {x:Str}{c:Addr},(x,c)∈cellsFrom n names []->(x,NameKind.cell)∈names
 |[],_,_,_,h=>by cases h
 |(y,k)::r,n,x,c,h=>by
  unfold cellsFrom at h;split at h
  ·rename_i hk;rw[za3]at h
   rcases ybK.mp h with h|h
   ·exact yas _ (zcu r _ h)
   ·rw[yaO]at h;cases h;rw[ybQ.mp hk];exact yaz
  ·exact yas _ (zcu r _ h)
theorem zbO{α:Type}{x:Str}:∀{l m:List (Str×α)},(l++m).lookup x=(l.lookup x).or (m.lookup x)
 |[],m=>rfl|(y,a)::l,m=>by
  rw[List.cons_append,yax,yax]
  cases x==y with
  |true=>rfl|false=>exact zbO
theorem zbL:∀(names:List (Str×NameKind)) (n:Nat) {x:Str},(x,NameKind.cell)∈names->∃c,(cellsFrom n names []).lookup x=some c
 |[],_,_,h=>by cases h
 |(y,k)::r,n,x,h=>by
  unfold cellsFrom;split
  ·rename_i hk;rw[za3,zbO]
   rcases yav.mp h with e|h
   ·cases e
    cases hq:(cellsFrom (n+1) r []).lookup y with
    |some c=>exact⟨c,rfl⟩|none=>exact⟨n,by simp[yax]⟩
   ·obtain⟨c,e⟩:=zbL r (n+1) h;rw[e];exact⟨c,rfl⟩
  ·rename_i hk
   rcases yav.mp h with e|h
   ·cases e;exact absurd rfl hk
   ·exact zbL r n h
def zb6{M:Model}{A:Around}{E:Z5}{s:Shared}{scope:Scope}{globals:Addr}{closure:List (Str×Addr)}{qual:Str}{func:Option Addr}{code:Value}{outer:Env}{builtins:Addr}{Q:Env->Shared->Prop}
  (hQ:∀h',h'.Ns s.heap.objs.size (fun _=>none)->(∀b o,s.heap.get? b=some o->h'.get? b=some o)->CellsOk h' (s.heap.objs.size+1) (cellsFrom (s.heap.objs.size+1) scope.names []) →
   Q (newEnv scope s.heap.objs.size globals (cellsFrom (s.heap.objs.size+1) scope.names []++closure) qual func code (some outer) builtins) {s with heap:=h'}):
  wpAny M A (newFunctionEnv scope globals closure [] qual func code (some outer) builtins) Q E s:=by
 simp only[newFunctionEnv,Option.isSome_some,yci];refine yaa (wpAny_alloc ?_);refine yaa (wpAny_layCells _ (fun name kind cells=>by cases hkc:kind==NameKind.cell<;>simp[hkc]) _ _ _ _ ?_);have ok:=cellsFrom_ok scope.names (s.heap.push {cls:=.type "dict",data:=.dict #[]}) (s.heap.objs.size+1) [] ⟨fun _ _ hm=>(nomatch hm),List.Pairwise.nil⟩ (by rw[ya6];exact yal _);rw[ya6]at ok;rw[show({s with heap:=s.heap.push {cls:=.type "dict",data:=.dict #[]}}:Shared).heap.objs.size=s.heap.objs.size+1 from ya6 ..];rw[za3];simp only[List.forIn_nil];refine yaa (yah (yah ?_));exact hQ _ ((Heap.Ns.new s.heap (.type "dict")).keeps (pushCells_keeps _ _)) (fun b o e=>pushCells_keeps _ _ b o (yag _ e)) ok
structure CompScopeG(sc scope:Scope)(N:List Str)(xs:List Str)(caps:List (Str×Nat)):Prop where
 nd:(scope.names.map (·.1)).Nodup
 kind:scope.kind=.function
 names:∀y∈scope.names,y.2=.local->scope.names.lookup y.1=some .local
 free:∀y∈scope.names,y.2=.free->sc.names.lookup y.1=some .cell\/sc.names.lookup y.1=some .free
 cap:∀p∈caps,N[p.2]?=some p.1/\(p.1,NameKind.free)∈scope.names/\sc.names.lookup p.1≠some .local
 uniq:∀p∈caps,∀z∈scope.names,z.1=p.1->z.2=.free
noncomputable def za8(X:Cx)(xs:List Str)(caps:List (Str×Nat))(scope:Scope)(cl:List (Str×Addr))(C:Addr)(s:Shared)(H:Hp)(ex:List Addr):Cx:=
 {X with N:=xs++caps.map (·.1),s₀:=s,H₀:=H,env:=compEnvC scope cl C X.env,outer:=X.stack,ex:=ex,fn:=fun x=>decide (scope.names.lookup x=some .cell),pn:=[],xe:=fun _ _=>False}
noncomputable abbrev capσ(σ:St)(n:Nat)(caps:List (Str×Nat)):St:=List.replicate n none++caps.map fun p=>(σ[p.2]?).join
noncomputable def zf9(wi:TI)(g:TG)(tt:TT)(te:TE)(n:Nat)(caps:List (Str×Nat)):TE:=fun σ H Q=>wi σ H fun J H1=>∃W:Nat->Nat->List V->St->Hp->Prop,(∃m,W 0 m [] (capσ σ n caps) H1)/\∀i m ys σ' H,W i m ys σ' H →
 ys.length<=sizeLine/\((J.stop i H/\∀p,H p=none->Q (.ref p) (upd H p (.lst ys))) ∨
 (J.go i H/\∀x H',J.yld i H x H'->g x σ' H' fun σ2 H2=>tt σ2 H2 fun ok H3=>if ok=true then te σ2 H3 fun y H4=>∃m',m'<m/\W (i+1) m' (ys++[y]) σ2 H4 else ∃m',m'<m/\W (i+1) m' ys σ2 H3))
section
variable{X:Cx}{elt iter tg:Expr}{xs:List Str}{pos:Pos}{ifs:List Expr}{scope:Scope}{caps:List (Str×Nat)}{wi:TI}{g:TG}{tt:TT}{te:TE}
structure OwnC(X:Cx)(scope:Scope)(lo:Nat)(h:Heap)(cl:List (Str×Addr)):Prop where
 sort:∀y c,cl.lookup y=some c->X.env.cells.lookup y=some c\/(h.IsCell c none/\lo<=c)
 inj:∀y z c,cl.lookup y=some c->cl.lookup z=some c->y=z
 has:∀y,((y,NameKind.free)∈scope.names\/(y,NameKind.cell)∈scope.names)->∃c,cl.lookup y=some c
 own:∀y c,scope.names.lookup y=some .cell->cl.lookup y=some c->lo<=c
 free:∀y,(y,NameKind.free)∈scope.names->∃c,cl.lookup y=some c/\X.env.cells.lookup y=some c
def zgk{scope:Scope}{env:Env}{y:Str}(h:(relabel scope env).names.lookup y=some .cell\/(relabel scope env).names.lookup y=some .free):(y,NameKind.free)∈scope.names\/(y,NameKind.cell)∈scope.names:=by
 have go:∀k,(relabel scope env).names.lookup y=some k->(k=.cell\/k=.free)->(y,NameKind.free)∈scope.names\/(y,NameKind.cell)∈scope.names:=fun k e hk=>by
  have hm:=yaG e;obtain⟨⟨n,k0⟩,hp,e2⟩:=yay.mp hm
  by_cases hq:(k0==.free&&env.scope.kind==.function&&env.kindOf n==some .cell)=true
  ·have e3:(n,NameKind.cell)=(y,k):=by rw[<-e2];show _=if _ then _ else _;rw[if_pos hq]
   cases e3
   have:k0=.free:=by simp only[yac]at hq;exact eq_of_beq hq.1.1
   subst this;exact .inl hp
  ·have e3:(n,k0)=(y,k):=by rw[<-e2];show _=if _ then _ else _;rw[if_neg hq]
   cases e3
   rcases hk with rfl|rfl
   ·exact .inr hp
   ·exact .inl hp
 rcases h with h|h
 ·exact go _ h (.inl rfl)
 ·exact go _ h (.inr rfl)
theorem zgv:∀{l:List (Str×NameKind)},(l.map (·.1)).Nodup->∀{x:Str}{a b:NameKind},(x,a)∈l->(x,b)∈l->a=b
 |[],_,_,_,_,h,_=>by cases h
 |p::l,nd,x,a,b,h,h'=>by
  rw[yaA,ya7]at nd
  rcases yav.mp h with h|h<;>rcases yav.mp h' with h'|h'
  ·rw[<-h']at h;exact(Prod.mk.inj h).2
  ·exact absurd (yay.mpr ⟨_,h',by rw[<-h]⟩) nd.1
  ·exact absurd (yay.mpr ⟨_,h,by rw[<-h']⟩) nd.1
  ·exact zgv nd.2 h h'
def zjX{X:Cx}{scope:Scope}{lo n:Nat}{h:Heap}{cl:List (Str×Addr)}(nd:(scope.names.map (·.1)).Nodup)(hn:lo<=n)(hinj:∀x y c,X.env.cells.lookup x=some c->X.env.cells.lookup y=some c->x=y)
  (hcl:∀y c,cl.lookup y=some c->X.env.cells.lookup y=some c) (hlo:∀y c,X.env.cells.lookup y=some c->c<lo) (hhas:∀y,(y,NameKind.free)∈scope.names->∃c,cl.lookup y=some c) (ok:CellsOk h n (cellsFrom n scope.names [])):
  OwnC X scope lo h (cellsFrom n scope.names []++cl):=by
 have sort:∀y c,(cellsFrom n scope.names []++cl).lookup y=some c->((cellsFrom n scope.names []).lookup y=some c)\/((cellsFrom n scope.names []).lookup y=none/\cl.lookup y=some c):=fun y c e=>by
  rw[zbO]at e
  cases hq:(cellsFrom n scope.names []).lookup y with
  |some c'=>rw[hq]at e;exact .inl e|none=>rw[hq]at e;exact .inr ⟨rfl,e⟩
 refine⟨fun y c e=>?_,fun y z c e e'=>?_,fun y hy=>?_,fun y c hy e=>?_,fun y hy=>?_⟩
 ·rcases sort y c e with z|⟨_,z⟩
  ·have:=ok.empty y c (yaG z);exact .inr ⟨this.1,yan hn this.2⟩
  ·exact .inl (hcl y c z)
 ·rcases sort y c e with a|⟨_,a⟩<;>rcases sort z c e' with b|⟨_,b⟩
  ·exact name_of_addr ok.apart (yaG a) (yaG b)
  ·have h1:=(ok.empty y c (yaG a)).2;have h2:=hlo z c (hcl z c b);exact absurd (yam h2 (yan hn h1)) (yaQ _)
  ·have h1:=(ok.empty z c (yaG b)).2;have h2:=hlo y c (hcl y c a);exact absurd (yam h2 (yan hn h1)) (yaQ _)
  ·exact hinj y z c (hcl y c a) (hcl z c b)
 ·rw[zbO]
  cases hq:(cellsFrom n scope.names []).lookup y with
  |some c=>exact⟨c,rfl⟩|none=>
   rcases hy with hy|hy
   ·exact hhas y hy
   ·obtain⟨c,e⟩:=zbL scope.names n hy;rw[hq]at e;cases e
 ·obtain⟨c',e'⟩:=zbL scope.names n (yaG hy);rw[zbO,e']at e;have:c'=c:=Option.some.inj e;subst this;exact yan hn (ok.empty y c' (yaG e')).2
 ·obtain⟨c,e⟩:=hhas y hy;refine⟨c,?_,hcl y c e⟩;rw[zbO]
  cases hq:(cellsFrom n scope.names []).lookup y with
  |some c'=>
   have:=zcu scope.names n (yaG hq);cases zgv nd hy this
  |none=>exact e
theorem zkK{pins:Z3}{σ:St}{H:Hp}{s s':Shared}{cl:List (Str×Addr)}{C:Addr}{fp:List Addr}(S:CompScopeG X.env.scope scope X.N xs caps)(hu:∀p∈caps,∀z∈scope.names,z.1=p.1->z.2=.free)
  (I:Inv X pins σ H s) (hcl:OwnC X scope s.heap.objs.size s'.heap cl)
  (hf:∀b∈fp,zk2 X pins H b) (hlt:∀b∈fp,b<s.heap.objs.size) (hC:s.heap.objs.size<=C) (ho:s'.os=s.os) (hg:s'.gens=s.gens) (hk:∀b o,s.heap.get? b=some o->s'.heap.get? b=some o) (hn:s'.heap.Ns C (fun _=>none)):
  Inv (za8 X xs caps scope cl C s H fp) [] (capσ σ xs.length caps) H s':=by
 have cellK:∀y c,cl.lookup y=some c->∃v,s'.heap.IsCell c v:=fun y c e=>by
  rcases hcl.sort y c e with z|z
  ·obtain⟨v,o,q,d⟩:=I.cell y c z;exact⟨v,o,hk _ _ q,d⟩
  ·exact⟨none,z.1⟩
 refine⟨⟨I.ok.mod,S.kind,I.ok.glob,I.ok.blt,hC,hcl.inj,fun y hy=>hcl.has y (zgk hy),fun y c z e=>hcl.own y c (yak z) e,I.ok.hd,I.ok.frames,.inl rfl,fun b hb=>⟨yaD (yam (hlt b hb) hC),fun y c e=>(hcl.sort y c e).elim (fun z=>(hf b hb).2.2.2.2.1 y c z) fun z=>ya0 (yam (hlt b hb) z.2)⟩,
  I.bs,yan I.ok.bsz I.sz,fun b o e hb=>?_,fun b hb hm=>?_,I.stack,I.stkFree⟩,ho,by rw[hg];exact I.bare,Un.kept hk,⟨_,hn,fun i y v h1 h2 h3=>?_⟩,fun y c e=>cellK y c e,I.hok.fresh hC,fun y c e=>(hcl.sort y c e).elim (I.freeC y c) fun z=>I.hok.fresh z.2,fun p hp=>absurd (show p∈([]:Z3)from hp) (by simp),I.hok.kept hk,?_⟩
 ·rcases(hf b hb).2.2.2.1 with z|z
  ·exact I.ok.noex b o e z
  ·exact absurd (yam (yaq e) (yan I.ok.bsz z)) (yaQ _)
 ·rcases yav.mp (I.stkSub b hm)with z|z
  ·exact(hf b hb).2.1 z
  ·exact(hf b hb).2.2.1 z
 ·have hi:¬ i<xs.length:=fun hi=>by
   have h2':(capσ σ xs.length caps)[i]?=some (some v):=h2;rw[yaC (by rw[yaH];exact hi),ybc]at h2'
   split at h2'<;>cases h2'
  ·have h1':(caps.map (·.1))[i-xs.length]?=some y:=by
    have h1':(xs++caps.map (·.1))[i]?=some y:=h1;rwa[yat (by omega)]at h1'
   rw[yar]at h1'
   have h2':(caps.map fun p=>(σ[p.2]?).join)[i-xs.length]?=some (some v):=by
    have h2':(capσ σ xs.length caps)[i]?=some (some v):=h2;rw[yat (by rw[yaH];omega),yaH]at h2';exact h2'
   rw[yar]at h2'
   cases hp:caps[i-xs.length]? with
   |none=>rw[hp]at h1';cases h1'|some p=>
    rw[hp]at h1' h2';have ey:p.1=y:=Option.some.inj h1';have ev:(σ[p.2]?).join=some v:=Option.some.inj h2';subst ey;have hmem:p∈caps:=ybl hp;obtain⟨c1,c2,c3⟩:=S.cap p hmem
    have eσ:σ[p.2]?=some (some v):=by
     cases q:σ[p.2]? with
     |none=>rw[q]at ev;cases ev|some w=>rw[q]at ev;have:w=some v:=ev;rw[this]
    have hfr:=S.free _ c2 rfl;have hv:Vis X.env.scope p.1:=hfr.elim (fun z=>.inr (.inl z)) (fun z=>.inr (.inr z));obtain⟨m,_,hl⟩:=I.loc;obtain⟨u,r,l⟩:=hl p.2 p.1 v c1 eσ hv;refine⟨u,r,.inr ⟨zdV (scope:=scope) (env:=X.env) c2 (hu p hmem),?_⟩⟩;obtain⟨c,ec,ec2⟩:=hcl.free p.1 c2;refine⟨c,ec,?_⟩
    rcases l with⟨z,_⟩|⟨_,c',ec',hcell⟩
    ·exact absurd z c3
    ·have:c'=c:=by rw[ec2]at ec';exact(Option.some.inj ec').symm
     subst this;obtain⟨o,q,d⟩:=hcell;exact⟨o,hk _ _ q,d⟩
 ·simp[za8,capσ]
theorem zgL{use:Option (Value->Sem Unit)}{Qf:Z5}{R:VK}{pins:Z3}{s:Shared}{σ:St}{H:Hp}(hc:X.calm=true)(S:CompScopeG X.env.scope scope X.N xs caps)(hi:PI X tg iter wi)(hg:∀cl C s H fp,PG (za8 X xs caps scope cl C s H fp) tg g)
  (ht:∀cl C s H fp,PIf (za8 X xs caps scope cl C s H fp) ifs tt) (he:∀cl C s H fp,PE (za8 X xs caps scope cl C s H fp) elt te)
  (hs:∀v,foldedSetIterable iter X.env v=pure v) (I:Inv X pins σ H s) (h:zf9 wi g tt te xs.length caps σ H R)
  (fin:∀(D C:Addr) (s4:Shared) (m4:Z6) (H6:Hp) (r:Flow),s4.heap.Ns C m4->(∀{σ':St}{H7:Hp}{s5:Shared}{h':Heap},Inv X pins σ' H7 s5->Heap.SameBut C s5.heap h'->H7 C=none->Inv X pins σ' H7 {s5 with heap:=h'})->H6 C=none->C≠X.env.locals->(∀y c,X.env.cells.lookup y=some c->C≠c)->Inv X pins σ H6 s4->R (.ref D) H6->compPost (model X.prog X.w) X.A X.xe use Qf (.ref D) C (.ok r) s4):
  wpAny (model X.prog X.w) X.A (comprehension (.ListComp elt [⟨tg,iter,ifs,0⟩] scope pos) scope X.env (firstIterPos [⟨tg,iter,ifs,0⟩] pos) (newList []) false (eval iter X.env) use) Qf X.xe s:=by
 obtain⟨cl,hclos,hcl,hhas⟩:=zi4 (scope:=scope) (env:=X.env) fun y hy hf=>I.ok.has y.1 (S.free y hy hf)
 refine wpAny_comprehension_free (use:=use) rfl hs hclos S.kind S.names (thn (hi pins s σ H _ I h) fun v s1 h1=>thn h1 fun itv s2 h2=>?_);obtain⟨it,fp,tn,J,H2,rfl,I2,T,st2,f2,W,⟨m0,w0⟩,turn⟩:=h2;refine ya9 (zb6 (fun h₁ hns₁ hsb₁ hok₁=>?_));dsimp only at hns₁ hsb₁ hok₁ ⊢;generalize hHp:s2.heap.push {cls:=.type "list",dict:=none,data:=.seq ([]:List Value).toArray}=Hq at hns₁ hsb₁ hok₁ ⊢
 have hCe:Hq.objs.size=s2.heap.objs.size+1:=by rw[<-hHp,ya6]
 have hDC:s2.heap.objs.size≠Hq.objs.size:=by rw[hCe];exact yaD (ybW _)
 have hC:s2.heap.objs.size<=Hq.objs.size:=by rw[hCe];exact ycd _
 have old:∀b o,s2.heap.get? b=some o->h₁.get? b=some o:=fun b o e=>hsb₁ b o (hHp ▸ yag _ e)
 have hacc:h₁.get? s2.heap.objs.size=some (lob [] 0):=hsb₁ _ _ (hHp ▸ yau _ rfl)
 have cellX:∀y c,X.env.cells.lookup y=some c->c<s2.heap.objs.size:=fun y c e=>by obtain⟨v,q⟩:=I2.cell y c e;exact q.lt
 have oc:=zjX (X:=X) (lo:=s2.heap.objs.size+1) S.nd (by rw[hCe];exact ycd _) I.ok.inj hcl (fun y c e=>Nat.lt_succ_of_lt (cellX y c e)) hhas hok₁;generalize hcl2:cellsFrom (Hq.objs.size+1) scope.names []++cl=cl2 at oc ⊢;have oc':OwnC X scope s2.heap.objs.size h₁ cl2:=⟨fun y c e=>(oc.sort y c e).imp id fun z=>⟨z.1,ycL z.2⟩,oc.inj,oc.has,fun y c a e=>ycL (oc.own y c a e),oc.free⟩
 have hlt:∀b∈fp,b<s2.heap.objs.size:=fun b hb=>by obtain⟨o,e,_⟩:=T.obj 0 _ st2 b hb;exact yaq e
 generalize hY:za8 X xs caps scope cl2 Hq.objs.size s2 H2 fp=Y;have PEY:PE Y elt te:=hY ▸ he cl2 _ s2 H2 fp;have PIY:PIf Y ifs tt:=hY ▸ ht cl2 _ s2 H2 fp;have PGY:PG Y tg g:=hY ▸ hg cl2 _ s2 H2 fp
 have I3:Inv Y [] (capσ σ xs.length caps) H2 {s2 with heap:=h₁}:=by
  rw[<-hY];exact zkK S S.uniq I2 oc' f2 hlt hC rfl rfl old hns₁
 have eYenv:Y.env=compEnvC scope cl2 Hq.objs.size X.env:=by rw[<-hY];rfl
 have eYloc:Y.env.locals=Hq.objs.size:=by rw[eYenv];rfl
 have eYfs:Y.fs=frs X.stack:=by rw[<-hY];rfl
 have eYprog:Y.prog=X.prog:=by rw[<-hY];rfl
 have eYw:Y.w=X.w:=by rw[<-hY];rfl
 have eYK:Y.K=X.K:=by rw[<-hY];rfl
 have eYA:Y.A=X.A:=by rw[<-hY];rfl
 have eYc:Y.calm=true:=by rw[<-hY];exact hc
 have eYex:Y.ex=fp:=by rw[<-hY];rfl
 have eYs:Y.s₀=s2:=by rw[<-hY];rfl
 have eYH:Y.H₀=H2:=by rw[<-hY];rfl
 have eYpn:Y.pn=[]:=by rw[<-hY];rfl
 have eYcell:∀y c,Y.env.cells.lookup y=some c->X.env.cells.lookup y=some c\/s2.heap.objs.size+1<=c:=fun y c e=>(oc.sort y c (by rwa[eYenv]at e)).imp id (·.2)
 have eYxe:∀e s',¬ Y.xe e s':=fun e s' z=>by rwa[<-hY]at z
 have stkX:∀b∈frs X.stack,b<s2.heap.objs.size:=fun b hb=>by
  rcases yav.mp (I2.stkSub b hb)with z|z
  ·rw[z];exact I2.lt
  ·refine Nat.not_le.mp fun hle=>I2.nofs hle z
 have pinX:∀p∈X.pn++pins,p.1<s2.heap.objs.size:=fun p hp=>yaq (I2.pin p hp).1
 have fpY:∀{H':Hp}{its:List Value}{k:Nat},(∀b∈fp,H' b=none)->∀b∈fp,zk2 Y [(s2.heap.objs.size,lob its k)] H' b:=fun {H' its k} hn b hb=>by
  refine⟨hn b hb,by rw[eYloc];exact yaD (yam (hlt b hb) hC),?_,.inl (by rw[eYex];exact hb),fun y c e=>(eYcell y c e).elim (fun z=>(f2 b hb).2.2.2.2.1 y c z) fun z=>ya0 (yam (hlt b hb) (ycL z)),fun p hp=>?_⟩
  ·rw[eYfs];intro hm
   rcases yav.mp (I2.stkSub b hm)with z|z
   ·exact(f2 b hb).2.1 z
   ·exact(f2 b hb).2.2.1 z
  ·rw[eYpn]at hp
   have e:p=(s2.heap.objs.size,lob its k):=by simpa using hp
   rw[e];exact ya0 (hlt b hb)
 have pinD:∀{H':Hp}{σ':St}{s':Shared}{its:List Value}{k:Nat},Inv Y [] σ' H' s'->s'.heap.get? s2.heap.objs.size=some (lob its k)->H' s2.heap.objs.size=none->Inv Y [(s2.heap.objs.size,lob its k)] σ' H' s':=fun {H' σ' s' its k} I' e n=>
  I'.pins_of fun p hp=>by
   have ep:p=(s2.heap.objs.size,lob its k):=by simpa using hp
   subst ep;refine⟨e,n,by rw[eYloc];exact hDC,?_,fun v z=>?_⟩
   ·rw[eYfs];exact fun hm=>yaQ _ (stkX _ hm)
   ·have z':Data.seq its.toArray k=Data.cell v:=z;cases z'
 have loop:codeAny (model X.prog X.w) X.A (.compLoop (.ListComp elt [⟨tg,iter,ifs,0⟩] scope pos) 0 (.ref it) (.ref s2.heap.objs.size) (compEnvC scope cl2 Hq.objs.size X.env))
   (compPost (model X.prog X.w) X.A X.xe use Qf (.ref s2.heap.objs.size) Hq.objs.size) {s2 with heap:=h₁}:=by
  refine zlV (fun n s'=>∃i σx H' ys its k,Inv Y [(s2.heap.objs.size,lob its k)] σx H' s'/\tn i s'.heap/\(∀b∈fp,H' b=none)/\Vals ys its/\W i n ys σx H') ?_ m0
   ⟨0,capσ σ xs.length caps,H2,[],[],0,pinD I3 hacc (I2.hok.fresh (yal _)),T.keep _ _ _ st2 fun b hb o e=>old b o e,fun b hb=>(f2 b hb).1,.nil,w0⟩
  rintro n s3 ⟨i,σx,H3,ys,its,k,J3,st3,fr3,rv,w3⟩;obtain⟨hz,hcase⟩:=turn i n ys σx H3 w3
  rcases hcase with⟨stop,q⟩|⟨go,step⟩
  ·have hd:=T.done Y eYprog eYw eYK eYc i _ s3 _ H3 (notedBy (model X.prog X.w) X.A (compEnvC scope cl2 Hq.objs.size X.env) fun e s'=>compPost (model X.prog X.w) X.A X.xe use Qf (.ref s2.heap.objs.size) Hq.objs.size (.error e) s') J3 (fpY fr3) st3 stop;rw[eYA]at hd;refine thn hd fun r s4 ⟨hr,J4⟩=>?_
   subst hr;obtain⟨m4,hn4,_⟩:=J4.loc
   have hn4':s4.heap.Ns Hq.objs.size m4:=by rw[<-eYloc];exact hn4
   have hnC:H3 Hq.objs.size=none:=by rw[<-eYloc];exact J4.free
   have hk5:HOk X.prog X.w H3 s4.heap:=by rw[<-eYprog,<-eYw];exact J4.hok
   have u5:Un (frs X.stack) fp H2 H3 s2.heap s4.heap:=by
    have ub:=J4.base;rwa[eYfs,eYex,eYH,eYs]at ub
   have J5:Inv X pins σ H3 s4:=I2.call' (s':=s4) (ch:=fp) (by have:=J4.os;rwa[eYs]at this) u5 hk5 J4.bare fun b hb=>⟨(f2 b hb).2.2.2.1,(f2 b hb).2.1,(f2 b hb).2.2.2.2.1,(f2 b hb).2.2.2.2.2⟩
   have hp4:=J4.pin (s2.heap.objs.size,lob its k) (yaF _ yaz);have hD5:s4.heap.get? s2.heap.objs.size=some (lob its k):=hp4.1;have J6:Inv X pins σ (upd H3 s2.heap.objs.size (.lst ys)) s4:=J5.track hp4.2.1 I2.sz (ya0 I2.lt) (fun y c e=>yaD (cellX y c e)) (fun p hp=>yaD (pinX p hp)) (show zbx X.prog X.w _ s4.heap _ (.lst ys)from⟨hz,its,k,rv,hD5⟩);have hCloc:Hq.objs.size≠X.env.locals:=ya0 (yam I2.lt hC);exact fin _ Hq.objs.size s4 m4 _ _ hn4' (fun {σ'}{H7}{s5}{h'} J sb' hn=>J.turned (t':=s5.toks) (it:=Hq.objs.size) (fun b o hb e=>(sb'.2 b hb).trans e) hn hCloc (.inr (yan I2.sz hC)) (fun y c e=>yaD (yam (cellX y c e) hC)) (fun p hp=>yaD (yam (pinX p hp) hC))) (by rw[zah (Ne.symm hDC)];exact hnC) hCloc (fun y c e=>ya0 (yam (cellX y c e) hC)) J6 (q _ hp4.2.1)
  ·have hd:=T.item Y eYprog eYw eYK eYc i _ s3 _ H3 (notedBy (model X.prog X.w) X.A (compEnvC scope cl2 Hq.objs.size X.env) fun e s'=>compPost (model X.prog X.w) X.A X.xe use Qf (.ref s2.heap.objs.size) Hq.objs.size (.error e) s') J3 (fpY fr3) st3 go;rw[eYA]at hd;refine thn hd fun r s4 ⟨u,hr,h4⟩=>?_
   subst hr;refine thn h4 fun _ s5 ⟨v4,H4,J4,r4,y4,st5,fr4⟩=>?_
   have J4':=J4.pinned (fp:=fp) (fpY fr4) (T.obj _ _ st5);have ha:=PGY _ s5 σx H4 v4 u _ J4' r4 (step v4 H4 y4);rw[eYprog,eYw,eYA,eYenv]at ha;refine ybg ha (fun _ s5' ⟨σ5,H5,J5',q5⟩=>?_) fun e s' z=>(eYxe _ _ z).elim
   have ht5:=PIY _ s5' σ5 H5 _ J5' q5;rw[eYprog,eYw,eYA,eYenv]at ht5;refine ybg ht5 (fun ok s6 ⟨H6,J6,q6⟩=>?_) fun e s' z=>(eYxe _ _ z).elim
   have back:∀{H7:Hp}{s7:Shared},Inv Y ([(s2.heap.objs.size,lob its k)]++zgr fp s5.heap) σ5 H7 s7->tn (i+1) s7.heap/\∀b∈fp,H7 b=none:=fun {H7 s7} J7=>
    ⟨T.keep _ _ _ st5 fun b hb o e=>(J7.pin (b,o) (yaF _ (yaF _ (zcW hb e)))).1,fun b hb=>by
     obtain⟨o,e,d⟩:=T.obj _ _ st5 b hb
     exact(J7.pin (b,o) (yaF _ (yaF _ (zcW hb e)))).2.1⟩
   cases ok with
   |false=>
    rw[if_neg ya5]at q6;rw[if_neg ya5];obtain⟨m',hm',w6⟩:=q6;exact⟨m',hm',i+1,σ5,H6,ys,its,k,J6.unpinned,(back J6).1,(back J6).2,rv,w6⟩
   |true=>
    rw[if_pos rfl]at q6;rw[if_pos rfl];have he6:=PEY _ s6 _ H6 _ J6 q6;rw[eYprog,eYw,eYA,eYenv]at he6;refine ybg he6 (fun u7 s7 ⟨v7,H7,J7,r7,m',hm',w7⟩=>?_) fun e s' z=>(eYxe _ _ z).elim
    obtain⟨st7,fr7⟩:=back J7;have hp7:=(J7.unpinned).pin (s2.heap.objs.size,lob its k) (yaF _ yaz);have hl:=rv.length;refine append_at (hsz:=by show its.toArray.size<=sizeLine;rw[yai];omega) hp7.1 fun h8 sb8 hD8=>?_
    have J7':Inv Y [] σ5 H7 s7:=J7.unpinned.pins_of fun p hp=>absurd hp (by simp)
    have J8:Inv Y [] σ5 H7 {s7 with heap:=h8}:=J7'.turned (t':=s7.toks) (it:=s2.heap.objs.size) (fun b o hb e=>(sb8.2 b hb).trans e) hp7.2.1 (by rw[eYloc];exact hDC) (.inr (by rw[eYs];exact yal _)) (fun y c e=>(eYcell y c e).elim (fun z=>yaD (cellX y c z)) fun z=>ya0 z) (fun p hp=>by rw[eYpn]at hp;simp at hp)
    have hD8':h8.get? s2.heap.objs.size=some (lob (its++[u7]) (k+1)):=by rw[hD8];simp[lob]
    exact⟨m',hm',i+1,σ5,H7,ys++[v7],its++[u7],k+1,pinD J8 hD8' hp7.2.1,T.keep _ _ _ st7 fun b hb o e=>(sb8.2 b (yaD (hlt b hb))).trans e,fr7,rv.append (.cons r7 .nil),w7⟩
 exact codeAny_compStart_list loop (T.self X.A 0 _ _ _ (T.keep _ _ _ st2 fun b hb o e=>old b o e) loop)
def zh1(hc:X.calm=true)(S:CompScopeG X.env.scope scope X.N xs caps)(hi:PI X tg iter wi)(hg:∀cl C s H fp,PG (za8 X xs caps scope cl C s H fp) tg g)
  (ht:∀cl C s H fp,PIf (za8 X xs caps scope cl C s H fp) ifs tt) (he:∀cl C s H fp,PE (za8 X xs caps scope cl C s H fp) elt te)
  (hs:autoParam (∀v,foldedSetIterable iter X.env v=pure v) yAU):PE X (.ListComp elt [⟨tg,iter,ifs,0⟩] scope pos) (zf9 wi g tt te xs.length caps):=by
 intro pins s σ H Q I h;rw[eval_ListComp];exact zgL (use:=none) hc S hi hg ht he hs I h fun D C s4 m4 H6 r hn tr hC _ _ J6 q=>⟨m4,hn,fun h5 sb=>⟨.ref D,H6,tr J6 sb hC,rfl,q⟩⟩
def zhX{k0:Nat}{y0:Str}{py spos:Pos}(hc:X.calm=true)(S:CompScopeG X.env.scope scope X.N xs caps)(hN0:X.N.Nodup)(hi0:X.N[k0]?=some y0)(hx0:Loc X.env.scope y0)(hi:PI X tg iter wi)(hg:∀cl C s H fp,PG (za8 X xs caps scope cl C s H fp) tg g)
  (ht:∀cl C s H fp,PIf (za8 X xs caps scope cl C s H fp) ifs tt) (he:∀cl C s H fp,PE (za8 X xs caps scope cl C s H fp) elt te)
  (hsw:swapsWith (.ListComp elt [⟨tg,iter,ifs,0⟩] scope pos) (some (.Name y0 py)) spos.line X.env=pure true)
  (hf0:X.fn y0=true\/X.env.scope.names.lookup y0=some .local)
  (hs:∀v,foldedSetIterable iter X.env v=pure v):PS X (.Assign [.Name y0 py] (.ListComp elt [⟨tg,iter,ifs,0⟩] scope pos) spos) (zmB (zf9 wi g tt te xs.length caps) (zhq k0)):=by
 intro pins s σ H DD I h;rw[exec_Assign_Name_used _ _ _ _ hsw];refine yaa (wpAny_standAt (yaa ?_));show wpAny _ X.A (do let _ ← comprehension (.ListComp elt [⟨tg,iter,ifs,0⟩] scope pos) scope X.env _ (newList []) false (eval iter X.env) (some (assign (.Name y0 py) X.env))) _ _ s;refine yaa (ybg (zgL (use:=some (assign (.Name y0 py) X.env)) (Qf:=fun _ s'=>SP X pins DD .next s') hc S hi hg ht he hs I h fun D C s4 m4 H6 r hn tr hC hl hce J6 q=>?_) (fun _ s' hq=>yah (yah hq)) fun _ _ e=>e);show wpAny _ X.A (assign (.Name y0 py) X.env (.ref D)) _ X.xe s4;refine wpAny_assign_Name (zgb (i:=k0) J6 hN0 hi0 hx0 (v:=.ref D) rfl (fun s5 J7 ⟨a,sb,ha⟩=>?_) hf0);have haC:C≠a:=ha.elim (fun z=>by rw[z];exact hl) fun z=>hce _ _ z
 exact⟨m4,hn.sameBut sb haC,fun h' sb'=>⟨_,_,tr J7 sb' hC,q⟩⟩
end
end L2
namespace ST
open PySem PySem.SetTable
open PySem PySem.Spec PyProof.Rows
end ST
namespace PySem
end PySem
namespace L2
open PySem PySem.Spec PyProof.Rows
section
variable{X:Cx}{a b c:Expr}{ta tb tc:TE}{pos:Pos}
def zhB:zdT X (.builtin "isinstance") (fun xs H Q=>∃x t c k,xs=[x,.ty c]/\TyOf X.K H x t/\PySem.W.kitOne X.K t (.type c)=some k/\Q (.bl k) H):=by
 intro pins s σ H xs us Q I r h;obtain⟨x,t,c,k,rfl,ty,e,q⟩:=h
 cases r with
 |cons r1 rr=>
  cases rr with
  |cons r2 r3=>
   cases r3;cases (show _=Value.type c from r2);exact zko I r1 ty e fun tk=>⟨.bl k,H,I.tok tk,rfl,q⟩
def zlN:OpR X (binaryOp .Add) (fun x y H Q=>∃(a b:Addr) (ys:List V),x=.ref a/\y=.ref b/\SqT X.K H a []/\SqT X.K H b ys/\Q (.ref b) H):=by
 intro pins s σ H x y v u Q I rx ry h;obtain⟨a,b,ys,rfl,rfl,ha,hb,q⟩:=h;cases rx;cases ry;obtain⟨its,r1,p1,_⟩:=I.tuple ha;obtain⟨its2,r2,p2,_⟩:=I.tuple hb;cases r1;obtain⟨⟨cls,dd,data,sl⟩,ho,hc,n,hd⟩:=id p1;obtain⟨⟨cls2,dd2,data2,sl2⟩,ho2,hc2,n2,hd2⟩:=id p2;simp only at hc hd hc2 hd2;subst hc hd hc2 hd2
 exact concat_meets ⟨_,ho,rfl⟩ ⟨_,ho2,rfl⟩ noFill_tuple_add seq_tuple_add yb9 yb2 (ybX _ _)
  (tuple_addW0 a b ([]:List Value).toArray its2.toArray n n2 dd dd2 sl sl2 (by rfl)) ⟨ho,ho2,⟨.ref b,H,I,rfl,q⟩⟩
end
end L2
namespace PySem
open PySem.Spec PyProof.Rows
theorem zc4:fillsNumberSlot (.type "tuple") "mul"=pure false:=
 fillsNumberSlot_seq (id:="tuple.__mul__") (r:=some (.builtin "tuple.__rmul__")) ycj.lookup (by decide +kernel) F.slot_tuple_rmul.lookup (by decide +kernel)
theorem ze8:seqRepeat? (.type "tuple")=pure (some (.builtin "tuple.__mul__")):=by
 have e1:=seqSlot_of (T:="tuple") (name:="__mul__") (id:="tuple.__mul__") ycj.lookup (by decide +kernel);have e2:=seqSlot_of (T:="tuple") (name:="__rmul__") (id:="tuple.__rmul__") F.slot_tuple_rmul.lookup (by decide +kernel);unfold seqRepeat?;rw[e1,e2];rfl
def zd0(a:Int)(t:Tok)(l:Addr)(o:Obj){its:Array Value}{n:Nat}(hc:o.cls=.type "tuple")(hdd:o.data=.seq its n):
  Meets (Builtin.«int.__rmul__» ⟨[.int a t,.ref l],[]⟩) (fun _ R s=>s.heap.get? l=some o/\R (.ok (.ret Value.notImplemented)) s):=
 .of_wp fun prog w A R s h=>by
  obtain⟨c,d,dt,sl⟩:=o;simp only at hc hdd;subst hc hdd;obtain⟨hp,g,dr,tk,os⟩:=s;obtain⟨hl,h⟩:=h
  wp_walk
  exact⟨_,rfl,h⟩
section
variable{prog:Program}{w:World}{A:Around}{E:Z5}{s:Shared}
theorem zf7{a:Addr}{o:Obj}{its:Array Value}{n:Nat}{k:Int}{t:Tok}{P:Fin->Shared->Prop}(ho:s.heap.get? a=some o)(hc:o.cls=.type "tuple")(hd:o.data=.seq its n)(hne:its.isEmpty=false)(h2:2<=k)(hz:(its.size:Int)*k<=1000000)(hk:k<=1000)
  (h:P (.done (.ret (.ref s.heap.objs.size))) {s with heap:=s.heap.push {cls:=.type "tuple",data:=.seq ((List.replicate k.toNat its).foldl (·++·) #[])}}) (hsz:((List.replicate k.toNat its).foldl (·++·) #[]).size<=sizeLine):
  wpAny (model prog w) A (Builtin.«tuple.__mul__» ⟨[.ref a,.int k t],[]⟩) P E s:=by
 show wpAny _ _ (asIndex (.int k t) >>= _) _ _ s;refine yaa ?_;unfold asIndex;refine yaa (yah ?_);dsimp only;refine yah ?_
 have e0:(decide (k < -(2 ^ 63))||decide (k ≥ 2 ^ 63))=false:=by
  rw[Bool.or_eq_false_iff];refine⟨yaN ?_,yaN ?_⟩
  ·omega
  ·omega
 rw[e0];simp only[yaP,ybJ];refine yaa (ycD ho hd ?_)
 have e1:(its.isEmpty||k==1)=false:=by rw[hne,Bool.false_or];simp;omega
 rw[e1];simp only[yaP,ybJ]
 have e2:(decide (k<=0)||its.isEmpty)=false:=by rw[hne,Bool.or_false];exact yaN (by omega)
 rw[e2];simp only[yaP,ybJ];rw[if_neg (by omega)]
 have e3:Builtin.Tuple.tupleTooMany (its.size*k)=false:=by
  unfold Builtin.Tuple.tupleTooMany;refine yaN ?_
  have:(1000000:Int)<=(sizeLine:Int):=by decide
  omega
 rw[e3];simp only[yaP,ybJ];unfold Builtin.Tuple.tupleExact;exact yaa (ya9 (yah h) hsz)
def zf6{a:Addr}{o:Obj}{its:Array Value}{n:Nat}{t:Tok}{P:Fin->Shared->Prop}(ho:s.heap.get? a=some o)(hc:o.cls=.type "tuple")(hd:o.data=.seq its n)(h:P (.done (.ret (.ref a))) s):
  wpAny (model prog w) A (Builtin.«tuple.__mul__» ⟨[.ref a,.int 1 t],[]⟩) P E s:=by
 show wpAny _ _ (asIndex (.int 1 t) >>= _) _ _ s;refine yaa ?_;unfold asIndex;refine yaa (yah ?_);dsimp only;refine yah ?_
 have e0:(decide ((1:Int) < -(2 ^ 63))||decide ((1:Int) ≥ 2 ^ 63))=false:=by decide
 rw[e0];simp only[yaP,ybJ];refine yaa (ycD ho hd ?_)
 have e1:(its.isEmpty||(1:Int)==1)=true:=by simp
 rw[e1];simp only[yci];unfold Builtin.Tuple.tupleIsExact;refine yaa (yaa (wpAny_typeOf (T:="tuple") ⟨o,ho,hc⟩ (yah ?_)));simp only[ybt,yci];exact yaa (ycM (yah h))
def zoa{a:Addr}{o:Obj}{its:Array Value}{n:Nat}{k:Int}{t:Tok}{Q:Z5}(ho:s.heap.get? a=some o)(hc:o.cls=.type "tuple")(hd:o.data=.seq its n)(hne:its.isEmpty=false)(h2:2<=k)(hz:(its.size:Int)*k<=1000000)(hk:k<=1000)
  (h:Q (.ref s.heap.objs.size) {s with heap:=s.heap.push {cls:=.type "tuple",data:=.seq ((List.replicate k.toNat its).foldl (·++·) #[])}}) (hsz:((List.replicate k.toNat its).foldl (·++·) #[]).size<=sizeLine):
  wpAny (model prog w) A (binaryOp .Mult (.ref a) (.int k t)) Q E s:=by
 have hT:s.TypeIs (.ref a) "tuple":=⟨o,ho,hc⟩
 refine ybT (T:="tuple") (U:="int") (by decide) hT (fun s'=>yct s' k t) zc4 F.fills_int_mul ybM ze8 F.slot_int_index.lookup
  (ycc ybM (yct s k t) F.entry_int_rmul (ycK _ _) (zd0 k t a o hc hd) ⟨ho,rfl,hT,?_⟩)
 exact ybd ycj hT F.entry_tuple_mul (zf7 ho hc hd hne h2 hz hk ⟨_,rfl,h⟩ hsz) (F.args_tuple_mul_2 _ _)
def zlQ{a:Addr}{o:Obj}{its:Array Value}{n:Nat}{t:Tok}{Q:Z5}(ho:s.heap.get? a=some o)(hc:o.cls=.type "tuple")(hd:o.data=.seq its n)(h:Q (.ref a) s):wpAny (model prog w) A (binaryOp .Mult (.ref a) (.int 1 t)) Q E s:=by
 have hT:s.TypeIs (.ref a) "tuple":=⟨o,ho,hc⟩
 refine ybT (T:="tuple") (U:="int") (by decide) hT (fun s'=>yct s' 1 t) zc4 F.fills_int_mul ybM ze8 F.slot_int_index.lookup
  (ycc ybM (yct s 1 t) F.entry_int_rmul (ycK _ _) (zd0 1 t a o hc hd) ⟨ho,rfl,hT,?_⟩)
 exact ybd ycj hT F.entry_tuple_mul (zf6 ho hc hd ⟨_,rfl,h⟩) (F.args_tuple_mul_2 _ _)
end
end PySem
namespace L2
open PySem PySem.Spec PyProof.Rows
inductive D where
 |non|bl (b:Bool)|int (i:Int)|str (x:Str)|tup (l:List D)|lst (l:List D)
section
variable{X:Cx}
theorem zn1:OpR X (binaryOp .Mult) (fun x y H Q=>∃(p:Addr) (k:Int) (xs:List V),x=.ref p/\y=.int k/\SqT X.K H p xs/\xs≠[]/\2<=k/\k<=1000/\xs.length<=1000/\∀l,H l=none->Q (.ref l) (upd H l (.tup (List.replicate k.toNat xs).flatten))):=by
 intro pins s σ H x y v u Q I rx ry h;obtain⟨p,k,xs,rfl,rfl,hq,hne,h2,hk,hx,q⟩:=h;cases rx;obtain⟨t,rfl⟩:=ry;obtain⟨its,rv,⟨o,ho,hc,n,hd⟩,_⟩:=I.tuple hq;have hl:=rv.length
 have hnew:(List.replicate k.toNat its.toArray).foldl (·++·) #[]=(List.replicate k.toNat its).flatten.toArray:=by
  have:=zeJ its k.toNat [];rwa[List.nil_append]at this
 have hsz:(List.replicate k.toNat its).flatten.length<=1000000:=by
  rw[zhm];exact yan (ybU (show k.toNat<=1000 by omega) (show its.length<=1000 by omega)) (by decide)
 have hline:(1000000:Nat)<=sizeLine:=by decide
 refine zoa ho hc hd ?_ h2 ?_ hk ?_ ?_
 ·have:its≠[]:=fun z=>hne (by cases xs with|nil=>rfl|cons a r=>rw[z]at hl;cases hl)
  simpa using this
 ·rw[yai];have:=Int.mul_le_mul (show(its.length:Int)<=1000 by omega) hk (by omega) (by omega);omega
 ·rw[hnew];refine⟨.ref s.heap.objs.size,_,I.laid (t':=s.toks) (o:=.tup (List.replicate k.toNat xs).flatten) (fun b ob q=>yag _ q) (yal _) ?_,rfl,q _ (I.hok.fresh (yal _))⟩;refine⟨?_,_,rv.rep k.toNat,IsTup.new _ _⟩;rw[zhm]at hsz ⊢;rw[<-hl]at hsz;omega
 ·rw[hnew,yai];omega
end
end L2
namespace HT
open PySem PySem.Spec PyProof.Rows L2
section
variable{prog:Program}{w:World}{A:Around}{E:Z5}{s:Shared}
def zdQ{t sl:Addr}{items:Array Value}{vl vu:Value}{lo hi:Option Int}{Q:Z5}(ht:IsTup s.heap t items)(hs:s.heap.IsSliceOf sl vl vu .none)(pl:IsPart vl lo)(pu:IsPart vu hi)
  (h1:sIx items.size 0 lo=0) (h2:sIx items.size items.size hi=items.size) (h:Q (.ref t) s):wpAny (model prog w) A (getItem (.ref t) (.ref sl)) Q E s:=by
 obtain⟨os,hos,hcs,hds⟩:=id hs;have hTs:s.TypeIs (.ref sl) "slice":=⟨os,hos,hcs⟩;unfold getItem
 try with_reducible refine ybP ?_
 first|refine yaa (yah ?_)|skip
 refine yaa (wpAny_sequenceKey ht.typeIs (by decide) ?_)
 refine yaa (ya4 (name:=Str.ofString "__getitem__") ht.typeIs yaR
  (ybd yaR ht.typeIs entry_tuple_getitem ?_ (args_tuple_getitem _ _)))
 show wpAny _ _ (Builtin.Tuple.tupleItemsOf (.ref t) >>= _) _ _ s;refine yaa (tupleItemsOf_ ht ?_);refine yaa (wpAny_typeOf hTs ?_);rw[if_pos (by decide)];refine yaa (zcw hs pl pu ?_);rw[h1,h2];show wpAny _ _ (if((((0:Nat):Int)==0&&(1:Int)==1&&(items.size-0)==items.size)=true)then _ else _) _ _ s;rw[if_pos (by simp)];unfold Builtin.Tuple.tupleIsExact;refine yaa (yaa (wpAny_typeOf ht.typeIs (yah ?_)));simp only[ybt,yci];refine yaa (ycM ?_)
 first
  |exact yah ⟨_,rfl,yah h⟩
  |exact yaa (yah (yah ⟨_,rfl,yah h⟩))
end
end HT
namespace L2
open PySem PySem.Spec PyProof.Rows
def ziF{X:Cx}:SlR X (fun x lo hi H Q=>∃(a:Addr) (xs:List V),x=.ref a/\SqT X.K H a xs/\HT.sIx xs.length 0 lo=0/\HT.sIx xs.length xs.length hi=xs.length/\Q (.ref a) H):=by
 intro pins s σ H x v vl vu lo hi sl Q I rx hs pl pu h;obtain⟨a,xs,rfl,hx,h1,h2,q⟩:=h;cases rx;obtain⟨its,r,ht,hz⟩:=I.tuple hx
 have hlen:its.toArray.size=xs.length:=by rw[yai];exact r.length.symm
 refine⟨"tuple",_,yaR.lookup,ht.typeIs,?_⟩;exact HT.zdQ ht hs pl pu (by rw[hlen];exact h1) (by rw[hlen];exact h2) ⟨.ref a,H,I,rfl,q⟩
mutual
noncomputable def D.py:D->PyData
 |.non=>.none|.bl b=>.bool b|.int i=>.int i|.str x=>.str x|.tup l=>.tuple (D.pys l)|.lst l=>.list (D.pys l)
noncomputable def D.pys:List D->List PyData
 |[]=>[]|d::l=>d.py::D.pys l
end
mutual
noncomputable def D.fit:Nat->D->Bool
 |_,.non=>true|_,.bl _=>false|_,.int _=>true|_,.str x=>PyData.strOk x|0,.tup _=>false|n+1,.tup l=>D.fits n l|0,.lst _=>false|n+1,.lst l=>D.fits n l
noncomputable def D.fits:Nat->List D->Bool
 |_,[]=>true|n,d::l=>d.fit n&&D.fits n l
end
theorem D.fits_iff{n:Nat}:∀{l:List D},D.fits n l=true↔∀d∈l,d.fit n=true
 |[]=>by simp[D.fits]
 |d::l=>by simp[D.fits,D.fits_iff (l:=l)]
mutual
theorem D.lay:∀{n:Nat}{d:D},d.fit n=true->d.py.canLay0=true/\d.py.depth<=n
 |_,.non,_=>⟨rfl,ybh _⟩|_,.bl _,h=>by simp[D.fit]at h
 |_,.int _,_=>⟨rfl,ybh _⟩|_,.str x,h=>⟨by simpa[D.fit,D.py,PyData.canLay0]using h,ybh _⟩
 |0,.tup _,h=>by simp[D.fit]at h
 |0,.lst _,h=>by simp[D.fit]at h
 |n+1,.tup l,h=>by
  have h':D.fits n l=true:=by simpa[D.fit]using h
  obtain⟨a,b⟩:=D.lays h';exact⟨by simpa[D.py,PyData.canLay0]using a,by simp only[D.py,PyData.depth];omega⟩
 |n+1,.lst l,h=>by
  have h':D.fits n l=true:=by simpa[D.fit]using h
  obtain⟨a,b⟩:=D.lays h';exact⟨by simpa[D.py,PyData.canLay0]using a,by simp only[D.py,PyData.depth];omega⟩
theorem D.lays:∀{n:Nat}{l:List D},D.fits n l=true->PyData.canLayAll0 (D.pys l)=true/\PyData.depthAll (D.pys l)<=n
 |_,[],_=>⟨rfl,ybh _⟩|n,d::l,h=>by
  simp only[D.fits,yac]at h;obtain⟨a,b⟩:=D.lay h.1;obtain⟨c,e⟩:=D.lays h.2;exact⟨by simp[D.pys,PyData.canLayAll0,a,c],by simp only[D.pys,PyData.depthAll];omega⟩
end
section
variable{X:Cx}
def zhg{h:Heap}{v:Value}{d:PyData}{as:List Addr}(hl:d.canLay0=true)(r:Reads h v d as):SeqAt.readOf h v=d:=by
 have hx:∃d as,Reads h v d as:=⟨d,as,r⟩;unfold SeqAt.readOf;rw[dif_pos hx];obtain⟨bs,rb⟩:=hx.choose_spec;exact(SeqAt.Reads.unique _ _ _ _ _ hl r rb).symm
end
noncomputable def zj0:Option Int->Value->Bool
 |none,.none=>true|some i,v=>Value.isInt i v|_,_=>false
theorem zaZ:∀{k:Option Int}{v:Value},zj0 k v=true->(k=none/\v=.none)\/∃i t,k=some i/\v=.int i t
 |none,v,h=>by
  cases v<;>simp[zj0]at h
  exact .inl ⟨rfl,rfl⟩
 |some i,v,h=>by
  obtain⟨t,e⟩:=Value.isInt_shape (k:=i) (v:=v) (by simpa[zj0]using h);exact .inr ⟨i,t,rfl,e⟩
noncomputable def zh5:Int:=reduceHash 0xFCA86420
def zkv{prog:Program}{w:World}{A:Around}{E:Z5}{s:Shared}{Q:Int->Shared->Prop}(h:Q zh5 {s with toks:=s.toks+1}):wpAny (model prog w) A (pyHash .none) Q E s:=
 PySem.W.pyHash_slot (T:="NoneType") rfl F.slot_NoneType_hash F.entry_NoneType_hash (F.args_NoneType_hash_1 _) (beq_builtin_none _) (.inl rfl) (yaa (yah (yaa (wpAny_mkInt (yah ⟨_,_,rfl,h⟩)))))
def zdM(prog:Program)(w:World):KeyKind prog w (Option Int)where
 is:=zj0
 hash:=fun k=>match k with|none=>zh5|some i=>hashInt i
 inj:=fun v a b ha hb=>by
  rcases zaZ ha with⟨rfl,rfl⟩|⟨i,t,rfl,rfl⟩<;>rcases zaZ hb with⟨rfl,e⟩|⟨j,u,rfl,e⟩<;>cases e<;>rfl
 byValue:=fun k v h=>by
  rcases zaZ h with⟨rfl,rfl⟩|⟨i,t,rfl,rfl⟩<;>rfl
 pyHash:=fun {A E s k v Q} h hq=>by
  rcases zaZ h with⟨rfl,rfl⟩|⟨i,t,rfl,rfl⟩
  ·exact zkv hq
  ·exact wpAny_pyHash_int hq
 eqBool:=fun {A E s a b u v Q} ha hb hq=>by
  rcases zaZ ha with⟨rfl,rfl⟩|⟨i,t,rfl,rfl⟩<;>rcases zaZ hb with⟨rfl,rfl⟩|⟨j,u,rfl,rfl⟩
  ·unfold PySem.eqBool;refine ybP ?_;refine wpAny_ite_split (fun _=>yaa (ycM (yah (by simpa using hq)))) (fun z=>absurd rfl z)
  ·exact SeqAt.EqAt.none_int j u prog w E Q (by simpa using hq)
  ·exact SeqAt.EqAt.int_none i t prog w E Q (by simpa using hq)
  ·refine SeqAt.EqAt.int_int i t j u prog w E Q ?_
   have e:decide (some i=some j)=(i==j):=by
    rw[ybA];simp
   rw[<-e];exact hq
 «strs»:=fun k x t v h=>by
  rcases zaZ h with⟨_,e⟩|⟨i,u,_,e⟩<;>cases e
noncomputable abbrev NK:=Int×List (Option Int)
noncomputable def zdL:Option Int->PyData|none=>.none|some i=>.int i
noncomputable def zdF(prog:Program)(w:World)(h:Heap)(k:NK)(a:Addr):Prop:=∃o items n t b,h.get? a=some o/\o.cls=.type "tuple" /\ o.data=.seq items n/\items.toList=[.int k.1 t,.ref b]/\IsTupleKey (zdM prog w) h k.2 b
section
variable{prog:Program}{w:World}{A:Around}{E:Z5}{s:Shared}
def zlP(prog:Program)(w:World)(k:NK):Int:=reduceHash (Builtin.Tuple.tupleHashOf [hashInt k.1,tupleKeyHash (zdM prog w) k.2])
def zdF.typeIs{k:NK}{a:Addr}(x:zdF prog w s.heap k a):s.TypeIs (.ref a) "tuple":=let ⟨o,_,_,_,_,ho,hc,_⟩:=x;⟨o,ho,hc⟩
theorem zda{h:Heap}:∀{l:Z4}{vs:List Value},ItemsAre (zdM prog w) l vs->ReadsAll h vs (l.map zdL) []
 |_,_,.nil=>.nil|_,_,.cons h1 r=>by
  rcases zaZ h1 with⟨rfl,rfl⟩|⟨i,t,rfl,rfl⟩
  ·exact .cons (as:=[]) (bs:=[]) .none (zda r)
  ·exact .cons (as:=[]) (bs:=[]) (.int i t) (zda r)
def zdF.reads{h:Heap}{k:NK}{a:Addr}(x:zdF prog w h k a):Reads h (.ref a) (.tuple [.int k.1,.tuple (k.2.map zdL)]) []:=by
 obtain⟨o,items,n,t,b,ho,hc,hd,hi,ob,its,m,hob,hcb,hdb,hib⟩:=x;refine .tuple ho hc hd ?_;rw[hi];exact .cons (as:=[]) (bs:=[]) (.int _ _) (.cons (as:=[]) (bs:=[]) (.tuple hob hcb hdb (zda hib)) .nil)
theorem zgt:∀{l m:Z4},PyData.eqvAll (l.map zdL) (m.map zdL)=decide (l=m)
 |[],[]=>by simp[PyData.eqvAll]
 |[],_::_=>by simp[PyData.eqvAll]
 |_::_,[]=>by simp[PyData.eqvAll]
 |x::l,y::m=>by
  have ih:=zgt (l:=l) (m:=m);simp only[yaA,PyData.eqvAll,ih]
  cases x<;>cases y<;>simp[zdL,PyData.eqv]
  rw[ybA];simp
theorem zee:∀{l:Z4},PyData.canLayAll0 (l.map zdL)=true/\PyData.depthAll (l.map zdL)=0
 |[]=>⟨rfl,rfl⟩|x::l=>by
  obtain⟨a,b⟩:=zee (l:=l)
  cases x<;>simp[zdL,PyData.canLayAll0,PyData.depthAll,PyData.canLay0,PyData.depth,a,b]
def zdu(prog:Program)(w:World):HeapKind prog w NK where
 is:=zdF prog w
 hash:=zlP prog w
 draws:=fun k=>1+(k.2.length+1)+1
 room:=fun A=>A.units+8<cLine
 inj:=fun {h a x y} hx hy=>by
  obtain⟨o,items,n,t,b,ho,hc,hd,hi,kx⟩:=hx;obtain⟨o',items',n',t',b',ho',hc',hd',hi',ky⟩:=hy;rw[ho]at ho';cases ho';rw[hd]at hd';cases hd';rw[hi]at hi';simp only[List.cons.injEq,Value.int.injEq,Value.ref.injEq,and_true]at hi';obtain⟨⟨e1,_⟩,e2⟩:=hi';subst e2;exact Prod.ext e1 (kx.inj ky)
 keeps:=fun {h h' k a d o es ep} x ho hd hs=>by
  obtain⟨o1,items,n,t,b,ho1,hc,hd1,hi,kx⟩:=x;refine⟨o1,items,n,t,b,(hs.2 a ?_).trans ho1,hc,hd1,hi,kx.keeps ho hd hs⟩;rintro rfl;rw[ho]at ho1;cases ho1;rw[hd]at hd1;cases hd1
 pyHash:=fun {A E s k a Q} hu x hq=>by
  have hT:=zdF.typeIs (prog:=prog) (w:=w) x;obtain⟨o,items,n,t,b,ho,hc,hd,hi,kx⟩:=x;refine PySem.W.pyHash_slot (T:="tuple") hT F.slot_tuple_hash F.entry_tuple_hash (F.args_tuple_hash_1 _) (beq_builtin_none _) (.inr (by omega)) ?_;show wpAny _ _ (Builtin.Tuple.tupleItemsOf (.ref a) >>= _) _ _ s;refine yaa (ycD ho hd ?_);refine yaa ?_;rw[<-ycE,hi];refine wpAny_forIn_list _ (fun zbF (r:Array Int) s'=>(zbF=[.int k.1 t,.ref b]/\r.toList=[]/\s'=s)\/(zbF=[.ref b]/\r.toList=[hashInt k.1]/\s'={s with toks:=s.toks+1})\/(zbF=[]/\r.toList=[hashInt k.1,tupleKeyHash (zdM prog w) k.2]/\s'={s with toks:=s.toks+1+(k.2.length+1)})) _ ?_ ?_ _ _ (.inl ⟨rfl,rfl,rfl⟩)
  ·rintro x zbF r s' (⟨e,hr,rfl⟩|⟨e,hr,rfl⟩|⟨e,hr,rfl⟩)
   ·injection e with e1 e2
    subst e1 e2;refine yaa (wpAny_pyHash_int ?_)
    first
     |exact yah (.inr (.inl ⟨rfl,by simp[hr],rfl⟩))
     |exact yaa (yah (yah (.inr (.inl ⟨rfl,by simp[hr],rfl⟩))))
   ·injection e with e1 e2
    subst e1 e2;refine yaa (wpAny_pyHash_tuple (A:=A.in1) (by show A.units+1<cLine;omega) kx ?_)
    first
     |exact yah (.inr (.inr ⟨rfl,by simp[hr],rfl⟩))
     |exact yaa (yah (yah (.inr (.inr ⟨rfl,by simp[hr],rfl⟩))))
   ·cases e
  ·rintro r s' (⟨e,_⟩|⟨e,_⟩|⟨_,hr,rfl⟩)
   ·cases e
   ·cases e
   ·show wpAny _ _ (retInt (Builtin.Tuple.tupleHashOf r.toList)) _ _ _;rw[hr];refine yaa (wpAny_mkInt (yah ⟨_,_,rfl,?_⟩))
    have e:s.toks+1+(k.2.length+1)+1=s.toks+(1+(k.2.length+1)+1):=by omega
    show Q _ {s with toks:=s.toks+1+(k.2.length+1)+1};rw[e];exact hq
 eqBool:=fun {A E s x y a b Q} hu hx hy hq=>by
  refine SeqAt.eqAt_reads _ _ A s (.ref a) (.ref b) [] [] hx.reads hy.reads ?_ ?_ ?_ prog w E Q ?_
  ·simp[PyData.canLay0,PyData.canLayAll0,zee.1]
  ·simp[PyData.canLay0,PyData.canLayAll0,zee.1]
  ·have h1:(PyData.tuple [.int x.1,.tuple (x.2.map zdL)]).depth<=3:=by
    simp[PyData.depth,PyData.depthAll,zee.2]
   have:min (PyData.tuple [.int x.1,.tuple (x.2.map zdL)]).depth (PyData.tuple [.int y.1,.tuple (y.2.map zdL)]).depth<=3:=yan (Nat.min_le_left _ _) h1;omega
  ·have e:(PyData.tuple [.int x.1,.tuple (x.2.map zdL)]).eqv (.tuple [.int y.1,.tuple (y.2.map zdL)])=decide (x=y):=by
    simp only[PyData.eqv,PyData.eqvAll,zgt];rw[ybA];simp[Prod.ext_iff]
   rw[e];exact hq
 quiet:=fun {A E s k a Q} x hq=>by
  have hT:=zdF.typeIs (prog:=prog) (w:=w) x;obtain⟨o,items,n,t,b,ho,hc,hd,hi,kx⟩:=x;have hTb:=kx.typeIs;obtain⟨ob,its,m,hob,hcb,hdb,hib⟩:=kx
  have low:wpAny (model prog w) A (eqIsQuiet 7 (.ref b)) (fun r s'=>r=true/\s'=s) E s:=by
   unfold eqIsQuiet;refine yaa (wpAny_specialOf hTb F.slot_tuple_eq.lookup ?_);show wpAny _ _ (isInstance (.ref b) (.type "tuple") >>= _) _ _ s;refine yaa (yck hTb isSubtype_tuple_tuple ?_);simp only[ycr,yaP,ybJ];refine yaa (ybG hob hdb (yaa ?_));show wpAny _ _ (forIn its _ _) _ _ s;rw[<-ycE];refine wpAny_forIn_list _ (fun zbF r s'=>r.1=none/\s'=s/\∀v∈zbF,carriedByValue v=true) _ ?_ ?_ _ _ ⟨rfl,rfl,hib.byValue⟩
   ·rintro v zbF r s' ⟨hr,rfl,hall⟩;rw[eqIsQuiet_byValue _ (hall v yaz)];refine yaa (yah ?_);simp only[ycr,yaP,ybJ];exact yah ⟨rfl,rfl,fun z hz=>hall z (yas _ hz)⟩
   ·rintro⟨r1,r2⟩ s' ⟨hr,rfl,_⟩;simp only at hr;subst hr;exact yah ⟨rfl,rfl⟩
  unfold eqIsQuiet;refine yaa (wpAny_specialOf hT F.slot_tuple_eq.lookup ?_);show wpAny _ _ (isInstance (.ref a) (.type "tuple") >>= _) _ _ s;refine yaa (yck hT isSubtype_tuple_tuple ?_);simp only[ycr,yaP,ybJ];refine yaa (ybG ho hd (yaa ?_));show wpAny _ _ (forIn items _ _) _ _ s;rw[<-ycE,hi];refine wpAny_forIn_list _ (fun zbF r s'=>r.1=none/\s'=s/\(zbF=[.int k.1 t,.ref b]\/zbF=[.ref b]\/zbF=[])) _ ?_ ?_ _ _ ⟨rfl,rfl,.inl rfl⟩
  ·rintro v zbF r s' ⟨hr,rfl,(e|e|e)⟩
   ·injection e with e1 e2
    subst e1 e2;rw[eqIsQuiet_byValue _ rfl];refine yaa (yah ?_);simp only[ycr,yaP,ybJ];exact yah ⟨rfl,rfl,by simp⟩
   ·injection e with e1 e2
    subst e1 e2;refine yaa (ybg low (fun r' s'' hz=>?_) fun _ _ z=>z);obtain⟨rfl,rfl⟩:=hz;simp only[ycr,yaP,ybJ];exact yah ⟨rfl,rfl,by simp⟩
   ·cases e
  ·rintro⟨r1,r2⟩ s' ⟨hr,rfl,_⟩;simp only at hr;subst hr;exact yah hq
end
noncomputable def oV:Option Int->V|none=>.non|some i=>.int i
noncomputable def DN(P:Program)(w:World)(a:Addr)(xs:List (NK×Addr×Value))(h:Heap):Prop:=
 ∃o es ep,h.get? a=some o/\o.ExactDict/\o.data=.dict es ep/\es.toList=xs.map (entryOfKey (zdu P w))/\(xs.map (·.1)).Nodup/\(a==sysModules)=false
noncomputable def zhG(H:Hp)(kb:Addr)(k:NK):Prop:=∃b,H kb=some (.tup [.int k.1,.ref b])/\H b=some (.tup (k.2.map oV))
noncomputable def zmy(H:Hp)(xs:List (NK×Addr×Value))(m:List (NK×V)):Prop:=Paired (fun(x:NK×Addr×Value) (p:NK×V)=>x.1=p.1/\zhG H x.2.1 x.1/\zbs p.2 x.2.2) xs m
def zir{P:Program}{w:World}{a:Addr}{xs:List (NK×Addr×Value)}:∀h1 h2:Heap,DN P w a xs h1->(∀o,h1.get? a=some o->h2.get? a=some o)->DN P w a xs h2:=fun h1 h2 ⟨o,es,ep,e,r⟩ k=>⟨o,es,ep,k _ e,r⟩
section
variable{X:Cx}{pins:Z3}{σ:St}{H:Hp}{s:Shared}
theorem zeh:∀{l:Z4}{its:List Value},Vals (l.map oV) its->ItemsAre (zdM X.prog X.w) l its
 |[],_,.nil=>.nil|none::l,_,.cons r t=>by
  cases r;exact .cons rfl (zeh t)
 |some i::l,_,.cons r t=>by
  obtain⟨u,rfl⟩:=r;exact .cons (by simp[zdM,zj0,Value.isInt]) (zeh t)
def Inv.nest(I:Inv X pins σ H s){kb:Addr}{k:NK}(h:zhG H kb k):zdF X.prog X.w s.heap k kb:=by
 obtain⟨b,h1,h2⟩:=h;obtain⟨its,rv,⟨o,ho,hc,n,hd⟩,_⟩:=I.tuple (SqT.of (K:=X.K) h1);obtain⟨its2,rv2,⟨o2,ho2,hc2,n2,hd2⟩,_⟩:=I.tuple (SqT.of (K:=X.K) h2)
 cases rv with
 |cons r1 rr=>
  cases rr with
  |cons r2 rr=>
   cases rr;obtain⟨t,rfl⟩:=r1;cases r2;exact⟨o,_,n,t,b,ho,hc,hd,rfl,o2,_,n2,ho2,hc2,hd2,by simpa using zeh rv2⟩
def zmy.keys{xs:List (NK×Addr×Value)}{m:List (NK×V)}(I:Inv X pins σ H s):zmy H xs m->∀x∈xs,zdF X.prog X.w s.heap x.1 x.2.1:=by
 intro h
 induction h with
 |nil=>intro x hx;simp at hx|cons h t ih=>
  intro x hx
  rcases yav.mp hx with rfl|hx
  ·exact I.nest h.2.1
  ·exact ih x hx
def Inv.ndict(I:Inv X pins σ H s){a:Addr}{xs:List (NK×Addr×Value)}{m:List (NK×V)}(h:H a=some (.ext (DN X.prog X.w a xs)))(e:zmy H xs m):s.heap.DictOfH (zdu X.prog X.w) a xs/\(a==sysModules)=false:=by
 obtain⟨⟨o,es,ep,h1,h2,h3,h4,h5,h6⟩,_⟩:=I.hok a _ h;exact⟨⟨o,es,ep,h1,h2,h3,h4,e.keys I,h5⟩,h6⟩
def zdS{xs:List (NK×Addr×Value)}{m:List (NK×V)}(e:zmy H xs m)(k:NK):(m.lookup k=none/\atKey xs k=none)\/∃c p,m.lookup k=some c/\atKey xs k=some p/\zbs c p.2:=by
 induction e with
 |nil=>exact .inl ⟨rfl,rfl⟩| @cons x p l1 l2 h t ih=>
  obtain⟨h1,h2,h3⟩:=h
  by_cases hk:x.1=k
  ·refine .inr ⟨p.2,x.2,?_,?_,h3⟩
   ·obtain⟨pk,pc⟩:=p;simp only at h1;subst h1;rw[yax,hk];simp
   ·simp[atKey,hk]
  ·have hk':¬ p.1=k:=by rw[<-h1];exact hk
   have e1:List.lookup k (p::l2)=List.lookup k l2:=by
    obtain⟨pk,pc⟩:=p;rw[yax]
    have:(k==pk)=false:=by
     rw[yaY];exact fun z=>hk' z.symm
    rw[this]
   have e2:atKey (x::l1) k=atKey l1 k:=by simp[atKey,List.find?_cons,hk]
   rw[e1,e2];exact ih
theorem zmN(hu:X.A.units+16<cLine):OpR X (compareOp .NotIn) (fun x y H Q=>∃kb a k xs m,x=.ref kb/\y=.ref a/\zhG H kb k/\H a=some (.ext (DN X.prog X.w a xs))/\zmy H xs m/\Q (.bl (m.lookup k).isNone) H):=by
 intro pins s σ H x y v u Q I rx ry h;obtain⟨kb,a,k,xs,m,rfl,rfl,hk,hx,he,q⟩:=h;cases rx;cases ry;obtain⟨hm,hd⟩:=I.ndict hx he;refine wpAny_notIn_heap (knd:=zdu X.prog X.w) (k:=k) (by show X.A.units+1+8<cLine;omega) (I.nest hk) hd hm ⟨.bl _,H,I.tok _,?_,q⟩
 rcases zdS he k with⟨e1,e2⟩|⟨c,p,e1,e2,_⟩<;>rw[e1,e2]<;>rfl
def zqQ(hu:X.A.units+16<cLine):IxR X (fun x y H Q=>∃a kb k xs m c,x=.ref a/\y=.ref kb/\zhG H kb k/\H a=some (.ext (DN X.prog X.w a xs))/\zmy H xs m/\m.lookup k=some c/\Q c H):=by
 intro value slice pins s σ H x y v u Q I rx ry h hs;obtain⟨a,kb,k,xs,m,c,rfl,rfl,hk,hx,he,hl,q⟩:=h;cases rx;cases ry;obtain⟨hm,hd⟩:=I.ndict hx he
 rcases zdS he k with⟨e1,_⟩|⟨c',p,e1,e2,r⟩
 ·rw[e1]at hl;cases hl
 ·rw[e1]at hl;cases hl;exact yca (x:=p.2) hm.typeIs slot_dict_getitem.lookup (wpAny_getItem_heap (knd:=zdu X.prog X.w) (k:=k) (by show X.A.units+1+8<cLine;omega) (I.nest hk) hm e2 ⟨rfl,c,H,I.tok _,r,q⟩) hs
theorem znz(hu:X.A.units+16<cLine):zrV X (fun o i v H Q=>∃a kb k xs m,o=.ref a/\i=.ref kb/\zhG H kb k/\H a=some (.ext (DN X.prog X.w a xs))/\zmy H xs m/\m.lookup k=none/\m.length<=1000000/\∀u,zbs v u->Q (upd H a (.ext (DN X.prog X.w a (xs++[(k,kb,u)]))))):=by
 intro pins s σ H o i v ov iv u Q I ro ri rv h;obtain⟨a,kb,k,xs,m,rfl,rfl,hk,hx,he,hl,hz,q⟩:=h;cases ro;cases ri;obtain⟨hm,hd⟩:=I.ndict hx he;have hlen:xs.length=m.length:=Paired.length he
 have e2:atKey xs k=none:=by
  rcases zdS he k with⟨_,e2⟩|⟨c',p,e1,_,_⟩
  ·exact e2
  ·rw[e1]at hl;cases hl
 refine wpAny_setItem_heap (knd:=zdu X.prog X.w) (k:=k) (by show X.A.units+1+8<cLine;omega) (I.nest hk) hm (fun h' hm' sb=>?_) (by rw[hlen];exact yan hz (by decide));rw[storedH_new e2]at hm';obtain⟨o,es,ep,g1,g2,g3,g4,g5,g6⟩:=hm';have dn:DN X.prog X.w a (xs++[(k,kb,u)]) h':=⟨o,es,ep,g1,g2,g3,g4,g6,hd⟩;refine⟨upd H a (.ext (DN X.prog X.w a (xs++[(k,kb,u)]))),?_,q u rv⟩;exact I.write (x:=a) (e:=a) (by rw[hx];trivial) (.inl rfl) (fun b o hb z=>(sb.2 b hb).trans z) ⟨_,g1⟩ ⟨dn,⟨_,g1⟩,zir⟩
noncomputable def zsn(P:Program)(w:World):TE:=fun _ H Q=>∀p,H p=none->Q (.ref p) (upd H p (.ext (DN P w p [])))
def znZ{pos:Pos}:PE X (.Dict [] [] pos) (zsn X.prog X.w):=fun pins s σ H Q I h=>by
 have big:sysModules<s.heap.objs.size:=Nat.lt_trans (show sysModules<mainGlobals by decide) (I.mod.glob.keeps I.bk).lt;have hne:(s.heap.objs.size==sysModules)=false:=yaY.mpr (Ne.symm (yaD big));have dn:DN X.prog X.w s.heap.objs.size [] (s.heap.push {cls:=.type "dict",data:=.dict #[]}):=⟨_,#[],0,yau _ rfl,⟨rfl,rfl,rfl⟩,rfl,rfl,ycH,hne⟩;refine wpAny_Dict_empty ⟨.ref s.heap.objs.size,upd H s.heap.objs.size (.ext (DN X.prog X.w s.heap.objs.size [])),?_,rfl,h _ (I.hok.fresh (yal _))⟩;exact I.laid (a:=s.heap.objs.size) (t':=s.toks) (fun _ _ q=>yag _ q) (yal _) ⟨dn,⟨_,yau _ rfl⟩,zir⟩
end
noncomputable abbrev PA2:=(Int×Int)×Addr
noncomputable def kP(p:Int×Int):List Int:=[p.1,p.2]
def zqM{p q:Int×Int}(h:kP p=kP q):p=q:=by
 injection h with h1 h2
 injection h2 with h2 _
 exact Prod.ext h1 h2
def xsP(xs:List PA2):List (List Int×Addr×Value):=xs.map fun x=>(kP x.1,x.2,.bool true)
noncomputable def DP(P:Program)(w:World)(a:Addr)(xs:List PA2)(h:Heap):Prop:=
 ∃o es ep,h.get? a=some o/\o.ExactDict/\o.data=.dict es ep/\es.toList=(xsP xs).map (entryOfKey (tupleKind (intKind P w)))/\((xsP xs).map (·.1)).Nodup/\(a==sysModules)=false
noncomputable def KsP(H:Hp)(xs:List PA2):Prop:=∀x∈xs,H x.2=some (.tup [.int x.1.1,.int x.1.2])
def ziq{P:Program}{w:World}{a:Addr}{xs:List PA2}:∀h1 h2:Heap,DP P w a xs h1->(∀o,h1.get? a=some o->h2.get? a=some o)->DP P w a xs h2:=fun h1 h2 ⟨o,es,ep,e,r⟩ k=>⟨o,es,ep,k _ e,r⟩
def zkV{xs:List PA2}{p:Int×Int}:atKey (xsP xs) (kP p)=none↔p ∉ xs.map (·.1):=by
 unfold atKey xsP;rw[Option.map_eq_none_iff,List.find?_eq_none];constructor
 ·intro h z;obtain⟨x,hx,e⟩:=yay.mp z;exact h _ (yay.mpr ⟨x,hx,rfl⟩) (by simp[e])
 ·intro h y hy e;obtain⟨x,hx,rfl⟩:=yay.mp hy
  have:kP x.1=kP p:=by simpa using e
  exact h (yay.mpr ⟨x,hx,zqM this⟩)
def zly{xs:List PA2}{k:List Int}:(xsP xs).map (putAt k (.bool true))=xsP xs:=by
 unfold xsP;rw[ybu];refine ycz fun x _=>?_
 show putAt k (.bool true) (kP x.1,x.2,Value.bool true)=_;unfold putAt
 split<;>rfl
section
variable{X:Cx}{pins:Z3}{σ:St}{H:Hp}{s:Shared}{a kb:Addr}{xs:List PA2}{p:Int×Int}
def zuM(I:Inv X pins σ H s)(e:H a=some (.tup [.int p.1,.int p.2])):(tupleKind (intKind X.prog X.w)).is s.heap (kP p) a:=by
 obtain⟨_,its,r,o,h1,h2,n,h3⟩:=(show zbx X.prog X.w H s.heap a (.tup [.int p.1,.int p.2])from I.hok a _ e);refine⟨o,its.toArray,n,h1,h2,h3,?_⟩
 cases r with
 |cons r1 t=>
  cases t with
  |cons r2 t2=>
   cases t2;obtain⟨t1,e1⟩:=r1;obtain⟨t2,e2⟩:=r2;cases e1;cases e2;exact .cons (by simp[intKind,kP,Value.isInt]) (.cons (by simp[intKind,Value.isInt]) .nil)
def Inv.dp(I:Inv X pins σ H s)(h:H a=some (.ext (DP X.prog X.w a xs)))(k:KsP H xs):s.heap.DictOfH (tupleKind (intKind X.prog X.w)) a (xsP xs)/\(a==sysModules)=false:=by
 obtain⟨⟨o,es,ep,h1,h2,h3,h4,h5,h6⟩,_⟩:=I.hok a _ h;refine⟨⟨o,es,ep,h1,h2,h3,h4,fun y hy=>?_,h5⟩,h6⟩;obtain⟨x,hx,rfl⟩:=yay.mp hy;exact zuM I (k x hx)
def Inv.dp_addr{a':Addr}(I:Inv X pins σ H s)(h:H a=some (.ext (DP X.prog X.w a' xs))):a'=a:=by
 apply Classical.byContradiction;intro hne;obtain⟨dp,_,st⟩:=I.hok a _ h;obtain⟨o,es,ep,h1,h2,h3,_⟩:=id dp;have dp2:=st s.heap (s.heap.update a' fun _=>{cls:=.type "list",data:=.seq #[]}) dp (fun q e=>(Heap.get?_update_ne _ _ _ _ (fun z=>hne z.symm)).trans e);obtain⟨o2,es2,ep2,g1,g2,_⟩:=dp2;rw[ybL (fun _=>{cls:=.type "list",data:=.seq #[]}) h1 rfl]at g1;cases g1;exact absurd g2.1 (by decide)
noncomputable def zjF(xs:List PA2)(p:Int×Int)(kb:Addr):List PA2:=if p∈xs.map (·.1)then xs else xs++[(p,kb)]
def zlm(hu:X.A.units+1<cLine):zrV X (fun o i v H Q=>∃(a a' kb:Addr) (p:Int×Int) (xs:List PA2),o=.ref a/\i=.ref kb/\v=.bl true/\H kb=some (.tup [.int p.1,.int p.2])/\H a=some (.ext (DP X.prog X.w a' xs))/\KsP H xs/\xs.length<=1000000/\Q (upd H a (.ext (DP X.prog X.w a' (zjF xs p kb))))):=by
 intro pins s σ H o i v ov iv u Q I ro ri rv h;obtain⟨a,a',kb,p,xs,rfl,rfl,rfl,hk,hx,he,hz,q⟩:=h;cases ro;cases ri;obtain rfl:=I.dp_addr hx;cases (show u=Value.bool true from rv);obtain⟨hm,hd⟩:=I.dp hx he;refine wpAny_setItem_heap (k:=kP p) (tupleKind_room_in1 hu) (zuM I hk) hm (fun h' hm' sb=>?_) (by unfold xsP;rw[yaf];exact yan hz (by decide))
 have ex:storedH (xsP xs) (kP p) kb (Value.bool true)=xsP (zjF xs p kb):=by
  unfold zjF
  by_cases hp:p∈xs.map (·.1)
  ·rw[if_pos hp]
   cases hk:atKey (xsP xs) (kP p)with
   |none=>exact absurd hp (zkV.mp hk)|some z=>rw[storedH_old hk,zly]
  ·rw[if_neg hp,storedH_new (zkV.mpr hp)];unfold xsP;rw[ybN];rfl
 rw[ex]at hm';obtain⟨o,es,ep,g1,g2,g3,g4,g5,g6⟩:=hm';have dn:DP X.prog X.w _ (zjF xs p kb) h':=⟨o,es,ep,g1,g2,g3,g4,g6,hd⟩;exact⟨upd H _ (.ext (DP X.prog X.w _ (zjF xs p kb))),I.write (by rw[hx];trivial) (.inl rfl) (fun b o hb z=>(sb.2 b hb).trans z) ⟨_,g1⟩ ⟨dn,⟨_,g1⟩,ziq⟩,q⟩
noncomputable def zpa(P:Program)(w:World):TE:=fun _ H Q=>∀p,H p=none->Q (.ref p) (upd H p (.ext (DP P w p [])))
def zlJ{pos:Pos}:PE X (.Dict [] [] pos) (zpa X.prog X.w):=fun pins s σ H Q I h=>by
 have big:sysModules<s.heap.objs.size:=Nat.lt_trans (show sysModules<mainGlobals by decide) (I.mod.glob.keeps I.bk).lt;have hne:(s.heap.objs.size==sysModules)=false:=yaY.mpr (Ne.symm (yaD big));have dn:DP X.prog X.w s.heap.objs.size [] (s.heap.push {cls:=.type "dict",data:=.dict #[]}):=⟨_,#[],0,yau _ rfl,⟨rfl,rfl,rfl⟩,rfl,rfl,ycH,hne⟩;refine wpAny_Dict_empty ⟨.ref s.heap.objs.size,upd H s.heap.objs.size (.ext (DP X.prog X.w s.heap.objs.size [])),?_,rfl,h _ (I.hok.fresh (yal _))⟩;exact I.laid (a:=s.heap.objs.size) (t':=s.toks) (fun _ _ q=>yag _ q) (yal _) ⟨dn,⟨_,yau _ rfl⟩,ziq⟩
def zkQ:zdT X (.builtin "len") (fun vs H Q=>∃(a a':Addr) (xs:List PA2),vs=[.ref a]/\H a=some (.ext (DP X.prog X.w a' xs))/\xs.length<=1000000/\Q (.int xs.length) H):=by
 intro pins s σ H vs us Q I r h;obtain⟨a,a',xs,rfl,hx,hz,q⟩:=h
 cases r with
 |cons r1 t=>
 cases t;cases r1;obtain rfl:=I.dp_addr hx;obtain⟨⟨o,es,ep,h1,h2,h3,h4,h5,h6⟩,_⟩:=I.hok _ _ hx;have hT:s.TypeIs (.ref a') "dict":=⟨o,h1,h2.1⟩
 have hsz:es.size=xs.length:=by
  have:=congrArg List.length h4;rw[yaf]at this;unfold xsP at this;rw[yaf]at this;simpa using this
 refine call_len_slot hT PySem.F.slot_dict_len (fun Q' hq=>?_) (n:=(xs.length:Int)) (by omega) (by omega) ⟨.int _,H,I.tok _,⟨_,rfl⟩,q⟩;refine call_meetsIn PySem.F.slot_dict_len hT PySem.F.entry_dict_len (PySem.F.args_dict_len_1 _) (S:=fun _ R s=>(∃o es ep,s.heap.get? a'=some o/\o.data=.dict es ep/\es.size=xs.length)/\R (.ok (.ret (.int xs.length s.toks))) {s with toks:=s.toks+1}) (.of_wp fun A R s ⟨⟨o,es,ep,ho,hdat,hn⟩,h⟩=>?_) ⟨⟨o,es,ep,h1,h3,hsz⟩,hq⟩;show wpAny _ _ (dictSize a' >>= _) _ _ s;unfold dictSize;refine yaa (yaa (wpAny_dictEntries ho hdat (yah ?_)));show wpAny _ _ (Builtin.Dict.pendingCount a' >>= _) _ _ s;refine yaa (wpAny_pendingCount_other h6 ?_);refine wpAny_ret_mkInt ?_;rw[Nat.add_zero,hn];exact h
end
end L2
namespace S2
open PySem PySem.Spec PyProof.Rows L2
noncomputable abbrev St:=L2.St
inductive D where
 |non|bl (b:Bool)|int (i:Int)|str (x:Str)|tup (l:List D)|lst (l:List D)|dic (l:List (D×D))|ref (n:Nat)|exc (c:Str)|scr (l:List Int)
inductive Root where
 |slot (i:Nat)|fld (n:Nat) (f:Str)|obj (n:Nat)|far
 deriving DecidableEq
noncomputable abbrev Ow:=Addr->Option Root
structure Cf where
 ad:Str->Addr
 K:PySem.W.Frag
 P:Program
 wo:PySem.World
noncomputable instance:CoeFun Cf (fun _=>Str->Addr):=⟨Cf.ad⟩
structure Wd where
 H:Hp
 ow:Ow
 mu:List Addr
noncomputable def pdD(ps:List (Int×Int)):List (D×D):=ps.map fun p=>(.tup [.int p.1,.int p.2],.bl true)
inductive Exd(cl:Cf)(w:Wd):HO->List (D×D)->Prop
 |pd {a:Addr}{xs:List PA2}:(∀x∈xs,w.H x.2=some (.tup [.int x.1.1,.int x.1.2])/\w.ow x.2=none)->Exd cl w (.ext (DP cl.P cl.wo a xs)) (pdD (xs.map (·.1)))
mutual
inductive Shd(cl:Cf)(w:Wd):V->D->Prop
 |non:Shd cl w .non .non
 |bl (b:Bool):Shd cl w (.bl b) (.bl b)
 |int (i:Int):Shd cl w (.int i) (.int i)
 |str (x:Str):Shd cl w (.str x) (.str x)
 |tup {a:Addr}{xs:List V}{ds:List D}:w.H a=some (.tup xs)->w.ow a=none->Shds cl w xs ds->Shd cl w (.ref a) (.tup ds)
 |lst {a:Addr}{xs:List V}{ds:List D}:w.H a=some (.lst xs)->w.ow a=none->Shds cl w xs ds->Shd cl w (.ref a) (.lst ds)
 |dicK {a:Addr}{kvs:List (Key×V)}{ds:List (D×D)}:w.H a=some (.dK kvs)->w.ow a=none->ShdK cl w kvs ds->Shd cl w (.ref a) (.dic ds)
 |dicX {a:Addr}{o:HO}{ds:List (D×D)}:w.H a=some o->w.ow a=none->Exd cl w o ds->Shd cl w (.ref a) (.dic ((.bl true,.non)::ds))
 |ref {n:Nat}{a:Addr}:w.mu[n]?=some a->Shd cl w (.ref a) (.ref n)
 |scr {a:Addr}{o:Obj}{l:List Int}:w.H a=some (.frz o (.lst (l.map V.int)))->w.ow a=none->Shd cl w (.ref a) (.scr l)
 |scrK {a:Addr}{l:List Int}:(∀H:Hp,SqL cl.K H a (l.map V.int))->Shd cl w (.ref a) (.scr l)
 |exc {a:Addr}{c:Str}{ob:Obj}:w.H a=some (.frz ob (.own a))->w.ow a=none->ob.cls=.ref (cl c)->Shd cl w (.ref a) (.exc c)
inductive Shds(cl:Cf)(w:Wd):List V->List D->Prop
 |nil:Shds cl w [] []
 |cons {v:V}{d:D}{vs:List V}{ds:List D}:Shd cl w v d->Shds cl w vs ds->Shds cl w (v::vs) (d::ds)
inductive ShdK(cl:Cf)(w:Wd):List (Key×V)->List (D×D)->Prop
 |nil:ShdK cl w [] []
 |consI {i:Int}{v:V}{d:D}{vs:List (Key×V)}{ds:List (D×D)}:Shd cl w v d->ShdK cl w vs ds->ShdK cl w ((.inl i,v)::vs) ((.int i,d)::ds)
 |consS {x:Str}{v:V}{d:D}{vs:List (Key×V)}{ds:List (D×D)}:Shd cl w v d->ShdK cl w vs ds->ShdK cl w ((.inr x,v)::vs) ((.str x,d)::ds)
end
structure Fut(w w':Wd):Prop where
 keep:∀a o,w.H a=some o->w.ow a=none->w'.H a=some o/\w'.ow a=none
 mu:∀(n:Nat) (a:Addr),w.mu[n]?=some a->w'.mu[n]?=some a
def Fut.refl(w:Wd):Fut w w:=⟨fun _ _ h k=>⟨h,k⟩,fun _ _ h=>h⟩
def Fut.trans{w w1 w2:Wd}(a:Fut w w1)(b:Fut w1 w2):Fut w w2:=⟨fun c o h k=>b.keep c o (a.keep c o h k).1 (a.keep c o h k).2,fun n c h=>b.mu n c (a.mu n c h)⟩
theorem Exd.up{cl:Cf}{w w':Wd}(f:Fut w w'){o:HO}{ds:List (D×D)}:Exd cl w o ds->Exd cl w' o ds
 |.pd h=>.pd fun x hx=>f.keep _ _ (h x hx).1 (h x hx).2
mutual
theorem Shd.up{cl:Cf}{w w':Wd}(f:Fut w w'):∀{v:V}{d:D},Shd cl w v d->Shd cl w' v d
 |_,_,.non=>.non|_,_,.bl b=>.bl b|_,_,.int i=>.int i|_,_,.str x=>.str x|_,_,.tup e k r=>.tup (f.keep _ _ e k).1 (f.keep _ _ e k).2 (Shds.up f r)|_,_,.lst e k r=>.lst (f.keep _ _ e k).1 (f.keep _ _ e k).2 (Shds.up f r)|_,_,.dicK e k r=>.dicK (f.keep _ _ e k).1 (f.keep _ _ e k).2 (ShdK.up f r)|_,_,.dicX e k x=>.dicX (f.keep _ _ e k).1 (f.keep _ _ e k).2 (x.up f)|_,_,.ref e=>.ref (f.mu _ _ e)|_,_,.scr e k=>.scr (f.keep _ _ e k).1 (f.keep _ _ e k).2|_,_,.scrK h=>.scrK h|_,_,.exc e k h=>.exc (f.keep _ _ e k).1 (f.keep _ _ e k).2 h
theorem Shds.up{cl:Cf}{w w':Wd}(f:Fut w w'):∀{vs:List V}{ds:List D},Shds cl w vs ds->Shds cl w' vs ds
 |_,_,.nil=>.nil|_,_,.cons r t=>.cons (Shd.up f r) (Shds.up f t)
theorem ShdK.up{cl:Cf}{w w':Wd}(f:Fut w w'):∀{vs:List (Key×V)}{ds:List (D×D)},ShdK cl w vs ds->ShdK cl w' vs ds
 |_,_,.nil=>.nil|_,_,.consI r t=>.consI (Shd.up f r) (ShdK.up f t)|_,_,.consS r t=>.consS (Shd.up f r) (ShdK.up f t)
end
section
variable{cl:Cf}{w:Wd}
theorem Shds.length:∀{vs:List V}{ds:List D},Shds cl w vs ds->vs.length=ds.length
 |_,_,.nil=>rfl|_,_,.cons _ t=>by rw[yae,yae,Shds.length t]
theorem Shds.get:∀{vs:List V}{ds:List D},Shds cl w vs ds->∀{i:Nat}{v:V},vs[i]?=some v->∃d,ds[i]?=some d/\Shd cl w v d
 |_,_,.nil,i,v,e=>by simp at e
 |_,_,.cons r _,0,v,e=>by simp at e;subst e;exact⟨_,rfl,r⟩
 |_,_,.cons _ t,i+1,v,e=>by
  obtain⟨d,h1,h2⟩:=Shds.get t (i:=i) (v:=v) (by simpa using e);exact⟨d,by simpa using h1,h2⟩
theorem Shds.at:∀{vs:List V}{ds:List D},Shds cl w vs ds->∀{i:Nat}{d:D},ds[i]?=some d->∃v,vs[i]?=some v/\Shd cl w v d
 |_,_,.nil,i,v,e=>by simp at e
 |_,_,.cons r _,0,v,e=>by simp at e;subst e;exact⟨_,rfl,r⟩
 |_,_,.cons _ t,i+1,v,e=>by
  obtain⟨d,h1,h2⟩:=Shds.at t (i:=i) (d:=v) (by simpa using e);exact⟨d,by simpa using h1,h2⟩
theorem Shds.append:∀{vs ws:List V}{ds es:List D},Shds cl w vs ds->Shds cl w ws es->Shds cl w (vs++ws) (ds++es)
 |_,_,_,_,.nil,s=>s|_,_,_,_,.cons r t,s=>.cons r (Shds.append t s)
theorem Shds.take:∀{vs:List V}{ds:List D} (n:Nat),Shds cl w vs ds->Shds cl w (vs.take n) (ds.take n)
 |_,_,0,_=>.nil|_,_,_+1,.nil=>.nil|_,_,n+1,.cons r t=>.cons r (Shds.take n t)
theorem Shds.drop:∀{vs:List V}{ds:List D} (n:Nat),Shds cl w vs ds->Shds cl w (vs.drop n) (ds.drop n)
 |_,_,0,s=>s|_,_,_+1,.nil=>.nil|_,_,n+1,.cons _ t=>Shds.drop n t
theorem Shds.set{v:V}{d:D}(r:Shd cl w v d):∀{vs:List V}{ds:List D} (i:Nat),Shds cl w vs ds->Shds cl w (vs.set i v) (ds.set i d)
 |_,_,_,.nil=>.nil|_,_,0,.cons _ t=>.cons r t|_,_,i+1,.cons q t=>.cons q (Shds.set r i t)
theorem Shds.flat{vs:List V}{ds:List D}(h:Shds cl w vs ds):∀n:Nat,Shds cl w (List.replicate n vs).flatten (List.replicate n ds).flatten
 |0=>.nil|n+1=>by
  rw[ya3,ya3,ybm,ybm];exact Shds.append h (Shds.flat h n)
end
inductive Top(cl:Cf)(w:Wd):HO->D->Prop
 |lst {xs:List V}{ds:List D}:Shds cl w xs ds->Top cl w (.lst xs) (.lst ds)
 |dicK {kvs:List (Key×V)}{ds:List (D×D)}:ShdK cl w kvs ds->Top cl w (.dK kvs) (.dic ds)
 |dicX {o:HO}{ds:List (D×D)}:Exd cl w o ds->Top cl w o (.dic ((.bl true,.non)::ds))
theorem Top.up{cl:Cf}{w w':Wd}(f:Fut w w'){o:HO}{d:D}:Top cl w o d->Top cl w' o d
 |.lst h=>.lst (h.up f)|.dicK h=>.dicK (h.up f)|.dicX x=>.dicX (x.up f)
noncomputable def zhj(l:List D):D:=.dic [(.exc "",.lst l)]
noncomputable def unW:D->D|.dic [(.exc _,.lst l)]=>.lst l|d=>d
noncomputable def zeV(cl:Cf)(w:Wd)(r:Root):List Addr->List (List D)->Prop:=Paired fun b row=>w.ow b=some r/\∃xs,w.H b=some (.lst xs)/\Shds cl w xs row
structure NstR(cl:Cf)(w:Wd)(r:Root)(v:V)(d:D):Prop where
 ex:∃a bs rows,v=.ref a/\d=zhj (rows.map D.lst)/\w.ow a=some r/\w.H a=some (.lst (bs.map V.ref))/\a ∉ bs/\bs.Nodup/\zeV cl w r bs rows
theorem zeV.keep{cl:Cf}{w w':Wd}(f:Fut w w'){r:Root}(k:∀a o,w.H a=some o->w.ow a=some r->w'.H a=some o/\w'.ow a=some r):∀{bs:List Addr}{rows:List (List D)},zeV cl w r bs rows->zeV cl w' r bs rows
 |_,_,.nil=>.nil|_,_,.cons ⟨h1,xs,h2,h3⟩ t=>.cons ⟨(k _ _ h2 h1).2,xs,(k _ _ h2 h1).1,h3.up f⟩ (zeV.keep f k t)
theorem NstR.keep{cl:Cf}{w w':Wd}(f:Fut w w'){r:Root}(k:∀a o,w.H a=some o->w.ow a=some r->w'.H a=some o/\w'.ow a=some r){v:V}{d:D}(h:NstR cl w r v d):NstR cl w' r v d:=by
 obtain⟨a,bs,rows,e1,e2,e3,e4,e5,e6,e7⟩:=h.ex;exact⟨a,bs,rows,e1,e2,(k a _ e4 e3).2,(k a _ e4 e3).1,e5,e6,e7.keep f k⟩
noncomputable def ziu(cl:Cf)(w:Wd)(r:Root):Bool->V->D->Prop
 |false,v,d=>Shd cl w v d|true,v,d=>(∃a o,v=.ref a/\w.ow a=some r/\w.H a=some o/\Top cl w o d)\/NstR cl w r v d
theorem ziu.keep{cl:Cf}{w w':Wd}(f:Fut w w'){r:Root}(k:∀a o,w.H a=some o->w.ow a=some r->w'.H a=some o/\w'.ow a=some r):∀{b:Bool}{v:V}{d:D},ziu cl w r b v d->ziu cl w' r b v d
 |false,_,_,h=>Shd.up f h|true,_,_,.inl ⟨a,o,e,h1,h2,t⟩=>.inl ⟨a,o,e,(k a o h2 h1).2,(k a o h2 h1).1,t.up f⟩|true,_,_,.inr h=>.inr (h.keep f k)
noncomputable def oDn:Option Int->D|none=>.non|some i=>.int i
def nkD(k:NK):D:=.tup [.int k.1,.tup (k.2.map oDn)]
inductive ShdN(cl:Cf)(w:Wd):List (NK×V)->List (D×D)->Prop
 |nil:ShdN cl w [] []
 |cons {k:NK}{v:V}{d:D}{m:List (NK×V)}{ds:List (D×D)}:Shd cl w v d->ShdN cl w m ds->ShdN cl w ((k,v)::m) ((nkD k,d)::ds)
theorem ShdN.up{cl:Cf}{w w':Wd}(f:Fut w w'):∀{m:List (NK×V)}{ds:List (D×D)},ShdN cl w m ds->ShdN cl w' m ds
 |_,_,.nil=>.nil|_,_,.cons r t=>.cons (r.up f) (ShdN.up f t)
noncomputable def zk8(w:Wd)(kb:Addr)(k:NK):Prop:=∃b,(w.H kb=some (.tup [.int k.1,.ref b])/\w.ow kb=none)/\w.H b=some (.tup (k.2.map oV))/\w.ow b=none
def zk8.up{w w':Wd}(f:Fut w w'){kb:Addr}{k:NK}(h:zk8 w kb k):zk8 w' kb k:=by
 obtain⟨b,h1,h2⟩:=h;exact⟨b,f.keep _ _ h1.1 h1.2,f.keep _ _ h2.1 h2.2⟩
def zk8.at{w:Wd}{kb:Addr}{k:NK}(h:zk8 w kb k):zhG w.H kb k:=by
 obtain⟨b,h1,h2⟩:=h;exact⟨b,h1.1,h2.1⟩
noncomputable def ziw(w:Wd):List (NK×Addr×Value)->List (NK×V)->Prop:=Paired fun(x:NK×Addr×Value) (p:NK×V)=>x.1=p.1/\zk8 w x.2.1 x.1/\zbs p.2 x.2.2
theorem ziw.up{w w':Wd}(f:Fut w w'):∀{xs:List (NK×Addr×Value)}{m:List (NK×V)},ziw w xs m->ziw w' xs m
 |_,_,.nil=>.nil|_,_,.cons h t=>.cons ⟨h.1,h.2.1.up f,h.2.2⟩ (ziw.up f t)
theorem ziw.ents{w:Wd}:∀{xs:List (NK×Addr×Value)}{m:List (NK×V)},ziw w xs m->zmy w.H xs m
 |_,_,.nil=>.nil|_,_,.cons h t=>.cons ⟨h.1,h.2.1.at,h.2.2⟩ (ziw.ents t)
theorem ziw.snoc{w:Wd}{x:NK×Addr×Value}{p:NK×V}(h:x.1=p.1/\zk8 w x.2.1 x.1/\zbs p.2 x.2.2):∀{xs:List (NK×Addr×Value)}{m:List (NK×V)},ziw w xs m->ziw w (xs++[x]) (m++[p])
 |_,_,.nil=>.cons h .nil|_,_,.cons h' t=>.cons h' (ziw.snoc h t)
theorem ShdN.snoc{cl:Cf}{w:Wd}{k:NK}{v:V}{d:D}(h:Shd cl w v d):∀{m:List (NK×V)}{ds:List (D×D)},ShdN cl w m ds->ShdN cl w (m++[(k,v)]) (ds++[(nkD k,d)])
 |_,_,.nil=>.cons h .nil|_,_,.cons r t=>.cons r (ShdN.snoc h t)
noncomputable def zx3(cl:Cf)(w:Wd)(r:Root)(v:V)(d:D):Prop:=∃a xs m ds,v=.ref a/\w.ow a=some r/\w.H a=some (.ext (DN cl.P cl.wo a xs))/\ziw w xs m/\ShdN cl w m ds/\d=.dic ds
noncomputable def zhH(cl:Cf)(w:Wd)(r:Root)(own:Bool)(v:V)(d:D):Prop:=(own=false/\Shd cl w v d)\/(own=true/\zx3 cl w r v d)
def zhH.keep{cl:Cf}{w w':Wd}(f:Fut w w'){r:Root}(k:∀a o,w.H a=some o->w.ow a=some r->w'.H a=some o/\w'.ow a=some r){b:Bool}{v:V}{d:D}(h:zhH cl w r b v d):zhH cl w' r b v d:=by
 rcases h with⟨e,h⟩|⟨e,a,xs,m,ds,e1,e2,e3,e4,e5,e6⟩
 ·exact .inl ⟨e,h.up f⟩
 ·exact .inr ⟨e,a,xs,m,ds,e1,(k a _ e3 e2).2,(k a _ e3 e2).1,e4.up f,e5.up f,e6⟩
structure Ob where
 cls:Str
 fs:List (Str×Bool×D)
noncomputable abbrev Sto:=List Ob
noncomputable def zc0(cl:Cf)(w:Wd)(n:Nat):List (Str×V)->List (Str×Bool×D)->Prop:=Paired fun p q=>p.1=q.1/\zhH cl w (.fld n q.1) q.2.1 p.2 q.2.2
noncomputable def zrz(cl:Cf)(w:Wd)(n:Nat)(a:Addr)(ob:Ob):Prop:=w.ow a=some (.obj n)/\∃dx fs,w.H a=some (.ins (cl ob.cls) dx fs)/\zc0 cl w n fs ob.fs
noncomputable def zqh(n:Nat):Option Root->Prop|some (.obj m)=>m=n|some (.fld m _)=>m=n|_=>False
theorem zc0.keep{cl:Cf}{w w':Wd}(f:Fut w w'){n:Nat}(k:∀a o,w.H a=some o->zqh n (w.ow a)->w'.H a=some o/\w'.ow a=w.ow a):∀{fs:List (Str×V)}{gs:List (Str×Bool×D)},zc0 cl w n fs gs->zc0 cl w' n fs gs
 |_,_,.nil=>.nil|_,_,.cons ⟨e,h⟩ t=>.cons ⟨e,h.keep f fun a o ha hr=>by
   have:=k a o ha (by rw[hr];rfl)
   exact⟨this.1,this.2.trans hr⟩⟩ (zc0.keep f k t)
theorem zrz.keep{cl:Cf}{w w':Wd}(f:Fut w w'){n:Nat}{a:Addr}{ob:Ob}(k:∀a o,w.H a=some o->zqh n (w.ow a)->w'.H a=some o/\w'.ow a=w.ow a)(h:zrz cl w n a ob):zrz cl w' n a ob:=by
 obtain⟨h1,dx,fs,h2,h3⟩:=h;have:=k a _ h2 (by rw[h1];rfl);exact⟨this.2.trans h1,dx,fs,this.1,h3.keep f k⟩
structure Base where
 Fr:Hp
 fw:Ow
structure World'(cl:Cf)(B:Base)(w:Wd)(S:Sto):Prop where
 fr:∀a o,B.Fr a=some o->w.H a=some o/\w.ow a=B.fw a
 own:∀a r,w.ow a=some r->r=.far\/B.Fr a=none
 len:w.mu.length=S.length
 obj:∀(n:Nat) (ob:Ob),S[n]?=some ob->∃a,w.mu[n]?=some a/\zrz cl w n a ob
noncomputable abbrev Env:=List (Option (Bool×D))
structure Rel(cl:Cf)(B:Base)(σ:St)(w:Wd)(ρ:Env)(S:Sto):Prop where
 wd:World' cl B w S
 len:σ.length=ρ.length
 slots:∀(i:Nat) (o:Bool) (d:D),ρ[i]?=some (some (o,d))->∃v,σ[i]?=some (some v)/\ziu cl w (.slot i) o v d
structure Grow(w w':Wd):Prop where
 keep:∀a o,w.H a=some o->w'.H a=some o/\w'.ow a=w.ow a
 new:∀a r,w'.ow a=some r->w.H a=none->w.ow a=some r\/r=.far
 mu:w'.mu=w.mu
def Grow.refl(w:Wd):Grow w w:=⟨fun _ _ h=>⟨h,rfl⟩,fun _ _ h _=>.inl h,rfl⟩
def Grow.fut{w w':Wd}(g:Grow w w'):Fut w w':=⟨fun a o h k=>⟨(g.keep a o h).1,(g.keep a o h).2.trans k⟩,fun n a h=>by rw[g.mu];exact h⟩
def World'.grow{cl:Cf}{B:Base}{w w':Wd}{S:Sto}(W:World' cl B w S)(g:Grow w w'):World' cl B w' S where
 fr:=fun a o h=>by
  obtain⟨h1,h2⟩:=W.fr a o h;exact⟨(g.keep a o h1).1,(g.keep a o h1).2.trans h2⟩
 own:=fun a r h=>by
  cases e:w.H a with
  |none=>exact(g.new a r h e).elim (W.own a r) .inl|some o=>exact W.own a r (by rw[<-(g.keep a o e).2];exact h)
 len:=by rw[g.mu];exact W.len
 obj:=fun n ob h=>by
  obtain⟨a,e,x⟩:=W.obj n ob h;exact⟨a,by rw[g.mu];exact e,x.keep g.fut fun a o ha _=>g.keep a o ha⟩
theorem Rel.grow{cl:Cf}{B:Base}{σ:St}{w w':Wd}{ρ:Env}{S:Sto}(R:Rel cl B σ w ρ S)(g:Grow w w'):Rel cl B σ w' ρ S where
 wd:=R.wd.grow g
 len:=R.len
 slots:=fun i o d h=>by
  obtain⟨v,e,x⟩:=R.slots i o d h;exact⟨v,e,x.keep g.fut fun a o ha hr=>⟨(g.keep a o ha).1,(g.keep a o ha).2.trans hr⟩⟩
def Wd.add(w:Wd)(p:Addr)(o:HO):Wd:=⟨upd w.H p o,fun a=>if a=p then none else w.ow a,w.mu⟩
def zar{w:Wd}{p:Addr}(h:w.H p=none)(o:HO):Grow w (w.add p o)where
 keep:=fun a u ha=>by
  have n:a≠p:=zao ha h;refine⟨?_,?_⟩
  ·show upd w.H p o a=_;rw[zah n];exact ha
  ·show(if a=p then none else w.ow a)=_;rw[if_neg n]
 new:=fun a r h1 h2=>by
  have h1':(if a=p then none else w.ow a)=some r:=h1;split at h1'
  ·cases h1'
  ·exact .inl h1'
 mu:=rfl
def zfm{w:Wd}{p:Addr}{o:HO}:(w.add p o).ow p=none:=if_pos rfl
def zjb{w:Wd}{p:Addr}{o:HO}:(w.add p o).H p=some o:=zau
def Shd.newT{cl:Cf}{w:Wd}{p:Addr}{xs:List V}{ds:List D}(h:w.H p=none)(r:Shds cl w xs ds):Shd cl (w.add p (.tup xs)) (.ref p) (.tup ds):=.tup zjb zfm (r.up (zar h _).fut)
def Shd.newL{cl:Cf}{w:Wd}{p:Addr}{xs:List V}{ds:List D}(h:w.H p=none)(r:Shds cl w xs ds):Shd cl (w.add p (.lst xs)) (.ref p) (.lst ds):=.lst zjb zfm (r.up (zar h _).fut)
def Shd.newO{cl:Cf}{w:Wd}{p:Addr}{o:HO}{d:D}(h:w.H p=none)(r:Top cl w o d):Shd cl (w.add p o) (.ref p) d:=by
 have g:=(zar h o).fut
 cases r with
 |lst r=>exact .lst zjb zfm (r.up g)|dicK r=>exact .dicK zjb zfm (r.up g)|dicX x=>exact .dicX zjb zfm (x.up g)
inductive Out(α:Type)where
 |ok (a:α) (S:Sto)|exc (c:Str) (S:Sto)|bad
noncomputable abbrev Fe:=Env->Sto->Out D
inductive Fo where
 |nx (ρ:Env) (S:Sto)|rt (d:D) (S:Sto)|bk (ρ:Env) (S:Sto)|ct (ρ:Env) (S:Sto)|ex (c:Str) (ρ:Env) (S:Sto)|bad
noncomputable abbrev Fs:=Env->Sto->Fo
noncomputable def tE(cl:Cf)(E:St->XK)(f:Fe):TE:=fun σ H Q=>∃B w ρ S,w.H=H/\Rel cl B σ w ρ S/\match f ρ S with
 |.ok d S'=>∀v w',Rel cl B σ w' ρ S'->Fut w w'->Shd cl w' v d->Q v w'.H|.exc c S'=>∀w',Rel cl B σ w' ρ S'->Fut w w'->E σ (.ref (cl c)) none w'.H|.bad=>False
noncomputable def tN(cl:Cf)(E:St->XK)(f:Fe):TE:=fun σ H Q=>∃B w ρ S,w.H=H/\Rel cl B σ w ρ S/\match f ρ S with
 |.ok d S'=>∀p o w',Rel cl B σ w' ρ S'->Fut w w'->w'.H p=none->Top cl w' o d->Q (.ref p) (upd w'.H p o)|.exc c S'=>∀w',Rel cl B σ w' ρ S'->Fut w w'->E σ (.ref (cl c)) none w'.H|.bad=>False
noncomputable def Hd(cl:Cf)(σ:St)(ρ:Env)(w:Wd)(v:V)(d:D):Prop:=Shd cl w v d\/∃i:Nat,ρ[i]?=some (some (true,d))/\σ[i]?=some (some v)
noncomputable def tH(cl:Cf)(E:St->XK)(f:Fe):TE:=fun σ H Q=>∃B w ρ S,w.H=H/\Rel cl B σ w ρ S/\match f ρ S with
 |.ok d S'=>∀v w',Rel cl B σ w' ρ S'->Fut w w'->Hd cl σ ρ w' v d->Q v w'.H|.exc c S'=>∀w',Rel cl B σ w' ρ S'->Fut w w'->E σ (.ref (cl c)) none w'.H|.bad=>False
inductive TopV(cl:Cf)(w:Wd):V->D->Prop
 |sh {v:V}{d:D}:Shd cl w v d->TopV cl w v d
 |ow {a:Addr}{o:HO}{d:D}:w.H a=some o->Top cl w o d->TopV cl w (.ref a) d
 |nst {a:Addr}{s:Str}{d:D}:TopV cl w (.ref a) (.dic [(.exc s,d)])
def Hd.top{cl:Cf}{B:Base}{σ:St}{ρ:Env}{w:Wd}{S:Sto}{v:V}{d:D}(h:Hd cl σ ρ w v d)(R:Rel cl B σ w ρ S):TopV cl w v d:=by
 rcases h with h|⟨i,h1,h2⟩
 ·exact .sh h
 ·obtain⟨v',e,⟨a,o,rfl,_,h3,t⟩|h⟩:=R.slots i true d h1
  ·rw[h2]at e;cases e;exact .ow h3 t
  ·obtain⟨a,bs,rows,rfl,rfl,_⟩:=h.ex;rw[h2]at e;cases e;exact .nst
theorem Hd.up{cl:Cf}{σ:St}{ρ:Env}{w w':Wd}{v:V}{d:D}(f:Fut w w')(h:Hd cl σ ρ w v d):Hd cl σ ρ w' v d:=by
 rcases h with h|h
 ·exact .inl (h.up f)
 ·exact .inr h
def PE.imp{X:Cx}{e:Expr}{t t':TE}(h:PE X e t)(i:∀σ H Q,t' σ H Q->t σ H Q):PE X e t':=fun pins s σ H Q I q=>h pins s σ H Q I (i _ _ _ q)
def zsk{cl:Cf}{E:St->XK}{f:Fe}{σ:St}{H:Hp}{Q:VK}(h:tE cl E f σ H Q):tN cl E f σ H Q:=by
 obtain⟨B,w,ρ,S,e,R,h⟩:=h;refine⟨B,w,ρ,S,e,R,?_⟩
 cases hf:f ρ S with
 |ok d S'=>
  rw[hf]at h;intro p o w' R' F' hp t;exact h (.ref p) (w'.add p o) (R'.grow (zar hp o)) (F'.trans (zar hp o).fut) (Shd.newO hp t)
 |exc c S'=>rwa[hf]at h|bad=>rwa[hf]at h
def zsj{cl:Cf}{E:St->XK}{f:Fe}{σ:St}{H:Hp}{Q:VK}(h:tH cl E f σ H Q):tE cl E f σ H Q:=by
 obtain⟨B,w,ρ,S,e,R,h⟩:=h;refine⟨B,w,ρ,S,e,R,?_⟩
 cases hf:f ρ S with
 |ok d S'=>
  rw[hf]at h;intro v w' R' F' t;exact h v w' R' F' (.inl t)
 |exc c S'=>rwa[hf]at h|bad=>rwa[hf]at h
noncomputable def Out.bind{α β:Type}(o:Out α)(k:α->Sto->Out β):Out β:=match o with|.ok a S=>k a S|.exc c S=>.exc c S|.bad=>.bad
noncomputable def Out.of{α:Type}(o:Option α)(S:Sto):Out α:=match o with|some a=>.ok a S|none=>.bad
@[simp] def Out.bind_ok{α β:Type}(a:α)(S:Sto)(k:α->Sto->Out β):(Out.ok a S).bind k=k a S:=rfl
@[simp] def Out.bind_exc{α β:Type}(c:Str)(S:Sto)(k:α->Sto->Out β):(Out.exc c S:Out α).bind k=.exc c S:=rfl
@[simp] def Out.bind_bad{α β:Type}(k:α->Sto->Out β):(Out.bad:Out α).bind k=.bad:=rfl
@[simp] def Out.of_some{α:Type}(a:α)(S:Sto):Out.of (some a) S=.ok a S:=rfl
noncomputable def zad(i:Nat):Fe:=fun ρ S=>match ρ[i]? with|some (some (false,d))=>.ok d S|_=>.bad
noncomputable def zaf(i:Nat):Fe:=fun ρ S=>match ρ[i]? with|some (some (_,d))=>.ok d S|_=>.bad
noncomputable def zab(d:D):Fe:=fun _ S=>.ok d S
def eUn(g:D->Option D)(f:Fe):Fe:=fun ρ S=>(f ρ S).bind fun a S1=>Out.of (g a) S1
def zac(g:D->D->Option D)(f h:Fe):Fe:=fun ρ S=>(f ρ S).bind fun a S1=>(h ρ S1).bind fun b S2=>Out.of (g a b) S2
noncomputable def isB:D->Option Bool|.bl b=>some b|_=>none
def eIf(c f h:Fe):Fe:=fun ρ S=>(c ρ S).bind fun d S1=>match isB d with|some true=>f ρ S1|some false=>h ρ S1|none=>.bad
def zf2(f h:Fe):Fe:=fun ρ S=>(f ρ S).bind fun d S1=>match isB d with|some true=>h ρ S1|some false=>.ok (.bl false) S1|none=>.bad
def eOr(f h:Fe):Fe:=fun ρ S=>(f ρ S).bind fun d S1=>match isB d with|some true=>.ok (.bl true) S1|some false=>h ρ S1|none=>.bad
noncomputable def zd6:D->Option D|.bl b=>some (.bl (!b))|_=>none
def zaj:List Fe->Env->Sto->Out (List D)
 |[],_,S=>.ok [] S|f::fs,ρ,S=>(f ρ S).bind fun d S1=>(zaj fs ρ S1).bind fun ds S2=>.ok (d::ds) S2
noncomputable def zaL(n:Nat):Bool:=decide (n<=100000)
def zcb(fs:List Fe):Fe:=fun ρ S=>(zaj fs ρ S).bind fun ds S1=>if zaL ds.length then .ok (.tup ds) S1 else .bad
def zgI(fs:List Fe):Fe:=fun ρ S=>(zaj fs ρ S).bind fun ds S1=>if zaL ds.length then .ok (.lst ds) S1 else .bad
def zaR(g:List D->Option D)(fs:List Fe):Fe:=fun ρ S=>(zaj fs ρ S).bind fun ds S1=>Out.of (g ds) S1
def zaO{n:Nat}(h:zaL n=true):n<=sizeLine:=yan (yak h) (by decide)
noncomputable def zb2:Expr->Bool|.Starred _ _=>false|_=>true
def zbr{e:Expr}{es:List Expr}{env:PySem.Env}(h:zb2 e=true):starEach (e::es) env=(false,eval e env)::starEach es env:=by
 cases e<;>first|rfl|cases h
theorem zbB{pos:Pos}{env:PySem.Env}:∀{es:List Expr},es.all zb2=true->(backTo pos (starEach es env)).any (·.1)=false
 |[],_=>rfl|e::es,h=>by
  rw[ybv,yac]at h;rw[zbr h.1];show(false||(backTo pos (starEach es env)).any (·.1))=false;rw[zbB h.2];rfl
theorem zgq{pos:Pos}{env:PySem.Env}:∀{es:List Expr},es.all zb2=true->(backTo pos (starEach es env)).all (fun x=>!x.1)=true
 |[],_=>rfl|e::es,h=>by
  rw[ybv,yac]at h;rw[zbr h.1];show(true&&(backTo pos (starEach es env)).all (fun x=>!x.1))=true;rw[zgq h.2];rfl
def zkB{pos:Pos}{env:PySem.Env}{es:List Expr}(h:es.all zb2=true)(hl:es.length<30):((backTo pos (starEach es env)).all (fun x=>!x.1)&&(backToKw pos (keywordEach [] env)).all (fun x=>x.1.isSome)
   && decide (es.length+([]:List Keyword).length+(if([]:List Keyword).isEmpty then 0 else 1)<30))=true:=by
 rw[zgq h];show(true&&true&&decide (es.length+0+0<30))=true;simpa using hl
noncomputable def Hds(cl:Cf)(σ:St)(ρ:Env)(w:Wd):List V->List D->Prop:=Paired (Hd cl σ ρ w)
noncomputable def zk0(cl:Cf)(w:Wd):List V->List D->Prop:=Paired (TopV cl w)
theorem Hds.top{cl:Cf}{B:Base}{σ:St}{ρ:Env}{w:Wd}{S:Sto}(R:Rel cl B σ w ρ S):∀{vs:List V}{ds:List D},Hds cl σ ρ w vs ds->zk0 cl w vs ds
 |_,_,.nil=>.nil|_,_,.cons h t=>.cons (h.top R) (Hds.top R t)
noncomputable def tAs(cl:Cf)(E:St->XK)(fs:List Fe):TA:=fun σ H Q=>∃B w ρ S,w.H=H/\Rel cl B σ w ρ S/\match zaj fs ρ S with
 |.ok ds S'=>∀vs w',Rel cl B σ w' ρ S'->Fut w w'->Shds cl w' vs ds->Q vs w'.H|.exc c S'=>∀w',Rel cl B σ w' ρ S'->Fut w w'->E σ (.ref (cl c)) none w'.H|.bad=>False
noncomputable def tHs(cl:Cf)(E:St->XK)(fs:List Fe):TA:=fun σ H Q=>∃B w ρ S,w.H=H/\Rel cl B σ w ρ S/\match zaj fs ρ S with
 |.ok ds S'=>∀vs w',Rel cl B σ w' ρ S'->Fut w w'->Hds cl σ ρ w' vs ds->Q vs w'.H|.exc c S'=>∀w',Rel cl B σ w' ρ S'->Fut w w'->E σ (.ref (cl c)) none w'.H|.bad=>False
def PA.imp{X:Cx}{es:List Expr}{t t':TA}(h:PA X es t)(i:∀σ H Q,t' σ H Q->t σ H Q):PA X es t':=fun pos pins s σ H Q I q=>h pos pins s σ H Q I (i _ _ _ q)
def PT.imp{X:Cx}{e:Expr}{t t':TT}(h:PT X e t)(i:∀σ H Q,t' σ H Q->t σ H Q):PT X e t':=fun pins s σ H Q I q=>h pins s σ H Q I (i _ _ _ q)
section
variable{X:Cx}{cl:Cf}{E:St->XK}{a b c e:Expr}{f h g:Fe}{pos:Pos}
def zpA{i:Nat}{x:Str}(hN:X.N[i]?=some x)(hv:Vis X.env.scope x)(hd:(x==("__debug__":Str))=false)(hcd:(x==("__classdict__":Str))=false):PE X (.Name x pos) (tE cl E (zad i)):=by
 refine PE.imp (zbQ hN hv hd hcd) ?_;rintro σ H Q ⟨B,w,ρ,S,rfl,R,q⟩;unfold zad at q;split at q
 ·rename_i o d S' hm;split at hm
  ·rename_i d' he;cases hm;obtain⟨v,e,r⟩:=R.slots i false d he;exact⟨v,e,q v w R (Fut.refl _) r⟩
  ·cases hm
 ·rename_i hm;split at hm<;>cases hm
 ·exact q.elim
def zpJ{i:Nat}{x:Str}(hN:X.N[i]?=some x)(hv:Vis X.env.scope x)(hd:(x==("__debug__":Str))=false)(hcd:(x==("__classdict__":Str))=false):PE X (.Name x pos) (tH cl E (zaf i)):=by
 refine PE.imp (zbQ hN hv hd hcd) ?_;rintro σ H Q ⟨B,w,ρ,S,rfl,R,q⟩;unfold zaf at q;split at q
 ·rename_i o d S' hm;split at hm
  ·rename_i b d' he;cases hm;obtain⟨v,e,r⟩:=R.slots i b d he;refine⟨v,e,q v w R (Fut.refl _) ?_⟩
   cases b with
   |false=>exact .inl r|true=>exact .inr ⟨i,he,e⟩
  ·cases hm
 ·rename_i hm;split at hm<;>cases hm
 ·exact q.elim
def zjx{v:V}{d:D}(h:PE X e (tC v))(hd:∀w,Shd cl w v d):PE X e (tE cl E (zab d)):=by
 refine PE.imp h ?_;rintro σ H Q ⟨B,w,ρ,S,rfl,R,q⟩;exact q v w R (Fut.refl _) (hd w)
def znD(h:PE X e (tE cl E f)):PE X e (tH cl E f):=PE.imp h fun _ _ _=>zsj
def ze7(h:PE X e (tN cl E f)):PE X e (tE cl E f):=PE.imp h fun _ _ _=>zsk
noncomputable def OpD(X:Cx)(cl:Cf)(op:Value->Value->Sem Value)(g:D->D->Option D):Prop:=OpR X op fun x y H Q=>∃w d e r,w.H=H/\TopV cl w x d/\TopV cl w y e/\g d e=some r/\∀v w',Grow w w'->Shd cl w' v r->Q v w'.H
noncomputable def UnD(X:Cx)(cl:Cf)(op:Value->Sem Value)(g:D->Option D):Prop:=UnR X op fun x H Q=>∃w d r,w.H=H/\TopV cl w x d/\g d=some r/\∀v w',Grow w w'->Shd cl w' v r->Q v w'.H
noncomputable def zk4(X:Cx)(cl:Cf)(fv:Value)(g:List D->Option D):Prop:=zdT X fv fun xs H Q=>∃w ds r,w.H=H/\zk0 cl w xs ds/\g ds=some r/\∀v w',Grow w w'->Shd cl w' v r->Q v w'.H
noncomputable def zoT(X:Cx)(cl:Cf)(fv:Value)(g:List D->Option D):Prop:=zdT X fv fun xs H Q=>∃w ds r,w.H=H/\zk0 cl w xs ds/\g ds=some r/\∀p o w',Grow w w'->w'.H p=none->Top cl w' o r->Q (.ref p) (upd w'.H p o)
noncomputable def IxD(X:Cx)(cl:Cf)(g:D->D->Option D):Prop:=IxR X fun x y H Q=>∃w d e r,w.H=H/\TopV cl w x d/\TopV cl w y e/\g d e=some r/\∀v w',Grow w w'->Shd cl w' v r->Q v w'.H
def two{gg:D->D->Option D}{r2:R2}(hr:∀x y H Q,(∃w d e r,w.H=H/\TopV cl w x d/\TopV cl w y e/\gg d e=some r/\∀v w',Grow w w'->Shd cl w' v r->Q v w'.H)->r2 x y H Q)(σ:St)(H:Hp)(Q:VK)(q:tE cl E (zac gg f h) σ H Q):tOp r2 (tH cl E f) (tH cl E h) σ H Q:=by
 obtain⟨B,w,ρ,S,rfl,R,q⟩:=q;refine⟨B,w,ρ,S,rfl,R,?_⟩;unfold zac at q
 cases hf:f ρ S with
 |bad=>rwa[hf]at q|exc c S1=>rwa[hf]at q|ok d S1=>
  rw[hf]at q;intro v w1 R1 F1 h1;refine⟨B,w1,ρ,S1,rfl,R1,?_⟩;dsimp only[Out.bind]at q
  cases hh:h ρ S1 with
  |bad=>rwa[hh]at q|exc c S2=>rw[hh]at q;exact fun w2 R2 F2=>q w2 R2 (F1.trans F2)|ok e S2=>
   rw[hh]at q;intro y w2 R2 F2 h2;dsimp only at q
   cases hg:gg d e with
   |none=>rw[hg]at q;exact q.elim|some r=>
    rw[hg]at q;exact hr _ _ _ _ ⟨w2,d,e,r,rfl,(h1.up F2).top R2,h2.top R2,hg,fun v' w' gr sh=>q v' w' (R2.grow gr) (F1.trans (F2.trans gr.fut)) sh⟩
def zpK{op:Operator}{gg:D->D->Option D}(ho:OpD X cl (binaryOp op) gg)(ha:PE X a (tH cl E f))(hb:PE X b (tH cl E h)):PE X (.BinOp a op b pos) (tE cl E (zac gg f h)):=
 PE.imp (zsJ ho ha hb) (two fun _ _ _ _ z=>z)
def zsw{gg:D->D->Option D}(ho:IxD X cl gg)(ha:PE X a (tH cl E f))(hb:PE X b (tH cl E h))(hs:zfZ b):PE X (.Subscript a b pos) (tE cl E (zac gg f h)):=
 PE.imp (zjQ ho ha hb hs) (two fun _ _ _ _ z=>z)
def zpI{op:CmpOp}{gg:D->D->Option D}(ho:OpD X cl (compareOp op) gg)(ha:PE X a (tH cl E f))(hb:PE X b (tH cl E h))(hm:behindInMarks op b=false):PE X (.Compare a [op] [b] pos) (tE cl E (zac gg f h)):=
 PE.imp (zjT ho ha hb hm) (two fun _ _ _ _ z=>z)
def zst{op:UnaryOp}{gg:D->Option D}(ho:UnD X cl (unaryOp op) gg)(ha:PE X a (tH cl E f)):PE X (.UnaryOp op a pos) (tE cl E (eUn gg f)):=by
 refine PE.imp (zsH ho ha) ?_;rintro σ H Q ⟨B,w,ρ,S,rfl,R,q⟩;refine⟨B,w,ρ,S,rfl,R,?_⟩;unfold eUn at q
 cases hf:f ρ S with
 |bad=>rwa[hf]at q|exc c S1=>rwa[hf]at q|ok d S1=>
  rw[hf]at q;intro v w1 R1 F1 h1;dsimp only[Out.bind]at q
  cases hg:gg d with
  |none=>rw[hg]at q;exact q.elim|some r=>
   rw[hg]at q;exact⟨w1,d,r,rfl,h1.top R1,hg,fun v' w' gr sh=>q v' w' (R1.grow gr) (F1.trans gr.fut) sh⟩
noncomputable def tTr(cl:Cf)(E:St->XK)(f:Fe):TT:=fun σ H Q=>∃B w ρ S,w.H=H/\Rel cl B σ w ρ S/\match f ρ S with
 |.ok d S'=>match isB d with
  |some b=>∀w',Rel cl B σ w' ρ S'->Fut w w'->Q b w'.H|none=>False
 |.exc c S'=>∀w',Rel cl B σ w' ρ S'->Fut w w'->E σ (.ref (cl c)) none w'.H|.bad=>False
def zcX{d:D}{b:Bool}(h:isB d=some b):d=.bl b:=by
 cases d<;>simp[isB]at h
 subst h;rfl
def zge{w:Wd}{v:V}{b:Bool}(h:Shd cl w v (.bl b)):v=.bl b:=by cases h;rfl
def zhP{σ:St}{H:Hp}{Q:Bool->Hp->Prop}(q:tTr cl E f σ H Q):tB (tE cl E f) σ H Q:=by
 obtain⟨B,w,ρ,S,rfl,R,q⟩:=q;refine⟨B,w,ρ,S,rfl,R,?_⟩
 cases hf:f ρ S with
 |bad=>rwa[hf]at q|exc c S1=>rwa[hf]at q|ok d S1=>
  rw[hf]at q;intro v w1 R1 F1 h1;dsimp only at q
  cases hb:isB d with
  |none=>rw[hb]at q;exact q.elim|some b=>
   rw[hb]at q;rw[zcX hb]at h1;exact⟨b,zge h1,q w1 R1 F1⟩
def zhS(h:PE X e (tE cl E f))(he:∀whole,isTrue e X.env whole=(do let v ← whole;standAt e.pos;holding [v] (truthy v))):PT X e (tTr cl E f):=
 PT.imp (zpU h he) fun _ _ _ q=>zhP q
def zjp{gg:D->D->Option D}{r2:R2}(hr:∀x y H Q,(∃w d e r,w.H=H/\TopV cl w x d/\TopV cl w y e/\gg d e=some r/\∀v w',Grow w w'->Shd cl w' v r->Q v w'.H)->r2 x y H Q){σ:St}{H:Hp}{Q:Bool->Hp->Prop}(q:tTr cl E (zac gg f h) σ H Q):zni (tOp r2 (tH cl E f) (tH cl E h)) σ H Q:=
 two hr σ H _ (zhP q)
def zpi{op:CmpOp}{gg:D->D->Option D}(ho:OpD X cl (compareOp op) gg)(ha:PE X a (tH cl E f))(hb:PE X b (tH cl E h))(hm:behindInMarks op b=false):PT X (.Compare a [op] [b] pos) (tTr cl E (zac gg f h)):=
 PT.imp (zjG ho ha hb hm) fun _ _ _ q=>zjp (fun _ _ _ _ z=>z) q
def PW.imp{X:Cx}{e:Expr}{t t':TT}(h:PW X e t)(i:∀σ H Q,t' σ H Q->t σ H Q):PW X e t':=fun whole pins s σ H Q I q=>h whole pins s σ H Q I (i _ _ _ q)
def znh{σ:St}{H:Hp}{Q:Bool->Hp->Prop}(q:tTr cl E (zf2 f h) σ H Q):zuH (tTr cl E f) (tTr cl E h) σ H Q:=by
 obtain⟨B,w,ρ,S,rfl,R,q⟩:=q;refine⟨B,w,ρ,S,rfl,R,?_⟩;unfold zf2 at q
 cases hf:f ρ S with
 |bad=>rwa[hf]at q|exc c S1=>rwa[hf]at q|ok d S1=>
  rw[hf]at q;dsimp only[Out.bind]at q ⊢
  cases hb:isB d with
  |none=>rw[hb]at q;exact q.elim|some b=>
   rw[hb]at q;intro w1 R1 F1
   cases b with
   |false=>exact zl5 (q w1 R1 F1)|true=>
    refine zl4 ⟨B,w1,ρ,S1,rfl,R1,?_⟩;dsimp only at q
    cases hh:h ρ S1 with
    |bad=>rwa[hh]at q|exc c S2=>rw[hh]at q;exact fun w2 R2 F2=>q w2 R2 (F1.trans F2)|ok e S2=>
     rw[hh]at q;dsimp only at q ⊢
     cases hb2:isB e with
     |none=>rw[hb2]at q;exact q.elim|some b2=>rw[hb2]at q;exact fun w2 R2 F2=>q w2 R2 (F1.trans F2)
def zo8{σ:St}{H:Hp}{Q:Bool->Hp->Prop}(q:tTr cl E (eOr f h) σ H Q):tOr (tTr cl E f) (tTr cl E h) σ H Q:=by
 obtain⟨B,w,ρ,S,rfl,R,q⟩:=q;refine⟨B,w,ρ,S,rfl,R,?_⟩;unfold eOr at q
 cases hf:f ρ S with
 |bad=>rwa[hf]at q|exc c S1=>rwa[hf]at q|ok d S1=>
  rw[hf]at q;dsimp only[Out.bind]at q ⊢
  cases hb:isB d with
  |none=>rw[hb]at q;exact q.elim|some b=>
   rw[hb]at q;intro w1 R1 F1
   cases b with
   |true=>exact zl4 (q w1 R1 F1)|false=>
    refine zl5 ⟨B,w1,ρ,S1,rfl,R1,?_⟩;dsimp only at q
    cases hh:h ρ S1 with
    |bad=>rwa[hh]at q|exc c S2=>rw[hh]at q;exact fun w2 R2 F2=>q w2 R2 (F1.trans F2)|ok e S2=>
     rw[hh]at q;dsimp only at q ⊢
     cases hb2:isB e with
     |none=>rw[hb2]at q;exact q.elim|some b2=>rw[hb2]at q;exact fun w2 R2 F2=>q w2 R2 (F1.trans F2)
def zng{σ:St}{H:Hp}{Q:Bool->Hp->Prop}(q:tTr cl E (eUn zd6 f) σ H Q):zuF (tTr cl E f) σ H Q:=by
 obtain⟨B,w,ρ,S,rfl,R,q⟩:=q;refine⟨B,w,ρ,S,rfl,R,?_⟩;unfold eUn at q
 cases hf:f ρ S with
 |bad=>rwa[hf]at q|exc c S1=>rwa[hf]at q|ok d S1=>
  rw[hf]at q;dsimp only[Out.bind]at q ⊢
  cases hb:isB d with
  |none=>
   have:zd6 d=none:=by cases d<;>simp[isB]at hb<;>rfl
   rw[this]at q;exact q.elim
  |some b=>
   rwa[zcX hb]at q
def zpg(ha:PT X a (tTr cl E f)):PT X (.UnaryOp .Not a pos) (tTr cl E (eUn zd6 f)):=PT.imp (zpV ha) fun _ _ _ q=>zng q
def zpe{zbF:List Expr}(ha:PT X a (tTr cl E f))(hb:PW X (.BoolOp .And (b::zbF) pos) (tTr cl E h)):PW X (.BoolOp .And (a::b::zbF) pos) (tTr cl E (zf2 f h)):=PW.imp (zpT ha hb) fun _ _ _ q=>znh q
def zsq{zbF:List Expr}(ha:PT X a (tTr cl E f))(hb:PW X (.BoolOp .Or (b::zbF) pos) (tTr cl E h)):PW X (.BoolOp .Or (a::b::zbF) pos) (tTr cl E (eOr f h)):=PW.imp (zsF ha hb) fun _ _ _ q=>zo8 q
def zpL{zbF:List Expr}(ha:PE X a (tE cl E f))(hb:PE X (.BoolOp .And (b::zbF) pos) (tE cl E h)):PE X (.BoolOp .And (a::b::zbF) pos) (tE cl E (zf2 f h)):=by
 refine PE.imp (zp7 ha hb) ?_;rintro σ H Q ⟨B,w,ρ,S,rfl,R,q⟩;refine⟨B,w,ρ,S,rfl,R,?_⟩;unfold zf2 at q
 cases hf:f ρ S with
 |bad=>rwa[hf]at q|exc c S1=>rwa[hf]at q|ok d S1=>
  rw[hf]at q;intro v w1 R1 F1 h1;dsimp only[Out.bind]at q
  cases hb:isB d with
  |none=>rw[hb]at q;exact q.elim|some b=>
   rw[hb]at q;rw[zcX hb]at h1;refine⟨b,zge h1,?_⟩
   cases b with
   |false=>exact zl5 (q _ w1 R1 F1 (.bl false))|true=>
    refine zl4 ⟨B,w1,ρ,S1,rfl,R1,?_⟩;dsimp only at q
    cases hh:h ρ S1 with
    |bad=>rwa[hh]at q|exc c S2=>rw[hh]at q;exact fun w2 R2 F2=>q w2 R2 (F1.trans F2)|ok e S2=>rw[hh]at q;exact fun v w2 R2 F2=>q v w2 R2 (F1.trans F2)
def zsv{zbF:List Expr}(ha:PE X a (tE cl E f))(hb:PE X (.BoolOp .Or (b::zbF) pos) (tE cl E h)):PE X (.BoolOp .Or (a::b::zbF) pos) (tE cl E (eOr f h)):=by
 refine PE.imp (zsI ha hb) ?_;rintro σ H Q ⟨B,w,ρ,S,rfl,R,q⟩;refine⟨B,w,ρ,S,rfl,R,?_⟩;unfold eOr at q
 cases hf:f ρ S with
 |bad=>rwa[hf]at q|exc c S1=>rwa[hf]at q|ok d S1=>
  rw[hf]at q;intro v w1 R1 F1 h1;dsimp only[Out.bind]at q
  cases hb:isB d with
  |none=>rw[hb]at q;exact q.elim|some b=>
   rw[hb]at q;rw[zcX hb]at h1;refine⟨b,zge h1,?_⟩
   cases b with
   |true=>exact zl4 (q _ w1 R1 F1 (.bl true))|false=>
    refine zl5 ⟨B,w1,ρ,S1,rfl,R1,?_⟩;dsimp only at q
    cases hh:h ρ S1 with
    |bad=>rwa[hh]at q|exc c S2=>rw[hh]at q;exact fun w2 R2 F2=>q w2 R2 (F1.trans F2)|ok e S2=>rw[hh]at q;exact fun v w2 R2 F2=>q v w2 R2 (F1.trans F2)
def zpC(ha:PE X a (tE cl E f)):PE X (.UnaryOp .Not a pos) (tE cl E (eUn zd6 f)):=by
 refine PE.imp (zp3 ha) ?_;rintro σ H Q ⟨B,w,ρ,S,rfl,R,q⟩;refine⟨B,w,ρ,S,rfl,R,?_⟩;unfold eUn at q
 cases hf:f ρ S with
 |bad=>rwa[hf]at q|exc c S1=>rwa[hf]at q|ok d S1=>
  rw[hf]at q;intro v w1 R1 F1 h1;dsimp only[Out.bind]at q
  cases hb:isB d with
  |none=>
   have:zd6 d=none:=by cases d<;>simp[isB]at hb<;>rfl
   rw[this]at q;exact q.elim
  |some b=>
   rw[zcX hb]at q h1;exact⟨b,zge h1,q _ w1 R1 F1 (.bl _)⟩
def zsl{σ:St}{H:Hp}{Q:VK}(q:tE cl E (eIf g f h) σ H Q):tIf (tTr cl E g) (tE cl E f) (tE cl E h) σ H Q:=by
 obtain⟨B,w,ρ,S,rfl,R,q⟩:=q;refine⟨B,w,ρ,S,rfl,R,?_⟩;unfold eIf at q
 cases hg:g ρ S with
 |bad=>rwa[hg]at q|exc c S1=>rwa[hg]at q|ok d S1=>
  rw[hg]at q;dsimp only[Out.bind]at q ⊢
  cases hb:isB d with
  |none=>rw[hb]at q;exact q.elim|some b=>
   rw[hb]at q;intro w1 R1 F1
   cases b with
   |true=>
    refine zl4 ⟨B,w1,ρ,S1,rfl,R1,?_⟩;dsimp only at q
    cases hh:f ρ S1 with
    |bad=>rwa[hh]at q|exc c S2=>rw[hh]at q;exact fun w2 R2 F2=>q w2 R2 (F1.trans F2)|ok e S2=>rw[hh]at q;exact fun v w2 R2 F2=>q v w2 R2 (F1.trans F2)
   |false=>
    refine zl5 ⟨B,w1,ρ,S1,rfl,R1,?_⟩;dsimp only at q
    cases hh:h ρ S1 with
    |bad=>rwa[hh]at q|exc c S2=>rw[hh]at q;exact fun w2 R2 F2=>q w2 R2 (F1.trans F2)|ok e S2=>rw[hh]at q;exact fun v w2 R2 F2=>q v w2 R2 (F1.trans F2)
def zsx(hc:PT X c (tTr cl E g))(ha:PE X a (tE cl E f))(hb:PE X b (tE cl E h)):PE X (.IfExp c a b pos) (tE cl E (eIf g f h)):=PE.imp (zlI hc ha hb) fun _ _ _ q=>zsl q
def zgf:PA X [] (tAs cl E []):=by
 refine PA.imp zdX ?_;rintro σ H Q ⟨B,w,ρ,S,rfl,R,q⟩;exact q [] w R (Fut.refl _) .nil
def zdI{es:List Expr}{fs:List Fe}(ha:PE X e (tE cl E f))(hr:PA X es (tAs cl E fs))(hs:starEach (e::es) X.env=(false,eval e X.env)::starEach es X.env):PA X (e::es) (tAs cl E (f::fs)):=by
 refine PA.imp (zb7 ha hr hs) ?_;rintro σ H Q ⟨B,w,ρ,S,rfl,R,q⟩;refine⟨B,w,ρ,S,rfl,R,?_⟩;unfold zaj at q
 cases hf:f ρ S with
 |bad=>rwa[hf]at q|exc c S1=>rwa[hf]at q|ok d S1=>
  rw[hf]at q;intro v w1 R1 F1 h1;refine⟨B,w1,ρ,S1,rfl,R1,?_⟩;dsimp only[Out.bind]at q
  cases hh:zaj fs ρ S1 with
  |bad=>rwa[hh]at q|exc c S2=>rw[hh]at q;exact fun w2 R2 F2=>q w2 R2 (F1.trans F2)|ok ds S2=>
   rw[hh]at q;exact fun vs w2 R2 F2 h2=>q _ w2 R2 (F1.trans F2) (.cons (h1.up F2) h2)
def zmG:PA X [] (tHs cl E []):=by
 refine PA.imp zdX ?_;rintro σ H Q ⟨B,w,ρ,S,rfl,R,q⟩;exact q [] w R (Fut.refl _) .nil
def zjv{es:List Expr}{fs:List Fe}(ha:PE X e (tH cl E f))(hr:PA X es (tHs cl E fs))(hs:starEach (e::es) X.env=(false,eval e X.env)::starEach es X.env):PA X (e::es) (tHs cl E (f::fs)):=by
 refine PA.imp (zb7 ha hr hs) ?_;rintro σ H Q ⟨B,w,ρ,S,rfl,R,q⟩;refine⟨B,w,ρ,S,rfl,R,?_⟩;unfold zaj at q
 cases hf:f ρ S with
 |bad=>rwa[hf]at q|exc c S1=>rwa[hf]at q|ok d S1=>
  rw[hf]at q;intro v w1 R1 F1 h1;refine⟨B,w1,ρ,S1,rfl,R1,?_⟩;dsimp only[Out.bind]at q
  cases hh:zaj fs ρ S1 with
  |bad=>rwa[hh]at q|exc c S2=>rw[hh]at q;exact fun w2 R2 F2=>q w2 R2 (F1.trans F2)|ok ds S2=>
   rw[hh]at q;exact fun vs w2 R2 F2 h2=>q _ w2 R2 (F1.trans F2) (.cons (h1.up F2) h2)
def zpB{es:List Expr}{fs:List Fe}{k:Nat}(h:PA X es (tAs cl E fs)):PE X (.Tuple es k pos) (tE cl E (zcb fs)):=by
 refine PE.imp (zpZ h) ?_;rintro σ H Q ⟨B,w,ρ,S,rfl,R,q⟩;refine⟨B,w,ρ,S,rfl,R,?_⟩;unfold zcb at q
 cases hf:zaj fs ρ S with
 |bad=>rwa[hf]at q|exc c S1=>rwa[hf]at q|ok ds S1=>
  rw[hf]at q;intro vs w1 R1 F1 h1;dsimp only[Out.bind]at q
  cases hz:zaL ds.length with
  |false=>rw[hz,if_neg (by decide)]at q;exact q.elim
  |true=>
   rw[hz,if_pos rfl]at q;refine⟨by rw[h1.length];exact zaO hz,fun p hp=>?_⟩;exact q _ (w1.add p (.tup vs)) (R1.grow (zar hp _)) (F1.trans (zar hp _).fut) (Shd.newT hp h1)
def zpF{es:List Expr}{fs:List Fe}(h:PA X es (tAs cl E fs)):PE X (.List es pos) (tN cl E (zgI fs)):=by
 refine PE.imp (zp5 h) ?_;rintro σ H Q ⟨B,w,ρ,S,rfl,R,q⟩;refine⟨B,w,ρ,S,rfl,R,?_⟩;unfold zgI at q
 cases hf:zaj fs ρ S with
 |bad=>rwa[hf]at q|exc c S1=>rwa[hf]at q|ok ds S1=>
  rw[hf]at q;intro vs w1 R1 F1 h1;dsimp only[Out.bind]at q
  cases hz:zaL ds.length with
  |false=>rw[hz,if_neg (by decide)]at q;exact q.elim
  |true=>
   rw[hz,if_pos rfl]at q;refine⟨by rw[h1.length];exact zaO hz,fun p hp=>?_⟩;exact q _ (.lst vs) w1 R1 F1 hp (.lst h1)
def zpc{fs:List Fe}{gg:List D->Option D}{r:List V->Hp->VK->Prop}(hr:∀xs H Q,(∃w ds r,w.H=H/\zk0 cl w xs ds/\gg ds=some r/\∀v w',Grow w w'->Shd cl w' v r->Q v w'.H)->r xs H Q){σ:St}{H:Hp}{Q:VK}(q:tE cl E (zaR gg fs) σ H Q):tCB r (tHs cl E fs) σ H Q:=by
 obtain⟨B,w,ρ,S,rfl,R,q⟩:=q;refine⟨B,w,ρ,S,rfl,R,?_⟩;unfold zaR at q
 cases hf:zaj fs ρ S with
 |bad=>rwa[hf]at q|exc c S1=>rwa[hf]at q|ok ds S1=>
  rw[hf]at q;intro vs w1 R1 F1 h1;dsimp only[Out.bind]at q
  cases hg:gg ds with
  |none=>rw[hg]at q;exact q.elim|some d=>
   rw[hg]at q;exact hr _ _ _ ⟨w1,ds,d,rfl,h1.top R1,hg,fun v w' gr sh=>q v w' (R1.grow gr) (F1.trans gr.fut) sh⟩
def zpb{fs:List Fe}{gg:List D->Option D}{r:List V->Hp->VK->Prop}(hr:∀xs H Q,(∃w ds r,w.H=H/\zk0 cl w xs ds/\gg ds=some r/\∀p o w',Grow w w'->w'.H p=none->Top cl w' o r->Q (.ref p) (upd w'.H p o))->r xs H Q){σ:St}{H:Hp}{Q:VK}(q:tN cl E (zaR gg fs) σ H Q):tCB r (tHs cl E fs) σ H Q:=by
 obtain⟨B,w,ρ,S,rfl,R,q⟩:=q;refine⟨B,w,ρ,S,rfl,R,?_⟩;unfold zaR at q
 cases hf:zaj fs ρ S with
 |bad=>rwa[hf]at q|exc c S1=>rwa[hf]at q|ok ds S1=>
  rw[hf]at q;intro vs w1 R1 F1 h1;dsimp only[Out.bind]at q
  cases hg:gg ds with
  |none=>rw[hg]at q;exact q.elim|some d=>
   rw[hg]at q;exact hr _ _ _ ⟨w1,ds,d,rfl,h1.top R1,hg,fun p o w' gr hp t=>q p o w' (R1.grow gr) (F1.trans gr.fut) hp t⟩
end
noncomputable def Root.out:Option Root->Option Root|some (.slot _)=>some .far|o=>o
def Root.out_none{o:Option Root}:Root.out o=none↔o=none:=by
 cases o with
 |none=>exact⟨fun h=>h,fun h=>h⟩|some r=>cases r<;>simp[Root.out]
noncomputable def zeE:Option Root->Bool|some (.fld _ _)=>true|some (.obj _)=>true|_=>false
def Wd.inn(w:Wd):Wd:=⟨w.H,fun a=>Root.out (w.ow a),w.mu⟩
def Wd.base(w:Wd):Base:=⟨fun a=>if zeE (w.ow a)=true then none else w.H a,fun a=>Root.out (w.ow a)⟩
def Wd.back(w w':Wd):Wd:=⟨w'.H,fun a=>if(w.base.Fr a).isSome=true then w.ow a else Root.out (w'.ow a),w'.mu⟩
def zbS(w:Wd):Fut w w.inn:=⟨fun a o h k=>⟨h,by show Root.out (w.ow a)=none;rw[k];rfl⟩,fun _ _ h=>h⟩
def zgU{w:Wd}{a:Addr}{o:HO}(h:w.H a=some o)(k:zeE (w.ow a)=false):w.base.Fr a=some o:=by
 show(if zeE (w.ow a)=true then none else w.H a)=_;rw[k,if_neg (by decide)];exact h
def zn5{w:Wd}{a:Addr}{o:HO}(h:w.base.Fr a=some o):w.H a=some o/\zeE (w.ow a)=false:=by
 have h':(if zeE (w.ow a)=true then none else w.H a)=some o:=h;split at h'
 ·cases h'
 ·rename_i z;exact⟨h',by simpa using z⟩
section
variable{cl:Cf}{B:Base}{σ:St}{w w':Wd}{ρ:Env}{S S':Sto}
def World'.enter(W:World' cl B w S):World' cl w.base w.inn S where
 fr:=fun a o h=>⟨(zn5 h).1,rfl⟩
 own:=fun a r h=>by
  have h':Root.out (w.ow a)=some r:=h
  cases e:w.ow a with
  |none=>rw[e]at h';cases h'|some q=>
   cases q with
   |slot i=>rw[e]at h';cases h';exact .inl rfl|far=>rw[e]at h';cases h';exact .inl rfl|fld n f=>exact .inr (by show(if zeE (w.ow a)=true then none else w.H a)=none;rw[e];rfl)
   |obj n=>exact .inr (by show(if zeE (w.ow a)=true then none else w.H a)=none;rw[e];rfl)
 len:=W.len
 obj:=fun n ob h=>by
  obtain⟨a,e,x⟩:=W.obj n ob h;refine⟨a,e,x.keep (zbS w) fun a o ha hn=>⟨ha,?_⟩⟩;show Root.out (w.ow a)=w.ow a
  cases e:w.ow a with
  |none=>rfl|some q=>cases q with
   |slot i=>rw[e]at hn;exact hn.elim|_=>rfl
def zcT(W:World' cl B w S){a:Addr}{o:HO}(h:B.Fr a=some o):w.base.Fr a=some o:=by
 refine zgU (W.fr a o h).1 ?_
 cases e:w.ow a with
 |none=>rfl|some q=>
  rcases W.own a q e with rfl|z
  ·rfl
  ·rw[h]at z;cases z
def zcn(W':World' cl w.base w' S'):Fut w' (w.back w')where
 keep:=fun a o h k=>by
  refine⟨h,?_⟩;show(if(w.base.Fr a).isSome=true then w.ow a else Root.out (w'.ow a))=none;split
  ·rename_i z;obtain⟨u,hu⟩:=Option.isSome_iff_exists.mp z;have:=(W'.fr a u hu).2;rw[k]at this;exact Root.out_none.mp this.symm
  ·rw[k];rfl
 mu:=fun _ _ h=>h
def Rel.leave(R:Rel cl B σ w ρ S)(W':World' cl w.base w' S')(F:Fut w.inn w'):Rel cl B σ (w.back w') ρ S'/\Fut w (w.back w'):=by
 have fb:=zcn W';have ff:Fut w (w.back w'):=(zbS w).trans (F.trans fb)
 have in_:∀a o,w.base.Fr a=some o->(w.back w').H a=some o/\(w.back w').ow a=w.ow a:=fun a o h=>by
  refine⟨(W'.fr a o h).1,?_⟩;show(if(w.base.Fr a).isSome=true then w.ow a else _)=_;rw[h];rfl
 refine⟨⟨⟨fun a o h=>?_,fun a r h=>?_,W'.len,fun n ob h=>?_⟩,R.len,fun i o d h=>?_⟩,ff⟩
 ·have:=in_ a o (zcT R.wd h);exact⟨this.1,this.2.trans (R.wd.fr a o h).2⟩
 ·cases hb:B.Fr a with
  |none=>exact .inr rfl|some o=>
   have:=(in_ a o (zcT R.wd hb)).2;rw[h]at this
   rcases R.wd.own a r this.symm with z|z
   ·exact .inl z
   ·rw[hb]at z;cases z
 ·obtain⟨a,e,x⟩:=W'.obj n ob h;refine⟨a,e,x.keep fb fun a o ha hn=>⟨ha,?_⟩⟩;show(if(w.base.Fr a).isSome=true then w.ow a else Root.out (w'.ow a))=_
  cases e:w'.ow a with
  |none=>rw[e]at hn;exact hn.elim|some q=>
   rcases W'.own a q e with rfl|z
   ·rw[e]at hn;exact hn.elim
   ·rw[z]
    cases q with
    |slot i=>rw[e]at hn;exact hn.elim|_=>rfl
 ·obtain⟨v,e,x⟩:=R.slots i o d h;refine⟨v,e,x.keep ff fun a u ha hr=>?_⟩;have:=in_ a u (zgU ha (by rw[hr];rfl));exact⟨this.1,this.2.trans hr⟩
noncomputable def Wd.del(w:Wd)(a:Addr):Wd:=⟨fun b=>if b=a then none else w.H b,w.ow,w.mu⟩
def zhr{a:Addr}(k:w.ow a≠none):Fut w (w.del a)where
 keep:=fun b o h e=>⟨by
  show(if b=a then none else w.H b)=_
  rw[if_neg (fun z=>k (by rw[<-z];exact e))];exact h,e⟩
 mu:=fun _ _ h=>h
def zjg{a:Addr}{o:HO}(h:w.H a=some o):upd (w.del a).H a o=w.H:=by
 funext b
 by_cases e:b=a
 ·rw[e,zau,h]
 ·rw[zah e];show(if b=a then none else w.H b)=_;rw[if_neg e]
theorem Rel.del{a:Addr}(R:Rel cl B σ w ρ S)(k:w.ow a=some .far)(hb:B.Fr a=none):Rel cl B σ (w.del a) ρ S:=by
 have fd:Fut w (w.del a):=zhr (by rw[k];exact yaI _)
 have kp:∀b o,w.H b=some o->b≠a->(w.del a).H b=some o:=fun b o h n=>by
  show(if b=a then none else w.H b)=_;rw[if_neg n];exact h
 refine⟨⟨fun b o h=>⟨kp b o (R.wd.fr b o h).1 (fun z=>by rw[z,hb]at h;cases h),(R.wd.fr b o h).2⟩,R.wd.own,R.wd.len,fun n ob h=>?_⟩,R.len,fun i o d h=>?_⟩
 ·obtain⟨c,e,x⟩:=R.wd.obj n ob h;exact⟨c,e,x.keep fd fun b o hb' hn=>⟨kp b o hb' (fun z=>by rw[z,k]at hn;exact hn.elim),rfl⟩⟩
 ·obtain⟨v,e,x⟩:=R.slots i o d h;exact⟨v,e,x.keep fd fun b o hb' hr=>⟨kp b o hb' (fun z=>by rw[z,k]at hr;cases hr),hr⟩⟩
end
noncomputable def zvX(cl:Cf)(w:Wd):Bool->V->D->Prop
 |false,v,d=>Shd cl w v d|true,v,d=>∃a o i,v=.ref a/\w.ow a=some (.slot i)/\w.H a=some o/\Top cl w o d
noncomputable def zf0(cl:Cf)(n:Nat)(own:Bool)(G:List D->Sto->Out D):Sp:=fun vs H Q E=>vs.length=n/\∃B w ds S,w.H=H/\World' cl B w S/\Shds cl w vs ds/\match G ds S with
 |.ok d S'=>∀v w',World' cl B w' S'->Fut w w'->zvX cl w' own v d->Q v w'.H|.exc c S'=>∀w',World' cl B w' S'->Fut w w'->E (.ref (cl c)) none w'.H|.bad=>False
noncomputable def zcU(CX:CXT)(X:Cx)(E:St->XK):Prop:=∀(pins:Z3) (σ:St) (H:Hp) (s:Shared) (e:Value) (s':Shared),Inv X pins σ H s->CX X.stack H s (E σ) e s'->X.xe e s'
noncomputable def zga(sp:Sp)(dvs:List V)(E:St->XK)(t:TA):TE:=fun σ H Q=>t σ H fun vs H1=>sp (vs++dvs) H1 Q (E σ)
section
variable{X:Cx}{CX:CXT}{k:Nat}{f C:Addr}{fd:FuncData}{ps:List Str}{sp:Sp}{dvs:List V}{ds:List Value}{E:St->XK}{x m:Str}{p pos apos:Pos}{e o:Expr}{es:List Expr}{ta:TE}{t:TA}
def zfA{pins:Z3}{σ:St}{H:Hp}{s:Shared}{Q:VK}{us:List Value}{vs:List V}(F:FnOk X.prog X.w X.K X.mg X.base CX k f fd ps sp)(hr:Room k X.A)(hb:zbZ X.K fd ps ds)(hd:Vals dvs ds)(hx:zcU CX X E)
  (I:Inv X pins σ H s) (r:Vals vs us) (h:sp (vs++dvs) H Q (E σ)):wpAny (model X.prog X.w) X.A (call (.ref f) us) (EP X pins σ Q) X.xe s:=by
 have r2:Vals (vs++dvs) (us++ds):=r.append hd
 have hl:(us++ds).length=ps.length:=by rw[<-r2.length];exact F.len _ _ _ _ h
 refine wpAny_call (codeAny_mono (F.run X.A X.stack s H ⟨us,[]⟩ (us++ds) (vs++dvs) Q (E σ) hr I.env0 (hb s us I.kIn hl) r2 h) fun r s' hq=>?_)
 cases r with
 |error e=>exact hx pins σ H s e s' I hq|ok fl=>
  cases fl with
  |ret u=>exact I.after hq|next=>exact False.elim hq|brk=>exact False.elim hq|cont=>exact False.elim hq
def zlL(F:FnOk X.prog X.w X.K X.mg X.base CX k f fd ps sp)(hr:Room k X.A)(hg:Gl X x)(hm:X.mg x=some (.ref f))(hk:PySem.W.keepIn X.K (.ref f)=true)(hb:zbZ X.K fd ps ds)(hd:Vals dvs ds)(hx:zcU CX X E)
  (ha:PA X (e::es) t) (hdb:(x==("__debug__":Str))=false) (he:starEach (e::es) X.env=(false,eval e X.env)::starEach es X.env) (hpl:(backTo pos (starEach es X.env)).any (·.1)=false):
  PE X (.Call (.Name x p) (e::es) [] pos) (zga sp dvs E t):=by
 intro pins s σ H Q I h;refine ybI (zdN I hg hm ?_ hdb);refine ycF (h₀:=X.base) I.ok.mod.kin hk (thn (ha pos pins s σ H _ I h) fun us s1 ⟨vs,H1,I1,r,q⟩=>⟨I1.kIn,?_⟩) he hpl;exact zfA F hr hb hd hx I1 r q
def zjU(F:FnOk X.prog X.w X.K X.mg X.base CX k f fd ps sp)(hr:Room k X.A)(hg:Gl X x)(hm:X.mg x=some (.ref f))(hk:PySem.W.keepIn X.K (.ref f)=true)(hb:zbZ X.K fd ps ds)(hd:Vals dvs ds)(hx:zcU CX X E)
  (hdb:(x==("__debug__":Str))=false):PE X (.Call (.Name x p) [] [] pos) (zga sp dvs E zsh):=by
 intro pins s σ H Q I h;refine ybI (zdN I hg hm ?_ hdb);exact PySem.W.callWith_K0 I.kIn hk (zfA (us:=[]) F hr hb hd hx I .nil h)
end
def eFn(G:List D->Sto->Out D)(fs:List Fe):Fe:=fun ρ S=>(zaj fs ρ S).bind fun ds S1=>G ds S1
section
variable{cl:Cf}{E:St->XK}{fs:List Fe}{G:List D->Sto->Out D}{σ:St}{H:Hp}{Q:VK}{n:Nat}
def zro(q:tE cl E (eFn G fs) σ H Q)(hn:fs.length=n):zga (zf0 cl n false G) [] E (tAs cl E fs) σ H Q:=by
 obtain⟨B,w,ρ,S,rfl,R,q⟩:=q;refine⟨B,w,ρ,S,rfl,R,?_⟩;unfold eFn at q
 cases hf:zaj fs ρ S with
 |bad=>rwa[hf]at q|exc c S1=>rwa[hf]at q|ok ds S1=>
  rw[hf]at q;intro vs w1 R1 F1 h1;dsimp only[Out.bind]at q
  have hl:∀(fs:List Fe) (S S1:Sto) (ds:List D),zaj fs ρ S=.ok ds S1->ds.length=fs.length:=by
   intro fs
   induction fs with
   |nil=>intro S S1 ds h;cases h;rfl|cons f fs ih=>
    intro S S1 ds h;unfold zaj at h
    cases h1:f ρ S with
    |bad=>rw[h1]at h;cases h|exc c S2=>rw[h1]at h;cases h|ok d S2=>
     rw[h1]at h;dsimp only[Out.bind]at h
     cases h2:zaj fs ρ S2 with
     |bad=>rw[h2]at h;cases h|exc c S3=>rw[h2]at h;cases h|ok es S3=>rw[h2]at h;cases h;rw[yae,yae,ih S2 _ es h2]
  refine⟨by rw[yaU,h1.length,hl fs S S1 ds hf];exact hn,w1.base,w1.inn,ds,S1,rfl,R1.wd.enter,by rw[yaU];exact h1.up (zbS w1),?_⟩
  cases hg:G ds S1 with
  |bad=>rwa[hg]at q|exc c S2=>
   rw[hg]at q;intro w2 W2 F2;obtain⟨R3,F3⟩:=R1.leave W2 F2;exact q (w1.back w2) R3 (F1.trans F3)
  |ok d S2=>
   rw[hg]at q;intro v w2 W2 F2 r2;obtain⟨R3,F3⟩:=R1.leave W2 F2;exact q v (w1.back w2) R3 (F1.trans F3) (Shd.up (zcn W2) r2)
def zrn(q:tN cl E (eFn G fs) σ H Q)(hn:fs.length=n):zga (zf0 cl n true G) [] E (tAs cl E fs) σ H Q:=by
 obtain⟨B,w,ρ,S,rfl,R,q⟩:=q;refine⟨B,w,ρ,S,rfl,R,?_⟩;unfold eFn at q
 cases hf:zaj fs ρ S with
 |bad=>rwa[hf]at q|exc c S1=>rwa[hf]at q|ok ds S1=>
  rw[hf]at q;intro vs w1 R1 F1 h1;dsimp only[Out.bind]at q
  have hl:∀(fs:List Fe) (S S1:Sto) (ds:List D),zaj fs ρ S=.ok ds S1->ds.length=fs.length:=by
   intro fs
   induction fs with
   |nil=>intro S S1 ds h;cases h;rfl|cons f fs ih=>
    intro S S1 ds h;unfold zaj at h
    cases h1:f ρ S with
    |bad=>rw[h1]at h;cases h|exc c S2=>rw[h1]at h;cases h|ok d S2=>
     rw[h1]at h;dsimp only[Out.bind]at h
     cases h2:zaj fs ρ S2 with
     |bad=>rw[h2]at h;cases h|exc c S3=>rw[h2]at h;cases h|ok es S3=>rw[h2]at h;cases h;rw[yae,yae,ih S2 _ es h2]
  refine⟨by rw[yaU,h1.length,hl fs S S1 ds hf];exact hn,w1.base,w1.inn,ds,S1,rfl,R1.wd.enter,by rw[yaU];exact h1.up (zbS w1),?_⟩
  cases hg:G ds S1 with
  |bad=>rwa[hg]at q|exc c S2=>
   rw[hg]at q;intro w2 W2 F2;obtain⟨R3,F3⟩:=R1.leave W2 F2;exact q (w1.back w2) R3 (F1.trans F3)
  |ok d S2=>
   rw[hg]at q;intro v w2 W2 F2 r2;obtain⟨R3,F3⟩:=R1.leave W2 F2;obtain⟨a,o,i,rfl,k1,k2,t⟩:=r2;have hfr:w1.base.Fr a=none:=(W2.own a _ k1).elim (fun z=>by cases z) fun z=>z
   have k3:(w1.back w2).ow a=some .far:=by
    show(if(w1.base.Fr a).isSome=true then w1.ow a else Root.out (w2.ow a))=_;rw[hfr,k1];rfl
   have hb:B.Fr a=none:=by
    cases z:B.Fr a with
    |none=>rfl|some u=>rw[zcT R1.wd z]at hfr;cases hfr
   have hd:=zhr (w:=w1.back w2) (a:=a) (by rw[k3];exact yaI _);have:=q a o ((w1.back w2).del a) (R3.del k3 hb) (F1.trans (F3.trans hd)) (if_pos rfl) ((t.up (zcn W2)).up hd);rwa[zjg (w:=w1.back w2) k2]at this
end
def frz1(ρ:Env)(i:Nat):Env:=match ρ[i]? with|some (some (true,d))=>ρ.set i (some (false,unW d))|_=>ρ
def frz(is:List Nat)(ρ:Env):Env:=is.foldl frz1 ρ
def sFz(is:List Nat)(f:Fs):Fs:=fun ρ S=>f (frz is ρ) S
noncomputable def sNx:Fs:=fun ρ S=>.nx ρ S
noncomputable def sBk:Fs:=fun ρ S=>.bk ρ S
noncomputable def zai(f g:Fs):Fs:=fun ρ S=>match f ρ S with|.nx ρ' S'=>g ρ' S'|o=>o
noncomputable def zbi(i:Nat)(own:Bool)(f:Fe):Fs:=fun ρ S=>match f ρ S with|.ok d S'=>.nx (ρ.set i (some (own,d))) S'|.exc c S'=>.ex c ρ S'|.bad=>.bad
noncomputable def zoV(f:Fe):Fs:=fun ρ S=>match f ρ S with|.ok _ S'=>.nx ρ S'|.exc c S'=>.ex c ρ S'|.bad=>.bad
noncomputable def za4(f:Fe):Fs:=fun ρ S=>match f ρ S with|.ok d S'=>.rt d S'|.exc c S'=>.ex c ρ S'|.bad=>.bad
noncomputable def zsz:Fs:=fun _ S=>.rt .non S
noncomputable def ziH(i:Nat):Fs:=fun ρ S=>match ρ[i]? with|some (some (true,.lst l))=>.rt (.lst l) S|_=>.bad
def sIf(c:Fe)(f g:Fs):Fs:=fun ρ S=>match c ρ S with|.ok d S'=>(match isB d with|some true=>f ρ S'|some false=>g ρ S'|none=>.bad)|.exc x S'=>.ex x ρ S'|.bad=>.bad
noncomputable def ziv(cl:Cf)(E:St->XK)(own:Bool)(B:Base)(w:Wd)(De:Ends):Fo->Prop
 |.nx ρ' S'=>∀σ' w',Rel cl B σ' w' ρ' S'->Fut w w'->De.nx σ' w'.H|.bk ρ' S'=>∀σ' w',Rel cl B σ' w' ρ' S'->Fut w w'->De.bk σ' w'.H|.ct ρ' S'=>∀σ' w',Rel cl B σ' w' ρ' S'->Fut w w'->De.ct σ' w'.H|.rt d S'=>∀v w',World' cl B w' S'->Fut w w'->zvX cl w' own v d->De.rt v w'.H|.ex c ρ' S'=>∀σ' w',Rel cl B σ' w' ρ' S'->Fut w w'->E σ' (.ref (cl c)) none w'.H|.bad=>False
theorem ziv.up{cl:Cf}{E:St->XK}{own:Bool}{B:Base}{w w1:Wd}{De:Ends}(f:Fut w w1):∀{o:Fo},ziv cl E own B w De o->ziv cl E own B w1 De o
 |.nx _ _,h=>fun σ' w' R F=>h σ' w' R (f.trans F)|.bk _ _,h=>fun σ' w' R F=>h σ' w' R (f.trans F)|.ct _ _,h=>fun σ' w' R F=>h σ' w' R (f.trans F)|.rt _ _,h=>fun v w' R F=>h v w' R (f.trans F)|.ex _ _ _,h=>fun σ' w' R F=>h σ' w' R (f.trans F)|.bad,h=>h
noncomputable def tS(cl:Cf)(E:St->XK)(own:Bool)(f:Fs):TS:=fun De σ H=>∃B w ρ S,w.H=H/\Rel cl B σ w ρ S/\ziv cl E own B w De (f ρ S)
def PS.imp{X:Cx}{st:Stmt}{t t':TS}(h:PS X st t)(i:∀De σ H,t' De σ H->t De σ H):PS X st t':=fun pins s σ H De I q=>h pins s σ H De I (i _ _ _ q)
def PSs.imp{X:Cx}{st:List Stmt}{t t':TS}(h:PSs X st t)(i:∀De σ H,t' De σ H->t De σ H):PSs X st t':=fun pins s σ H De I q=>h pins s σ H De I (i _ _ _ q)
section
variable{cl:Cf}{B:Base}{σ:St}{w:Wd}{ρ:Env}{S:Sto}
def Rel.put{i:Nat}{v:V}{d:D}(R:Rel cl B σ w ρ S)(h:Shd cl w v d):Rel cl B (σ.set i (some v)) w (ρ.set i (some (false,d))) S where
 wd:=R.wd
 len:=by rw[yaw,yaw];exact R.len
 slots:=fun j o e hj=>by
  by_cases hij:i=j
  ·subst hij
   have hlt:i<ρ.length:=by
    have:=(yaj.mp hj).1;rwa[yaw]at this
   rw[yap hlt]at hj;cases hj;exact⟨v,by rw[yap (by rw[R.len];exact hlt)],h⟩
  ·rw[yaE hij]at hj ⊢;exact R.slots j o e hj
def Wd.addAs(w:Wd)(p:Addr)(o:HO)(r:Root):Wd:=⟨upd w.H p o,fun a=>if a=p then some r else if w.ow a=some r then some .far else w.ow a,w.mu⟩
def zeI{p:Addr}{o:HO}{r:Root}(h:w.H p=none):Fut w (w.addAs p o r)where
 keep:=fun a u ha hk=>by
  have n:a≠p:=zao ha h;refine⟨?_,?_⟩
  ·show upd w.H p o a=_;rw[zah n];exact ha
  ·show(if a=p then some r else if w.ow a=some r then some Root.far else w.ow a)=none;rw[if_neg n,if_neg (by rw[hk];exact fun z=>by cases z)];exact hk
 mu:=fun _ _ h=>h
theorem Rel.own{i:Nat}{p:Addr}{o:HO}{d:D}(R:Rel cl B σ w ρ S)(hp:w.H p=none)(t:Top cl w o d):Rel cl B (σ.set i (some (.ref p))) (w.addAs p o (.slot i)) (ρ.set i (some (true,d))) S:=by
 have ff:=zeI (w:=w) (p:=p) (o:=o) (r:=.slot i) hp
 have kp:∀a u,w.H a=some u->w.ow a≠some (.slot i)->(w.addAs p o (.slot i)).H a=some u/\(w.addAs p o (.slot i)).ow a=w.ow a:=fun a u ha hk=>by
  have n:a≠p:=zao ha hp;refine⟨?_,?_⟩
  ·show upd w.H p o a=_;rw[zah n];exact ha
  ·show(if a=p then _ else if w.ow a=some (Root.slot i)then some Root.far else w.ow a)=_;rw[if_neg n,if_neg hk]
 have hBp:B.Fr p=none:=by
  cases z:B.Fr p with
  |none=>rfl|some u=>have:=(R.wd.fr p u z).1;rw[hp]at this;cases this
 refine⟨⟨fun a u h=>?_,fun a r h=>?_,R.wd.len,fun n ob h=>?_⟩,by rw[yaw,yaw];exact R.len,fun j b e hj=>?_⟩
 ·have hne:w.ow a≠some (.slot i):=fun z=>by
   rcases R.wd.own a _ z with y|y
   ·cases y
   ·rw[h]at y;cases y
  have:=kp a u (R.wd.fr a u h).1 hne;exact⟨this.1,this.2.trans (R.wd.fr a u h).2⟩
 ·have h':(if a=p then some (Root.slot i)else if w.ow a=some (Root.slot i)then some Root.far else w.ow a)=some r:=h;split at h'
  ·rename_i e;rw[e];exact .inr hBp
  ·split at h'
   ·cases h';exact .inl rfl
   ·exact R.wd.own a r h'
 ·obtain⟨a,e,x⟩:=R.wd.obj n ob h;exact⟨a,e,x.keep ff fun b u hb hn=>kp b u hb fun z=>by rwa[z]at hn⟩
 ·by_cases hij:i=j
  ·subst hij
   have hlt:i<ρ.length:=by
    have:=(yaj.mp hj).1;rwa[yaw]at this
   rw[yap hlt]at hj;cases hj;exact⟨.ref p,by rw[yap (by rw[R.len];exact hlt)],.inl ⟨p,o,rfl,if_pos rfl,zau,t.up ff⟩⟩
  ·rw[yaE hij]at hj ⊢;obtain⟨v,e1,x⟩:=R.slots j b e hj;refine⟨v,e1,x.keep ff fun a u ha hr=>?_⟩;have:=kp a u ha (by rw[hr];exact fun z=>hij (by cases z;rfl));exact⟨this.1,this.2.trans hr⟩
def Wd.mut(w:Wd)(p:Addr)(o:HO):Wd:=⟨upd w.H p o,w.ow,w.mu⟩
def zdc{p:Addr}{o:HO}(h:w.ow p≠none):Fut w (w.mut p o)where
 keep:=fun a u ha hk=>⟨by
  show upd w.H p o a=_
  rw[zah (fun z=>h (by rw[<-z];exact hk))];exact ha,hk⟩
 mu:=fun _ _ h=>h
theorem Rel.mut{i:Nat}{p:Addr}{o:HO}{d d0:D}(R:Rel cl B σ w ρ S)(hs:σ[i]?=some (some (.ref p)))(hk:w.ow p=some (.slot i))(t:Top cl w o d):Rel cl B σ (w.mut p o) (ρ.set i (some (true,d))) S:=by
 have ff:=zdc (w:=w) (p:=p) (o:=o) (by rw[hk];exact yaI _)
 have kp:∀a u,w.H a=some u->w.ow a≠some (.slot i)->(w.mut p o).H a=some u/\(w.mut p o).ow a=w.ow a:=fun a u ha hn=>⟨by
  show upd w.H p o a=_
  rw[zah (fun z=>hn (by rw[z];exact hk))];exact ha,rfl⟩
 have hBp:B.Fr p=none:=(R.wd.own p _ hk).elim (fun z=>by cases z) fun z=>z
 refine⟨⟨fun a u h=>?_,R.wd.own,R.wd.len,fun n ob h=>?_⟩,by rw[yaw];exact R.len,fun j b e hj=>?_⟩
 ·have hne:w.ow a≠some (.slot i):=fun z=>by
   rcases R.wd.own a _ z with y|y
   ·cases y
   ·rw[h]at y;cases y
  have:=kp a u (R.wd.fr a u h).1 hne;exact⟨this.1,(R.wd.fr a u h).2⟩
 ·obtain⟨a,e,x⟩:=R.wd.obj n ob h;exact⟨a,e,x.keep ff fun b u hb hn=>kp b u hb fun z=>by rwa[z]at hn⟩
 ·by_cases hij:i=j
  ·subst hij
   have hlt:i<ρ.length:=by
    have:=(yaj.mp hj).1;rwa[yaw]at this
   rw[yap hlt]at hj;cases hj;exact⟨.ref p,hs,.inl ⟨p,o,rfl,hk,zau,t.up ff⟩⟩
  ·rw[yaE hij]at hj;obtain⟨v,e1,x⟩:=R.slots j b e hj;refine⟨v,e1,x.keep ff fun a u ha hr=>?_⟩;have:=kp a u ha (by rw[hr];exact fun z=>hij (by cases z;rfl));exact⟨this.1,this.2.trans hr⟩
noncomputable def Wd.free(w:Wd)(r:Root):Wd:=⟨w.H,fun a=>if w.ow a=some r then none else w.ow a,w.mu⟩
def zih{r:Root}:Fut w (w.free r)where
 keep:=fun a u ha hk=>⟨ha,by
  show(if w.ow a=some r then none else w.ow a)=none
  rw[hk];rfl⟩
 mu:=fun _ _ h=>h
theorem Top.shd{o:HO}{d:D}{a:Addr}(h:w.H a=some o)(k:w.ow a=none):Top cl w o d->Shd cl w (.ref a) d
 |.lst t=>.lst h k t|.dicK t=>.dicK h k t|.dicX x=>.dicX h k x
theorem Top.unW{o:HO}{d:D}(t:Top cl w o d):unW d=d:=by
 cases t with
 |lst _=>rfl|dicK h=>
  cases h with
  |nil=>rfl|consI _ _=>rfl|consS _ _=>rfl
 |dicX _=>rfl
theorem zeV.free{r:Root}:∀{bs:List Addr}{rows:List (List D)},zeV cl w r bs rows->Shds cl (w.free r) (bs.map V.ref) (rows.map D.lst)
 |_,_,.nil=>.nil|_,_,.cons ⟨h1,xs,h2,h3⟩ t=>.cons (.lst (w:=w.free r) h2 (by show(if w.ow _=some r then none else w.ow _)=none;rw[if_pos h1]) (h3.up zih)) (zeV.free t)
theorem Rel.frz1(R:Rel cl B σ w ρ S)(i:Nat):∃w',w'.H=w.H/\Fut w w'/\Rel cl B σ w' (frz1 ρ i) S:=by
 unfold S2.frz1;split
 ·rename_i d hd;have ff:=zih (w:=w) (r:=.slot i);have kp:∀a u,w.H a=some u->w.ow a≠some (.slot i)->(w.free (.slot i)).H a=some u/\(w.free (.slot i)).ow a=w.ow a:=fun a u ha hn=>⟨ha,if_neg hn⟩
  refine⟨w.free (.slot i),rfl,ff,⟨fun a u h=>?_,fun a r h=>?_,R.wd.len,fun n ob h=>?_⟩,by rw[yaw];exact R.len,fun j b e hj=>?_⟩
  ·have hne:w.ow a≠some (.slot i):=fun z=>by
    rcases R.wd.own a _ z with y|y
    ·cases y
    ·rw[h]at y;cases y
   have:=kp a u (R.wd.fr a u h).1 hne;exact⟨this.1,this.2.trans (R.wd.fr a u h).2⟩
  ·have h':(if w.ow a=some (Root.slot i)then none else w.ow a)=some r:=h;split at h'
   ·cases h'
   ·exact R.wd.own a r h'
  ·obtain⟨a,e,x⟩:=R.wd.obj n ob h;exact⟨a,e,x.keep ff fun b u hb hn=>kp b u hb fun z=>by rwa[z]at hn⟩
  ·by_cases hij:i=j
   ·subst hij;have hlt:i<ρ.length:=(yaj.mp hd).1;rw[yap hlt]at hj;cases hj;obtain⟨v,e1,⟨a,o,rfl,h1,h2,t⟩|h⟩:=R.slots i true d hd
    ·refine⟨.ref a,e1,?_⟩;rw[t.unW];refine(t.up ff).shd h2 ?_;show(if w.ow a=some (Root.slot i)then none else w.ow a)=none;rw[if_pos h1]
    ·obtain⟨a,bs,rows,rfl,rfl,h1,h2,_,_,h3⟩:=h.ex;refine⟨.ref a,e1,?_⟩;show Shd cl (w.free (.slot i)) (.ref a) (.lst (rows.map D.lst));refine .lst (w:=w.free (.slot i)) h2 ?_ h3.free;show(if w.ow a=some (Root.slot i)then none else w.ow a)=none;rw[if_pos h1]
   ·rw[yaE hij]at hj;obtain⟨v,e1,x⟩:=R.slots j b e hj;refine⟨v,e1,x.keep ff fun a u ha hr=>?_⟩;have:=kp a u ha (by rw[hr];exact fun z=>hij (by cases z;rfl));exact⟨this.1,this.2.trans hr⟩
 ·exact⟨w,rfl,Fut.refl _,R⟩
theorem Rel.frz:∀(is:List Nat) {w:Wd}{ρ:Env},Rel cl B σ w ρ S->∃w',w'.H=w.H/\Fut w w'/\Rel cl B σ w' (frz is ρ) S
 |[],w,ρ,R=>⟨w,rfl,Fut.refl _,R⟩|i::is,w,ρ,R=>by
  obtain⟨w1,e1,f1,R1⟩:=R.frz1 i;obtain⟨w2,e2,f2,R2⟩:=Rel.frz is R1;exact⟨w2,e2.trans e1,f1.trans f2,R2⟩
end
section
variable{X:Cx}{cl:Cf}{E:St->XK}{own:Bool}{st:Stmt}{zbF:List Stmt}{f g:Fs}{e:Expr}{fe:Fe}{pos pos':Pos}
def zss(is:List Nat)(h:PS X st (tS cl E own f)):PS X st (tS cl E own (sFz is f)):=by
 refine PS.imp h ?_;rintro De σ H ⟨B,w,ρ,S,rfl,R,q⟩;obtain⟨w',e',f',R'⟩:=R.frz is;exact⟨B,w',frz is ρ,S,e',R',ziv.up f' q⟩
def zpk:PSs X [] (tS cl E own sNx):=by
 refine PSs.imp znR ?_;rintro De σ H ⟨B,w,ρ,S,rfl,R,q⟩;exact q σ w R (Fut.refl _)
def znr(h1:PS X st (tS cl E own f))(h2:PSs X zbF (tS cl E own g)):PSs X (st::zbF) (tS cl E own (zai f g)):=by
 refine PSs.imp (zlA h1 h2) ?_;rintro De σ H ⟨B,w,ρ,S,rfl,R,q⟩;refine⟨B,w,ρ,S,rfl,R,?_⟩;unfold zai at q
 cases hf:f ρ S with
 |nx ρ' S'=>
  rw[hf]at q;intro σ' w' R' F';exact⟨B,w',ρ',S',rfl,R',ziv.up F' q⟩
 |bk ρ' S'=>rwa[hf]at q|ct ρ' S'=>rwa[hf]at q|rt d S'=>rwa[hf]at q|ex c ρ' S'=>rwa[hf]at q|bad=>rwa[hf]at q
def ztG{i:Nat}{De:Ends}{σ:St}{H:Hp}(q:tS cl E own (zbi i false fe) De σ H):zmB (tE cl E fe) (zhq i) De σ H:=by
 obtain⟨B,w,ρ,S,rfl,R,q⟩:=q;refine⟨B,w,ρ,S,rfl,R,?_⟩;unfold zbi at q
 cases hf:fe ρ S with
 |bad=>rwa[hf]at q|exc c S1=>rw[hf]at q;exact fun w' R' F'=>q σ w' R' F'|ok d S1=>
  rw[hf]at q;intro v w' R' F' h';exact q _ w' (R'.put h') F'
def zru{i:Nat}{De:Ends}{σ:St}{H:Hp}(q:tS cl E own (zbi i true fe) De σ H):zmB (tN cl E fe) (zhq i) De σ H:=by
 obtain⟨B,w,ρ,S,rfl,R,q⟩:=q;refine⟨B,w,ρ,S,rfl,R,?_⟩;unfold zbi at q
 cases hf:fe ρ S with
 |bad=>rwa[hf]at q|exc c S1=>rw[hf]at q;exact fun w' R' F'=>q σ w' R' F'|ok d S1=>
  rw[hf]at q;intro p o w' R' F' hp t;exact q _ (w'.addAs p o (.slot i)) (R'.own hp t) (F'.trans (zeI hp))
def zpo{i:Nat}{x:Str}(hN:X.N.Nodup)(hi:X.N[i]?=some x)(hx:Loc X.env.scope x)(he:PE X e (tE cl E fe))(hs:swapsWith e (some (.Name x pos')) pos.line X.env=pure false)(hf:X.fn x=true\/X.env.scope.names.lookup x=some .local):PS X (.Assign [.Name x pos'] e pos) (tS cl E own (zbi i false fe)):=
 PS.imp (zhW hN hi hx he hs hf) fun _ _ _ q=>ztG q
def zjs{i:Nat}{x:Str}(hN:X.N.Nodup)(hi:X.N[i]?=some x)(hx:Loc X.env.scope x)(he:PE X e (tN cl E fe))(hs:swapsWith e (some (.Name x pos')) pos.line X.env=pure false)(hf:X.fn x=true\/X.env.scope.names.lookup x=some .local):PS X (.Assign [.Name x pos'] e pos) (tS cl E own (zbi i true fe)):=
 PS.imp (zhW hN hi hx he hs hf) fun _ _ _ q=>zru q
def zpn(he:PE X e (tE cl E fe))(hs:swapsWith e none pos.line X.env=pure false):PS X (.Expr e pos) (tS cl E own (zoV fe)):=by
 refine PS.imp (zhh he hs) ?_;rintro De σ H ⟨B,w,ρ,S,rfl,R,q⟩;refine⟨B,w,ρ,S,rfl,R,?_⟩;unfold zoV at q
 cases hf:fe ρ S with
 |bad=>rwa[hf]at q|exc c S1=>rw[hf]at q;exact fun w' R' F'=>q σ w' R' F'|ok d S1=>rw[hf]at q;exact fun v w' R' F' _=>q σ w' R' F'
def zpj(he:PE X e (tE cl E fe)):PS X (.Return (some e) pos) (tS cl E false (za4 fe)):=by
 refine PS.imp (zjH he) ?_;rintro De σ H ⟨B,w,ρ,S,rfl,R,q⟩;refine⟨B,w,ρ,S,rfl,R,?_⟩;unfold za4 at q
 cases hf:fe ρ S with
 |bad=>rwa[hf]at q|exc c S1=>rw[hf]at q;exact fun w' R' F'=>q σ w' R' F'|ok d S1=>rw[hf]at q;exact fun v w' R' F' h'=>q v w' R'.wd F' h'
def znm(he:PE X e (tN cl E fe)):PS X (.Return (some e) pos) (tS cl E true (za4 fe)):=by
 refine PS.imp (zjH he) ?_;rintro De σ H ⟨B,w,ρ,S,rfl,R,q⟩;refine⟨B,w,ρ,S,rfl,R,?_⟩;unfold za4 at q
 cases hf:fe ρ S with
 |bad=>rwa[hf]at q|exc c S1=>rw[hf]at q;exact fun w' R' F'=>q σ w' R' F'|ok d S1=>
  rw[hf]at q;intro p o w' R' F' hp t;have ff:=zeI (w:=w') (p:=p) (o:=o) (r:=.slot 0) hp;exact q (.ref p) (w'.addAs p o (.slot 0)) (Rel.own (i:=0) R' hp t).wd (F'.trans ff) ⟨p,o,0,rfl,if_pos rfl,zau,t.up ff⟩
def znl{i:Nat}{x:Str}(hN:X.N[i]?=some x)(hv:Vis X.env.scope x)(hd:(x==("__debug__":Str))=false)(hcd:(x==("__classdict__":Str))=false):PS X (.Return (some (.Name x pos')) pos) (tS cl E true (ziH i)):=by
 refine PS.imp (zjH (zbQ hN hv hd hcd)) ?_;rintro De σ H ⟨B,w,ρ,S,rfl,R,q⟩;unfold ziH at q;split at q
 ·rename_i l hd;obtain⟨v,e1,⟨a,o,rfl,h1,h2,t⟩|h⟩:=R.slots i true _ hd
  ·exact⟨_,e1,q _ w R.wd (Fut.refl _) ⟨a,o,i,rfl,h1,h2,t⟩⟩
  ·obtain⟨_,_,_,_,z,_⟩:=h.ex;cases z
 ·exact q.elim
def zsr{c:Expr}{a b:List Stmt}{fc:Fe}(hc:PT X c (tTr cl E fc))(ha:PSs X a (tS cl E own f))(hb:PSs X b (tS cl E own g)):PS X (.If c a b pos) (tS cl E own (sIf fc f g)):=by
 refine PS.imp (zsG hc ha hb) ?_;rintro De σ H ⟨B,w,ρ,S,rfl,R,q⟩;refine⟨B,w,ρ,S,rfl,R,?_⟩;unfold sIf at q
 cases hg:fc ρ S with
 |bad=>rwa[hg]at q|exc c S1=>rw[hg]at q;exact fun w' R' F'=>q σ w' R' F'|ok d S1=>
  rw[hg]at q;dsimp only at q ⊢
  cases hb:isB d with
  |none=>rw[hb]at q;exact q.elim|some b=>
   rw[hb]at q;intro w1 R1 F1
   cases b with
   |true=>exact zl4 ⟨B,w1,ρ,S1,rfl,R1,ziv.up F1 q⟩|false=>exact zl5 ⟨B,w1,ρ,S1,rfl,R1,ziv.up F1 q⟩
end
def zmI(i:Nat)(fe:Fe):Fs:=fun ρ S=>match ρ[i]? with
 |some (some (true,.lst l))=>(match fe ρ S with
  |.ok d S'=>if zaL l.length then .nx (ρ.set i (some (true,.lst (l++[d])))) S' else .bad
  |.exc c S'=>.ex c ρ S'|.bad=>.bad)
 |_=>.bad
section
variable{X:Cx}{cl:Cf}{E:St->XK}{own:Bool}{e:Expr}{fe:Fe}{pos pos':Pos}
def zlk{n:Nat}(h:zaL n=true):n<sizeLine:=Nat.lt_of_le_of_lt (yak h) (by decide)
def Rel.list{B:Base}{σ:St}{w:Wd}{ρ:Env}{S:Sto}{i:Nat}{l:List D}(R:Rel cl B σ w ρ S)(h:ρ[i]?=some (some (true,.lst l))):∃a xs,σ[i]?=some (some (.ref a))/\w.ow a=some (.slot i)/\w.H a=some (.lst xs)/\Shds cl w xs l:=by
 obtain⟨v,e1,⟨a,o,rfl,h1,h2,t⟩|z⟩:=R.slots i true _ h
 ·cases t with
  |lst t=>exact⟨a,_,e1,h1,h2,t⟩
 ·obtain⟨_,_,_,_,z,_⟩:=z.ex;cases z
def zpp{i:Nat}{x:Str}{ap cp:Pos}(hN:X.N[i]?=some x)(hv:Vis X.env.scope x)(hd:(x==("__debug__":Str))=false)(hcd:(x==("__classdict__":Str))=false)(he:PE X e (tE cl E fe))
  (hpl:zb2 e=true) (hln:(ap.endLine==cp.line)=true):PS X (.Expr (.Call (.Attribute (.Name x pos') "append" ap) [e] [] cp) pos) (tS cl E own (zmI i fe)):=by
 refine PS.imp (zhh (zn0 (es:=[]) yb3 PySem.F.slot_list_append PySem.F.type_list_append zj7 (zbQ hN hv hd hcd) (zb7 he zdX (zbr hpl)) (hfew:=zkB (by simp[hpl]) (by simp)) (hline:=hln) (hs:=zbr hpl) (hplain:=rfl))) ?_;rintro De σ H ⟨B,w,ρ,S,rfl,R,q⟩;unfold zmI at q;split at q
 ·rename_i l hl;obtain⟨a,xs,e1,h1,h2,t⟩:=R.list hl;refine⟨_,e1,.inl ⟨rfl,_,SqL.of h2⟩,B,w,ρ,S,rfl,R,?_⟩
  cases hf:fe ρ S with
  |bad=>rwa[hf]at q|exc c S1=>rw[hf]at q;exact fun w' R' F'=>q σ w' R' F'|ok d S1=>
   rw[hf]at q;intro v w' R' F' h';dsimp only at q
   cases hz:zaL l.length with
   |false=>rw[hz,if_neg (by decide)]at q;exact q.elim
   |true=>
    rw[hz,if_pos rfl]at q;obtain⟨a',xs',e1',h1',h2',t'⟩:=R'.list hl;rw[e1]at e1';cases e1';refine⟨a,xs',v,rfl,rfl,h2',by rw[t'.length];exact zlk hz,?_⟩;exact q σ (w'.mut a (.lst (xs'++[v]))) (R'.mut (d0:=.non) e1 h1' (.lst (t'.append (.cons h' .nil)))) (F'.trans (zdc (by rw[h1'];exact yaI _)))
 ·exact q.elim
end
end S2
namespace L2
open PySem PySem.Spec PyProof.Rows
section
variable{prog:Program}{w:World}{A:Around}{E:Z5}{s:Shared}
def zle{it t:Addr}{j:Nat}{vs:Array Value}{v:Value}{Q:Z5}(st:s.heap.IsTupleIter it t j)(tp:s.heap.IsTuple t vs)(e:vs[j]?=some v)
  (q:∀h',h'.IsTupleIter it t (j+1)->Heap.SameBut it s.heap h'->Q v {s with heap:=h'}):wpAny (model prog w) A (Builtin.SmallTypes.nextOf (.ref it)) Q E s:=by
 obtain⟨o1,g1,c1,d1⟩:=id st;obtain⟨o2,g2,_,n2,d2⟩:=tp;unfold Builtin.SmallTypes.nextOf;refine yaa (ya4 (name:=Str.ofString "__next__") st.typeIs ybr (ybd ybr st.typeIs F.entry_tuple_iterator_next ?_ (F.args_tuple_iterator_next_1 _)));show wpAny _ _ (field (.ref it) 0 >>= _) _ _ s;refine yaa (ybq g1 d1 (x:=.ref t) rfl ?_);show wpAny _ _ (if(Value.ref t==Value.none)=true then _ else _) _ _ s;rw[if_neg (show ¬ ((Value.ref t==Value.none)=true)from fun z=>ya5 z)];show wpAny _ _ (field (.ref it) 1 >>= _) _ _ s;refine yaa (ybq g1 d1 (x:=.int j 0) rfl ?_);show wpAny _ _ (seqItems? (.ref t) >>= _) _ _ s;refine yaa (ybG g2 d2 ?_);simp only[ya8,e];refine yaa (wpAny_setField g1 d1 (by simp) (yah ⟨v,rfl,yah (q _ ?_ (Heap.SameBut.update ..))⟩));refine⟨_,ybL _ g1 (Obj.isFreed_of_fields (Obj.data_mapFields d1 _)),(Obj.cls_mapFields ..).trans c1,?_⟩;rw[Obj.data_mapFields d1];simp[rawInt]
def zji{it t:Addr}{j:Nat}{vs:Array Value}{Q:Z5}(hh:A.handled=none)(st:s.heap.IsTupleIter it t j)(tp:s.heap.IsTuple t vs)(e:vs[j]?=none)
  (q:∀h' x,Heap.ExtBut it s.heap h'->(∃o,h'.get? x=some o/\o.cls=.type "StopIteration")->E (.ref x) {s with heap:=h'}):wpAny (model prog w) A (Builtin.SmallTypes.nextOf (.ref it)) Q E s:=by
 obtain⟨o1,g1,c1,d1⟩:=id st;obtain⟨o2,g2,_,n2,d2⟩:=tp;unfold Builtin.SmallTypes.nextOf;refine yaa (ya4 (name:=Str.ofString "__next__") st.typeIs ybr (ybd ybr st.typeIs F.entry_tuple_iterator_next ?_ (F.args_tuple_iterator_next_1 _)));show wpAny _ _ (field (.ref it) 0 >>= _) _ _ s;refine yaa (ybq g1 d1 (x:=.ref t) rfl ?_);show wpAny _ _ (if(Value.ref t==Value.none)=true then _ else _) _ _ s;rw[if_neg (show ¬ ((Value.ref t==Value.none)=true)from fun z=>ya5 z)];show wpAny _ _ (field (.ref it) 1 >>= _) _ _ s;refine yaa (ybq g1 d1 (x:=.int j 0) rfl ?_);show wpAny _ _ (seqItems? (.ref t) >>= _) _ _ s;refine yaa (ybG g2 d2 ?_);simp only[ya8,e];refine yaa (ycM (yaa (wpAny_setField g1 d1 (by simp) ?_)));show wpAny _ _ (newExc (.type "StopIteration") [] >>= _) _ _ _;refine yaa ?_;simp only[newExc,newTuple];refine yaa (ya9 ?_ (by size_fits));refine yaa (m:=firstArgMember _ _) (wpAny_of_eq (a:=Value.none) ?_ ?_)
 ·first|rfl|(simp only[firstArgMember];rfl)
 refine ya9 ?_ (by size_fits);simp only[raiseNew];refine yaa (wpAny_handled ?_)
 first|rw[show A.in1.handled=none from hh]|rw[hh]
 refine yaa (yah (wpAny_throw (q _ _ (((Heap.SameBut.update ..).extBut.push _).push _) ⟨_,yau _ rfl,rfl⟩)))
def zgJ(hh:A.handled=none)(it t:Addr)(ne:t≠it)(vs:Array Value):Draws prog w A it [it,t] vs.size (fun j v=>vs[j]?=some v) (fun j h=>h.IsTupleIter it t j/\h.IsTuple t vs)where
 live:=fun _ _ st=>by obtain⟨⟨o,ho,_⟩,_⟩:=st;exact⟨o,ho⟩
 frame:=fun _ _ _ st hk=>⟨st.1.at fun o e=>hk it (by simp) o e,by obtain⟨o,ho,r⟩:=st.2;exact⟨o,hk t (by simp) o ho,r⟩⟩
 item:=fun j s Q E hj st hQ=>zle st.1 st.2 (v:=vs[j]) (by simp[hj]) fun h' st' sb=>hQ _ h' s.toks (by simp[hj]) ⟨st',by obtain⟨o,ho,r⟩:=st.2;exact⟨o,(sb.2 t ne).trans ho,r⟩⟩ sb
 done:=fun s Q E st hE=>zji hh st.1 st.2 (by simp) hE
def zgG(l:Addr)(items:Array Value)(n:Nat)(dct:Option Addr)(sl:Array (Option Value)):
  Meets (Builtin.«enumerate.__new__» ⟨[.type "enumerate",.ref l],[]⟩) (fun _ R s=>s.heap.get? l=some {cls:=.type "tuple",dict:=dct,data:=.seq items n,slots:=sl} ∧
   R (.ok (.ret (.ref (s.heap.push {cls:=.type "tuple_iterator",data:=.fields #[.ref l,.int 0 0]}).objs.size)))
    {s with heap:=(s.heap.push {cls:=.type "tuple_iterator",data:=.fields #[.ref l,.int 0 0]}).push {cls:=.type "enumerate",data:=.fields #[.none,.bool false,.ref s.heap.objs.size,rawInt 0,.none,.none]}}):=
 .of_wp fun prog w A R s h=>by
  obtain⟨hp,g,d,tk,os⟩:=s;obtain⟨hl,h⟩:=h;have hsub:=sub_enumerate;have hT:Heap.IsTuple (Shared.heap ⟨hp,g,d,tk,os⟩) l items:=⟨_,hl,rfl,n,rfl⟩
  wp_walk using ybY hl
  refine wpAny_stack_any fun st=>yah ?_
  split
  ·rename_i c _ _ _ _ _
   cases (c==Value.type "enumerate")<;>(wp_walk using ybY hl,ybZ hT;exact⟨_,rfl,h⟩)
  ·wp_walk using ybY hl,ybZ hT;exact⟨_,rfl,h⟩
def zfV{l:Addr}{items:Array Value}{Q:Z5}(hL:s.heap.IsTuple l items)
  (h:∀h',IsEnum h' (s.heap.objs.size+1) s.heap.objs.size 0 .none->h'.IsTupleIter s.heap.objs.size l 0->h'.objs.size=s.heap.objs.size+2->(∀b o,s.heap.get? b=some o->h'.get? b=some o)->Q (.ref (s.heap.objs.size+1)) {s with heap:=h'}):
  wpAny (model prog w) A (call (.type "enumerate") [.ref l]) Q E s:=by
 obtain⟨⟨c,dct,dt,sl⟩,hl,hc,n,hd⟩:=hL;simp only at hc hd;subst hc hd;refine callType_new F.called_enumerate (by decide) (F.typeCall_enumerate_1 _) (F.newCall_enumerate_1 _) (fun obj=>F.args_object_init_2 obj _) F.entry_enumerate_new (zgG l items n dct sl) ⟨hl,?_⟩;generalize hp1:s.heap.push {cls:=.type "tuple_iterator",data:=.fields #[.ref l,.int 0 0]}=h1
 have hz:h1.objs.size=s.heap.objs.size+1:=by rw[<-hp1];exact ya6 ..
 have k1:∀b o,s.heap.get? b=some o->h1.get? b=some o:=fun b o x=>by rw[<-hp1];exact yag _ x
 have i1:h1.get? s.heap.objs.size=some {cls:=.type "tuple_iterator",data:=.fields #[.ref l,.int 0 0]}:=by rw[<-hp1];exact yau _ rfl
 show _/\_;rw[hz]
 have he:IsEnum (h1.push {cls:=.type "enumerate",data:=.fields #[.none,.bool false,.ref s.heap.objs.size,rawInt 0,.none,.none]}) (s.heap.objs.size+1) s.heap.objs.size 0 .none:=by
  rw[<-hz];exact yau _ rfl
 exact⟨⟨_,he,rfl⟩,h _ he ⟨_,yag _ i1,rfl,rfl⟩ (by rw[ya6,hz]) fun b o x=>yag _ (k1 b o x)⟩
end
section
variable{X:Cx}{pins:Z3}{σ:St}{H:Hp}{s:Shared}
def Inv.turnedL{t':Nat}{h':Heap}{ch:List Addr}(I:Inv X pins σ H s)(k:∀b o,b ∉ ch->s.heap.get? b=some o->h'.get? b=some o)(hf:∀b∈ch,zk2 X pins H b):Inv X pins σ H {s with heap:=h',toks:=t'}:=by
 have nit:∀b u,H b=some u->b ∉ ch:=fun b u e z=>by rw[(hf b z).1]at e;cases e
 refine I.step (g':=s.gens) (d':=s.drawn) (ch:=ch) (fun b hb=>?_) (fun b o _ _ hc e _=>k b o hc e) (fun b o _ _ hc e _=>⟨o.slots,k b o hc e⟩) (fun _ _ _ _ n=>n) (fun b o hc e=>⟨o,k b o hc e⟩) (fun _ _ e=>e) (fun _ _ _ e=>e) (fun b ps e=>⟨#[],by rw[e];simp⟩) (fun m hm=>?_) (fun b u e=>?_) I.bare
 ·obtain⟨f0,f1,f2,f3,f4,f5⟩:=hf b hb;exact⟨f3,f1,f4,f5⟩
 ·obtain⟨o,es,ep,ho,r⟩:=hm;exact⟨o,es,ep,k _ o (fun z=>(hf _ z).2.1 rfl) ho,r⟩
 ·refine(I.hok b u e).stay (fun c v hc q=>k c v ?_ q) (fun _ q=>q) fun _ _ q=>q
  rcases hc with z|z
  ·rw[z];exact nit b u e
  ·exact nit c _ z
noncomputable def ItE(S:Hp->Addr->List V->Prop)(a:Addr):It:=
 ⟨fun i H=>∃xs x,S H a xs/\xs[i]?=some x,fun i H x H'=>∃t y,x=.ref t/\H t=none/\H'=upd H t (.tup [.int (i:Int),y])/\∀xs,S H a xs->xs[i]?=some y,fun i H=>∃xs,S H a xs/\xs.length<=i⟩
def zim{i:Nat}{e it T:Addr}{h1 h2:Heap}{tk:Nat}{x:Value}{y:V}(I:Inv X pins σ H s)(hf:∀b∈[e,it],zk2 X pins H b)(hT:T=s.heap.objs.size)(te:h1.get? T=some {cls:=.type "tuple",data:=.seq #[.int i tk,x]})
  (k:∀b o,b≠e->b≠it->s.heap.get? b=some o->h1.get? b=some o) (sb:Heap.SameBut e h1 h2) (ne:T≠e) (ry:zbs y x):Inv X pins σ (upd H T (.tup [.int (i:Int),y])) {s with heap:=h2,toks:=tk+1}/\H T=none:=by
 have fr:H T=none:=by rw[hT];exact I.hok.fresh (yal _)
 refine⟨?_,fr⟩
 have I1:Inv X pins σ H {s with heap:=h2,toks:=tk+1}:=I.turnedL (ch:=[e,it]) (fun b o hb q=>by
  simp only[yav,yaL,yb4,not_or]at hb
  exact(sb.2 b hb.1).trans (k b o hb.1 hb.2 q)) hf
 refine I1.track fr (by rw[hT];exact I.sz) (by rw[hT];exact ya0 I.lt) (fun z c q=>?_) (fun p hp=>?_) ?_
 ·obtain⟨v,cq⟩:=I.cell z c q;rw[hT];exact yaD cq.lt
 ·rw[hT];exact yaD (yaq (I.pin p hp).1)
 ·refine⟨by show 2<=sizeLine;decide,[.int i tk,x],.cons ⟨tk,rfl⟩ (.cons ry .nil),?_⟩;exact⟨_,(sb.2 T ne).trans te,rfl,_,rfl⟩
def ziE{P:Program}{w:World}{K:PySem.W.Frag}{elts:List Expr}{x1:Nat}{pos:Pos}(a it e:Addr)(hei:e≠it):Turn P w K (.Tuple elts x1 pos) (ItE (SqL K) a) [e,it] e (fun i h=>(∃old,IsEnum h e it (i:Int) old)/\h.IsListIter it a i)where
 mem:=by simp
 obj:=fun i h st b hb=>by
  obtain⟨⟨old,he⟩,o,ho,c,d⟩:=st;simp only[yav,yaL,yb4]at hb
  rcases hb with rfl|rfl
  ·exact⟨_,he,fun v z=>by cases z⟩
  ·exact⟨o,ho,fun v z=>by rw[d]at z;cases z⟩
 keep:=fun i h h' st k=>by
  obtain⟨⟨old,he⟩,hi⟩:=st;exact⟨⟨old,k e (by simp) _ he⟩,hi.at fun o q=>k it (by simp) o q⟩
 item:=by
  intro X hP hw hK hc i pins s σ H E I hf st hg;subst hP hw hK;obtain⟨xs,x,hq,hx⟩:=hg;obtain⟨⟨old,he⟩,hi⟩:=st;obtain⟨its,rv,p,hz⟩:=I.list hq;obtain⟨u,hu,ru⟩:=rv.get hx;refine wpAny_pyNext_enum_item he hi p.isList (x:=u) (by simpa using hu) hei fun h1 ho hi1 ht1 hz1 k1=>?_
  have neT:s.heap.objs.size≠e:=ya0 (yaq he);refine⟨_,rfl,wpAny_letOwnedTupleGo_enum ho fun h2 he2 sb=>?_⟩;obtain⟨I2,fr⟩:=zim (h2:=h2) (y:=x) I hf rfl ht1 k1 sb neT ru;refine⟨.ref s.heap.objs.size,_,I2,rfl,⟨_,x,rfl,fr,rfl,fun ys hy=>by rw[I.list_inj hy hq];exact hx⟩,⟨⟨u,by simpa using he2⟩,hi1.at fun o q=>(sb.2 it (Ne.symm hei)).trans q⟩,fun b hb=>?_⟩;rw[zah]
  ·exact(hf b hb).1
  ·rintro rfl;simp only[yav,yaL,yb4]at hb
   rcases hb with z|z
   ·exact neT z
   ·obtain⟨o,q,_⟩:=hi;exact absurd (yaq q) (by rw[<-z];exact yaQ _)
 done:=by
  intro X hP hw hK hc i pins s σ H E I hf st hg;subst hP hw hK;obtain⟨xs,hq,hx⟩:=hg;obtain⟨⟨old,he⟩,hi⟩:=st;obtain⟨its,rv,p,hz⟩:=I.list hq;have hl:=rv.length;obtain⟨f0,f1,f2,f3,f4,f5⟩:=hf it (by simp);exact wpAny_pyNext_enum_end (I.ok.hd hc) he hi p.isList (by simp;omega) fun h' eb=>⟨rfl,I.turned (t':=s.toks) (fun b o hb q=>eb b o hb q) f0 f1 f3 f4 f5⟩
 self:=fun _ _ _ _ _ st h=>by
  obtain⟨⟨old,he⟩,_⟩:=st;exact yce he h
def ziD{P:Program}{w:World}{K:PySem.W.Frag}{elts:List Expr}{x1:Nat}{pos:Pos}(a it e:Addr)(hei:e≠it):Turn P w K (.Tuple elts x1 pos) (ItE (SqT K) a) [e,it] e (fun i h=>(∃old,IsEnum h e it (i:Int) old)/\h.IsTupleIter it a i)where
 mem:=by simp
 obj:=fun i h st b hb=>by
  obtain⟨⟨old,he⟩,o,ho,c,d⟩:=st;simp only[yav,yaL,yb4]at hb
  rcases hb with rfl|rfl
  ·exact⟨_,he,fun v z=>by cases z⟩
  ·exact⟨o,ho,fun v z=>by rw[d]at z;cases z⟩
 keep:=fun i h h' st k=>by
  obtain⟨⟨old,he⟩,hi⟩:=st;exact⟨⟨old,k e (by simp) _ he⟩,hi.at fun o q=>k it (by simp) o q⟩
 item:=by
  intro X hP hw hK hc i pins s σ H E I hf st hg;subst hP hw hK;obtain⟨xs,x,hq,hx⟩:=hg;obtain⟨⟨old,he⟩,hi⟩:=st;obtain⟨its,rv,p,hz⟩:=I.tuple hq;obtain⟨u,hu,ru⟩:=rv.get hx
  have hlt:i<its.toArray.size:=by
   have:=(yaj.mp hu).1;simpa using this
  have nat':a≠it:=by
   rintro rfl;obtain⟨o,q,c,_⟩:=hi;obtain⟨o2,q2,c2,_⟩:=id p;rw[q]at q2;cases q2;rw[c]at c2;simp at c2
  have nae:e ∉ [it,a]:=by
   simp only[yav,yaL,yb4,not_or];refine⟨hei,?_⟩;rintro rfl;obtain⟨o2,q2,c2,_⟩:=id p;rw[he]at q2;cases q2;simp at c2
  refine wpAny_pyNext_enum_itemD (D:=zgJ (A:=X.A.in1) (I.ok.hd hc) it a nat' its.toArray) he ⟨hi,show s.heap.IsTuple a its.toArray from p⟩ hlt hei nae fun u' h1 tk hu' ho hi1 ht1 hz1 k1=>?_
  have eu:u'=u:=by
   have:its[i]?=some u':=by simpa using hu'
   rw[hu]at this;exact(Option.some.inj this).symm
  subst eu;have neT:s.heap.objs.size≠e:=ya0 (yaq he);refine⟨_,rfl,wpAny_letOwnedTupleGo_enum ho fun h2 he2 sb=>?_⟩;obtain⟨I2,fr⟩:=zim (h2:=h2) (y:=x) I hf rfl ht1 k1 sb neT ru;refine⟨.ref s.heap.objs.size,_,I2,rfl,⟨_,x,rfl,fr,rfl,fun ys hy=>by rw[I.tuple_inj hy hq];exact hx⟩,⟨⟨u',by simpa using he2⟩,hi1.1.at fun o q=>(sb.2 it (Ne.symm hei)).trans q⟩,fun b hb=>?_⟩;rw[zah]
  ·exact(hf b hb).1
  ·rintro rfl;simp only[yav,yaL,yb4]at hb
   rcases hb with z|z
   ·exact neT z
   ·obtain⟨o,q,_⟩:=hi;exact absurd (yaq q) (by rw[<-z];exact yaQ _)
 done:=by
  intro X hP hw hK hc i pins s σ H E I hf st hg;subst hP hw hK;obtain⟨xs,hq,hx⟩:=hg;obtain⟨⟨old,he⟩,hi⟩:=st;obtain⟨its,rv,p,hz⟩:=I.tuple hq;have hl:=rv.length;obtain⟨f0,f1,f2,f3,f4,f5⟩:=hf it (by simp);have ty:s.TypeIs (.ref e) "enumerate":=⟨_,he,rfl⟩;unfold pyNext;refine yaa (wpAny_attempt (ya4 (name:=Str.ofString "__next__") ty F.slot_enumerate_next (ybd F.slot_enumerate_next ty F.entry_enumerate_next ?_ (F.args_enumerate_next_1 _))));show wpAny _ _ (field (.ref e) 2 >>= _) _ _ _;refine yaa (ybq he rfl (x:=.ref it) rfl ?_);refine yaa (zji (I.ok.hd hc) hi (show s.heap.IsTuple a its.toArray from p) (by simp;omega) fun h' x eb hx'=>?_);obtain⟨o,ho,hcl⟩:=hx';refine yaa (yck (T:="StopIteration") (b:=true) ⟨o,ho,hcl⟩ isSubtype_stop ?_);exact yah ⟨rfl,I.turned (t':=s.toks) (fun b o hb q=>eb b o hb q) f0 f1 f3 f4 f5⟩
 self:=fun _ _ _ _ _ st h=>by
  obtain⟨⟨old,he⟩,_⟩:=st;exact yce he h
theorem zgP:bootBuiltins "enumerate"=some (.type "enumerate"):=by decide +kernel
noncomputable def zvR(S:Hp->Addr->List V->Prop)(ta:TA):TI:=fun σ H R=>ta σ H fun vs H1=>∃a,vs=[.ref a]/\(∃xs,S H1 a xs)/\R (ItE S a) H1
theorem zlD{K:PySem.W.Frag}{elts:List Expr}{x1:Nat}{tp:Pos}{a:Expr}{ta:TA}{p pos:Pos}(hg:Gl X "enumerate")(hm:X.mg "enumerate"=none)(ha:PA X [a] ta)(hK:autoParam (X.K=K) yAW)(hs:autoParam (starEach [a] X.env=[(false,eval a X.env)]) yAW):
  PI X (.Tuple elts x1 tp) (.Call (.Name "enumerate" p) [a] [] pos) (zvR (SqL K) ta):=by
 subst hK;intro pins s σ H R I h;refine Call_ (zdZ I hg hm zgP (ya1 (thn (ha pos pins s σ H _ I h) fun us s1 ⟨vs,H1,I1,r1,q1⟩=>?_) hs rfl));obtain⟨b,e,⟨xs,hq⟩,q⟩:=q1;subst e
 cases r1 with
 |cons r rr=>
  cases rr;cases r;obtain⟨its,rv,pl,hz⟩:=I1.list hq;refine call_enumerate_list pl.isList fun h' he hi hz' k=>yce he ?_
  refine⟨s1.heap.objs.size+1,[s1.heap.objs.size+1,s1.heap.objs.size],_,_,H1,rfl,I1.kept (t':=s1.toks) k,ziE b _ _ (Nat.succ_ne_self _),⟨⟨_,he⟩,hi⟩,fun c hb=>?_,q⟩;simp only[yav,yaL,yb4]at hb
  have hc:s1.heap.objs.size<=c:=by rcases hb with rfl|rfl<;>omega
  exact I1.fpOk hc (I1.hok.fresh hc)
theorem zlC{K:PySem.W.Frag}{elts:List Expr}{x1:Nat}{tp:Pos}{a:Expr}{ta:TA}{p pos:Pos}(hg:Gl X "enumerate")(hm:X.mg "enumerate"=none)(ha:PA X [a] ta)(hK:autoParam (X.K=K) yAW)(hs:autoParam (starEach [a] X.env=[(false,eval a X.env)]) yAW):
  PI X (.Tuple elts x1 tp) (.Call (.Name "enumerate" p) [a] [] pos) (zvR (SqT K) ta):=by
 subst hK;intro pins s σ H R I h;refine Call_ (zdZ I hg hm zgP (ya1 (thn (ha pos pins s σ H _ I h) fun us s1 ⟨vs,H1,I1,r1,q1⟩=>?_) hs rfl));obtain⟨b,e,⟨xs,hq⟩,q⟩:=q1;subst e
 cases r1 with
 |cons r rr=>
  cases rr;cases r;obtain⟨its,rv,pl,hz⟩:=I1.tuple hq;refine zfV (show s1.heap.IsTuple b its.toArray from pl) fun h' he hi hz' k=>yce he ?_
  refine⟨s1.heap.objs.size+1,[s1.heap.objs.size+1,s1.heap.objs.size],_,_,H1,rfl,I1.kept (t':=s1.toks) k,ziD b _ _ (Nat.succ_ne_self _),⟨⟨_,he⟩,hi⟩,fun c hb=>?_,q⟩;simp only[yav,yaL,yb4]at hb
  have hc:s1.heap.objs.size<=c:=by rcases hb with rfl|rfl<;>omega
  exact I1.fpOk hc (I1.hok.fresh hc)
end
end L2
namespace S2
open PySem PySem.Spec PyProof.Rows L2
structure ItOk(cl:Cf)(w:Wd)(J:It)(ds:List D):Prop where
 go:∀w',Fut w w'->∀i,i<ds.length->J.go i w'.H
 stop:∀w',Fut w w'->J.stop ds.length w'.H
 yld:∀w',Fut w w'->∀i d x H',ds[i]?=some d->J.yld i w'.H x H'->∃w'',w''.H=H'/\Grow w' w''/\Shd cl w'' x d
noncomputable abbrev Fi:=Env->Sto->Out (List D)
noncomputable def tI(cl:Cf)(E:St->XK)(f:Fi):TI:=fun σ H R'=>∃B w ρ S,w.H=H/\Rel cl B σ w ρ S/\match f ρ S with
 |.ok ds S'=>∀J w',Rel cl B σ w' ρ S'->Fut w w'->ItOk cl w' J ds->R' J w'.H|.exc c S'=>∀w',Rel cl B σ w' ρ S'->Fut w w'->E σ (.ref (cl c)) none w'.H|.bad=>False
def PI.imp{X:Cx}{tg it:Expr}{t t':TI}(h:PI X tg it t)(i:∀σ H Q,t' σ H Q->t σ H Q):PI X tg it t':=fun pins s σ H Q I q=>h pins s σ H Q I (i _ _ _ q)
inductive Tg where|one (i:Nat)|tup (is:List Nat)
noncomputable def zdW:List Nat->List D->Env->Option Env
 |[],[],ρ=>some ρ|i::is,d::ds,ρ=>zdW is ds (ρ.set i (some (false,d)))|_,_,_=>none
noncomputable def Tg.put:Tg->Env->D->Option Env
 |.one i,ρ,d=>some (ρ.set i (some (false,d)))|.tup is,ρ,.tup ds=>zdW is ds ρ|.tup _,_,_=>none
noncomputable def tG(cl:Cf)(n:Nat)(tg:Tg):TG:=fun v σ H Q=>∃B w ρ S d ρ',w.H=H/\Rel cl B σ w ρ S/\Shd cl w v d/\tg.put ρ d=some ρ'/\∀σ',σ'.length=σ.length->σ'.drop n=σ.drop n->Rel cl B σ' w ρ' S->Q σ' w.H
def PG.imp{X:Cx}{tg:Expr}{t t':TG}(h:PG X tg t)(i:∀v σ H Q,t' v σ H Q->t v σ H Q):PG X tg t':=fun pins s σ H v u Q I r q=>h pins s σ H v u Q I r (i _ _ _ _ q)
def zf1(tg:Tg)(body:Fs):List D->Env->Sto->Fo
 |[],ρ,S=>.nx ρ S|d::ds,ρ,S=>match tg.put ρ d with
  |none=>.bad|some ρ1=>match body ρ1 S with
   |.nx ρ' S'=>zf1 tg body ds ρ' S'|.ct ρ' S'=>zf1 tg body ds ρ' S'|.bk ρ' S'=>.nx ρ' S'|o=>o
noncomputable def zjc(tg:Tg)(it:Fi)(body:Fs):Fs:=fun ρ S=>match it ρ S with
 |.ok ds S'=>zf1 tg body ds ρ S'|.exc c S'=>.ex c ρ S'|.bad=>.bad
section
variable{X:Cx}{cl:Cf}{E:St->XK}{own:Bool}{e iter tg:Expr}{body:List Stmt}{fb:Fs}{fi:Fi}{fc:Fe}{t:Tg}{pos:Pos}
theorem zio{α:Type}{n i:Nat}{l:List α}{a:α}(h:i<n):(l.set i a).drop n=l.drop n:=by
 refine yaV fun k=>?_
 rw[ybw,ybw,yaE (by omega)]
def zpw{n i:Nat}{x:Str}(hin:i<n)(hN:X.N.Nodup)(hi:X.N[i]?=some x)(hx:Loc X.env.scope x)(hf:X.fn x=true\/X.env.scope.names.lookup x=some .local):PG X (.Name x pos) (tG cl n (.one i)):=by
 refine PG.imp (zjO hN hi hx hf) ?_;rintro v σ H Q ⟨B,w,ρ,S,d,ρ',rfl,R,h,hp,q⟩;cases hp;exact q _ (yaw ..) (zio hin) (R.put h)
noncomputable def tGs(cl:Cf)(n:Nat)(is:List Nat):TGs:=fun vs σ H Q=>∃B w ρ S ds ρ',w.H=H/\Rel cl B σ w ρ S/\Shds cl w vs ds/\zdW is ds ρ=some ρ'/\∀σ',σ'.length=σ.length->σ'.drop n=σ.drop n->Rel cl B σ' w ρ' S->Q σ' w.H
def znx{n:Nat}:PGs X [] (tGs cl n []):=by
 intro pins s σ H vs us Q I r h;obtain⟨B,w,ρ,S,ds,ρ',rfl,R,hs,hp,q⟩:=h
 cases hs with
 |nil=>
  cases hp;exact znY pins s σ w.H [] us Q I r ⟨rfl,q σ rfl rfl R⟩
 |cons _ _=>cases hp
def zll{n i:Nat}{is:List Nat}{x:Str}{es:List Expr}(hin:i<n)(hN:X.N.Nodup)(hi:X.N[i]?=some x)(hx:Loc X.env.scope x)(hf:X.fn x=true\/X.env.scope.names.lookup x=some .local)(h2:PGs X es (tGs cl n is)):PGs X (.Name x pos::es) (tGs cl n (i::is)):=by
 intro pins s σ H vs us Q I r h;obtain⟨B,w,ρ,S,ds,ρ',rfl,R,hs,hp,q⟩:=h;refine zlE (zjO hN hi hx hf) h2 rfl pins s σ w.H vs us Q I r ?_
 cases hs with
 |nil=>cases hp|cons h t=>
  rename_i v d vs ds;exact⟨v,vs,rfl,B,w,_,S,ds,ρ',rfl,R.put h,t,hp,fun σ' e1 e2=>q σ' (e1.trans (yaw ..)) (e2.trans (zio hin))⟩
def zpv{es:List Expr}{n k:Nat}{is:List Nat}(hc:X.calm=true)(h:PGs X es (tGs cl n is))(hn:(assignEach es X.env).length=is.length)(hst:(assignEach es X.env).findIdx? (·.1)=none):PG X (.Tuple es k pos) (tG cl n (.tup is)):=by
 refine PG.imp (zpY hc h hn hst) ?_;rintro v σ H Q ⟨B,w,ρ,S,d,ρ',rfl,R,h,hp,q⟩
 cases h with
 |tup e k r=>
  have hl:∀(is:List Nat) (ds:List D) (ρ ρ':Env),zdW is ds ρ=some ρ'->ds.length=is.length:=by
   intro is
   induction is with
   |nil=>intro ds ρ ρ' h;cases ds with
    |nil=>rfl|cons _ _=>cases h
   |cons i is ih=>intro ds ρ ρ' h;cases ds with
    |nil=>cases h|cons d ds=>rw[yae,yae,ih ds _ _ h]
  rename_i a xs ds;refine⟨a,xs,rfl,SqT.of e,by rw[r.length];exact hl is ds ρ ρ' hp,B,w,ρ,S,ds,ρ',rfl,R,r,hp,q⟩
 |_=>cases hp
theorem zpl{n:Nat}(hp:PassesOwn (model X.prog X.w) X.A X.env X.xe)(hc:X.calm=true)(hi:PI X tg iter (tI cl E fi))(hg:PG X tg (tG cl n t))(hb:PSs X body (tS cl E own fb))(hs:∀x,foldedSetIterable iter X.env x=pure x):PS X (.For tg iter body [] pos) (tS cl E own (zjc t fi fb)):=by
 refine PS.imp (zpW hp hc hi hg hb hs) ?_;rintro De σ H ⟨B,w,ρ,S,rfl,R,q⟩;refine⟨B,w,ρ,S,rfl,R,?_⟩;unfold zjc at q
 cases hf:fi ρ S with
 |bad=>rwa[hf]at q|exc c S1=>rw[hf]at q;exact fun w' R' F'=>q σ w' R' F'|ok ds S1=>
  rw[hf]at q;intro J w0 R0 F0 hJ;dsimp only at q;refine⟨fun i m σ' H'=>m=ds.length-i/\i<=ds.length/\∃w1 ρ1 S2,w1.H=H'/\Fut w0 w1/\Rel cl B σ' w1 ρ1 S2/\ziv cl E own B w1 De (zf1 t fb (ds.drop i) ρ1 S2),⟨ds.length,by simp,ybh _,w0,ρ,S1,rfl,Fut.refl _,R0,by rw[ycI];exact ziv.up F0 q⟩,?_⟩;rintro i m σ1 H1 ⟨rfl,hi,w1,ρ1,S2,rfl,F1,R1,q1⟩
  by_cases hlt:i<ds.length
  ·obtain⟨d,hd⟩:∃d,ds[i]?=some d:=⟨ds[i],yad hlt⟩
   have hdr:ds.drop i=d::ds.drop (i+1):=by
    rw[yby hlt];rw[yad hlt]at hd;cases hd;rfl
   rw[hdr]at q1;unfold zf1 at q1
   cases hp1:t.put ρ1 d with
   |none=>rw[hp1]at q1;exact q1.elim|some ρ2=>
    rw[hp1]at q1;dsimp only at q1;refine .inr ⟨hJ.go w1 F1 i hlt,fun σ' H'=>i+1<=ds.length/\∃w1 ρ1 S2,w1.H=H'/\Fut w0 w1/\Rel cl B σ' w1 ρ1 S2/\ziv cl E own B w1 De (zf1 t fb (ds.drop (i+1)) ρ1 S2),fun σ' H' h'=>⟨ds.length-(i+1),by omega,rfl,h'.1,h'.2⟩,fun x H' y=>?_⟩;obtain⟨w2,rfl,g2,s2⟩:=hJ.yld w1 F1 i d x H' hd y;refine⟨B,w2,ρ1,S2,d,ρ2,rfl,R1.grow g2,s2,hp1,fun σ2 _ _ R2=>⟨B,w2,ρ2,S2,rfl,R2,?_⟩⟩;have q2:=ziv.up g2.fut q1
    cases hb:fb ρ2 S2 with
    |bad=>rwa[hb]at q2|rt d S3=>rwa[hb]at q2|ex c ρ3 S3=>rwa[hb]at q2|bk ρ3 S3=>rw[hb]at q2;exact fun σ3 w3 R3 F3=>q2 σ3 w3 R3 F3|nx ρ3 S3=>rw[hb]at q2;exact fun σ3 w3 R3 F3=>⟨hlt,w3,ρ3,S3,rfl,F1.trans (g2.fut.trans F3),R3,ziv.up F3 q2⟩|ct ρ3 S3=>rw[hb]at q2;exact fun σ3 w3 R3 F3=>⟨hlt,w3,ρ3,S3,rfl,F1.trans (g2.fut.trans F3),R3,ziv.up F3 q2⟩
  ·have e:i=ds.length:=by omega
   subst e;rw[List.drop_length]at q1;exact .inl ⟨hJ.stop w1 F1,q1 σ1 w1 R1 (Fut.refl _)⟩
def zin(f:Fe):Fi:=fun ρ S=>(f ρ S).bind fun d S1=>match d with|.lst l=>.ok l S1|_=>.bad
def zhw(f:Fe):Fi:=fun ρ S=>(f ρ S).bind fun d S1=>match d with|.tup l=>.ok l S1|_=>.bad
theorem zju(he:PE X e (tE cl E fc)):PI X tg e (tI cl E (zin fc)):=by
 refine PI.imp (zjM he) ?_;rintro σ H Q ⟨B,w,ρ,S,rfl,R,q⟩;refine⟨B,w,ρ,S,rfl,R,?_⟩;unfold zin at q
 cases hf:fc ρ S with
 |bad=>rwa[hf]at q|exc c S1=>rwa[hf]at q|ok d S1=>
  rw[hf]at q;intro v w' R' F' h';dsimp only[Out.bind]at q
  cases h' with
  |lst e k r=>
   rename_i a xs ds;refine⟨a,rfl,⟨xs,SqL.of e⟩,q _ w' R' F' ?_⟩;have hl:=r.length;refine⟨fun w1 F1 i hi=>⟨xs,xs[i]'(by omega),SqL.of (F1.keep _ _ e k).1,yad (by omega)⟩,fun w1 F1=>⟨xs,SqL.of (F1.keep _ _ e k).1,by omega⟩,fun w1 F1 i d x H1 hd y=>?_⟩;obtain⟨rfl,hy⟩:=y;have hx:=hy xs (SqL.of (F1.keep _ _ e k).1);obtain⟨d',e1,e2⟩:=r.get hx;rw[hd]at e1;cases e1;exact⟨w1,rfl,Grow.refl _,e2.up F1⟩
  |_=>exact q.elim
def zps(he:PE X e (tE cl E fc)):PI X tg e (tI cl E (zhw fc)):=by
 refine PI.imp (zpX he) ?_;rintro σ H Q ⟨B,w,ρ,S,rfl,R,q⟩;refine⟨B,w,ρ,S,rfl,R,?_⟩;unfold zhw at q
 cases hf:fc ρ S with
 |bad=>rwa[hf]at q|exc c S1=>rwa[hf]at q|ok d S1=>
  rw[hf]at q;intro v w' R' F' h';dsimp only[Out.bind]at q
  cases h' with
  |tup e k r=>
   rename_i a xs ds;refine⟨a,rfl,⟨xs,SqT.of e⟩,q _ w' R' F' ?_⟩;have hl:=r.length;refine⟨fun w1 F1 i hi=>⟨xs,xs[i]'(by omega),SqT.of (F1.keep _ _ e k).1,yad (by omega)⟩,fun w1 F1=>⟨xs,SqT.of (F1.keep _ _ e k).1,by omega⟩,fun w1 F1 i d x H1 hd y=>?_⟩;obtain⟨rfl,hy⟩:=y;have hx:=hy xs (SqT.of (F1.keep _ _ e k).1);obtain⟨d',e1,e2⟩:=r.get hx;rw[hd]at e1;cases e1;exact⟨w1,rfl,Grow.refl _,e2.up F1⟩
  |_=>exact q.elim
noncomputable def zaA(lo hi:Int):List D:=(List.range (hi-lo).toNat).map fun(i:Nat)=>.int (lo+i)
def zd8(f:Fe):Fi:=fun ρ S=>(zaj [f] ρ S).bind fun ds S1=>match ds with|[.int j]=>if -1000000<=j/\j<=1000000 then .ok (zaA 0 j) S1 else .bad|_=>.bad
def zrb(f g:Fe):Fi:=fun ρ S=>(zaj [f,g] ρ S).bind fun ds S1=>match ds with|[.int i,.int j]=>if(-1000000<=i/\i<=1000000)/\-1000000<=j/\j<=1000000 then .ok (zaA i j) S1 else .bad|_=>.bad
def zqT{w:Wd}{lo hi:Int}{n:Nat}(hn:n=(hi-lo).toNat):ItOk cl w (Itr lo n) (zaA lo hi):=by
 subst hn
 have hl:(zaA lo hi).length=(hi-lo).toNat:=by unfold zaA;rw[yaf,ybn]
 refine⟨fun w1 F1 i h=>by rw[hl]at h;exact h,fun w1 F1=>by rw[hl];exact yal _,fun w1 F1 i d x H1 hd y=>?_⟩;obtain⟨rfl,rfl⟩:=y;unfold zaA at hd;rw[yar]at hd
 cases hr:(List.range (hi-lo).toNat)[i]? with
 |none=>rw[hr]at hd;cases hd|some j=>
  rw[hr]at hd;have:=(yaj.mp hr).2;rw[List.getElem_range]at this;subst this;cases hd;exact⟨w1,rfl,Grow.refl _,.int _⟩
theorem znv{p:Pos}(hg:Gl X "range")(hm:X.mg "range"=none)(ha:PA X [e] (tAs cl E [fc]))(hs:starEach [e] X.env=[(false,eval e X.env)]):PI X tg (.Call (.Name "range" p) [e] [] pos) (tI cl E (zd8 fc)):=by
 refine PI.imp (zjL hg hm ha hs) ?_;rintro σ H Q ⟨B,w,ρ,S,rfl,R,q⟩;refine⟨B,w,ρ,S,rfl,R,?_⟩;unfold zd8 at q
 cases hf:zaj [fc] ρ S with
 |bad=>rwa[hf]at q|exc c S1=>rwa[hf]at q|ok ds S1=>
  rw[hf]at q;intro vs w' R' F' h';dsimp only[Out.bind]at q;split at q
  ·rename_i ds' S' hm';split at hm'
   ·rename_i j;split at hm'
    ·rename_i hb;cases hm'
     cases h' with
     |cons h1 h2=>
      cases h1;cases h2;exact⟨j,rfl,by omega,by omega,q _ w' R' F' (zqT (by omega))⟩
    ·cases hm'
   ·cases hm'
  ·rename_i hm';split at hm'<;>first|(split at hm'<;>cases hm')|cases hm'
  ·exact q.elim
end
noncomputable def zrm(ρ:Env)(i:Nat):Option (Bool×D):=match ρ[i]? with|some (some (false,d))=>some (false,d)|_=>none
def zat(n:Nat)(caps:List Nat)(ρ:Env):Env:=List.replicate n none++caps.map (zrm ρ)
def zeM:Fe:=zab (.bl true)
def zaS(tg:Tg)(c elt:Fe)(ρ0:Env):List D->Sto->Out (List D)
 |[],S=>.ok [] S|d::ds,S=>match tg.put ρ0 d with
  |none=>.bad|some ρ1=>(c ρ1 S).bind fun b S1=>match isB b with
   |some true=>(elt ρ1 S1).bind fun y S2=>(zaS tg c elt ρ0 ds S2).bind fun ys S3=>.ok (y::ys) S3|some false=>zaS tg c elt ρ0 ds S1|none=>.bad
def zcQ(n:Nat)(tg:Tg)(it:Fi)(c elt:Fe)(caps:List Nat):Fe:=fun ρ S=>(it ρ S).bind fun ds S1=>match zaS tg c elt (zat n caps ρ) ds S1 with
 |.ok ys S2=>if zaL ys.length then .ok (.lst ys) S2 else .bad
 |_=>.bad
noncomputable abbrev noE:St->XK:=fun _ _ _ _=>False
section
variable{cl:Cf}
theorem zgA{B:Base}{σ:St}{w w1:Wd}{ρ:Env}{S S1:Sto}{n:Nat}{caps:List (Str×Nat)}(R:Rel cl B σ w ρ S){B1:Base}(W1:World' cl B1 w1 S1)(F1:Fut w w1){σ':St}(hσ:σ'.length=n+caps.length)(hc:σ'.drop n=caps.map fun p=>(σ[p.2]?).join):
  Rel cl B1 σ' w1 (zat n (caps.map (·.2)) ρ) S1 where
 wd:=W1
 len:=by unfold zat;rw[hσ,yao,yaH,yaf,yaf]
 slots:=fun i o d h=>by
  unfold zat at h
  by_cases hi:i<n
  ·rw[yaC (by rw[yaH];exact hi),ybc]at h
   split at h<;>cases h
  ·rw[yat (by rw[yaH];omega),yaH,ybu,yar]at h
   cases hp:caps[i-n]? with
   |none=>rw[hp]at h;cases h|some p=>
    rw[hp]at h;have h':zrm ρ p.2=some (o,d):=Option.some.inj h;unfold zrm at h';split at h'
    ·rename_i d' hd;cases h';obtain⟨v,e,x⟩:=R.slots p.2 false d hd;refine⟨v,?_,Shd.up F1 x⟩;have:=congrArg (fun l=>l[i-n]?) hc;rw[ybw,yar,hp]at this;rw[show n+(i-n)=i by omega]at this;rw[this];show some ((σ[p.2]?).join)=_;rw[e];rfl
    ·cases h'
end
section
variable{X:Cx}{cl:Cf}{E:St->XK}
theorem zm4{fi:Fi}{t:Tg}{fc fe:Fe}{n:Nat}{caps:List (Str×Nat)}{σ:St}{H:Hp}{Q:VK}(q:tN cl E (zcQ n t fi fc fe (caps.map (·.2))) σ H Q):
  zf9 (tI cl E fi) (tG cl n t) (tTr cl noE fc) (tE cl noE fe) n caps σ H Q:=by
 obtain⟨B,w,ρ,S,rfl,R,q⟩:=q;refine⟨B,w,ρ,S,rfl,R,?_⟩;unfold zcQ at q
 cases hf:fi ρ S with
 |bad=>rwa[hf]at q|exc c S1=>rwa[hf]at q|ok ds S1=>
  rw[hf]at q;dsimp only[Out.bind]at q;intro J w0 R0 F0 hJ
  cases hcd:zaS t fc fe (zat n (caps.map (·.2)) ρ) ds S1 with
  |bad=>rw[hcd]at q;exact q.elim|exc _ _=>rw[hcd]at q;exact q.elim|ok all Sf=>
   rw[hcd]at q;dsimp only at q
   cases hz:zaL all.length with
   |false=>rw[hz,if_neg (by decide)]at q;exact q.elim
   |true=>
    rw[hz,if_pos rfl]at q;dsimp only at q;refine⟨fun i m ys σ' H'=>m=ds.length-i/\i<=ds.length/\σ'.length=n+caps.length/\σ'.drop n=(caps.map fun p=>(σ[p.2]?).join)/\∃w1 S2 es zbF,w1.H=H'/\Fut w0.inn w1/\World' cl w0.base w1 S2/\Shds cl w1 ys es/\zaS t fc fe (zat n (caps.map (·.2)) ρ) (ds.drop i) S2=.ok zbF Sf/\es++zbF=all,⟨ds.length,by simp,ybh _,by simp[capσ],by simp[capσ],w0.inn,S1,[],all,rfl,Fut.refl _,R0.wd.enter,.nil,by rw[ycI];exact hcd,rfl⟩,?_⟩;rintro i m ys σ1 H1 ⟨rfl,hi,hl1,hd1,w1,S2,es,zbF,rfl,F1,W1,sh,hrest,hall⟩;refine⟨?_,?_⟩
    ·rw[sh.length];refine yan ?_ (zaO hz);rw[<-hall,yao];omega
    have F1':Fut w0 w1:=(zbS w0).trans F1
    by_cases hlt:i<ds.length
    ·obtain⟨d,hdi⟩:∃d,ds[i]?=some d:=⟨ds[i],yad hlt⟩
     have hdr:ds.drop i=d::ds.drop (i+1):=by
      rw[yby hlt];rw[yad hlt]at hdi;cases hdi;rfl
     rw[hdr]at hrest;unfold zaS at hrest;refine .inr ⟨hJ.go w1 F1' i hlt,fun x H' y=>?_⟩;obtain⟨w2,rfl,g2,s2⟩:=hJ.yld w1 F1' i d x H' hdi y;have R1:Rel cl w0.base σ1 w2 (zat n (caps.map (·.2)) ρ) S2:=zgA R0 (W1.grow g2) (F1'.trans g2.fut) hl1 hd1
     cases hp:t.put (zat n (caps.map (·.2)) ρ) d with
     |none=>rw[hp]at hrest;cases hrest|some ρ1=>
      rw[hp]at hrest;dsimp only at hrest;refine⟨w0.base,w2,_,S2,d,ρ1,rfl,R1,s2,hp,fun σ2 hk1 hk2 R2=>⟨w0.base,w2,ρ1,S2,rfl,R2,?_⟩⟩
      cases hc:fc ρ1 S2 with
      |bad=>rw[hc]at hrest;cases hrest|exc _ _=>rw[hc]at hrest;cases hrest|ok b S3=>
       rw[hc]at hrest;dsimp only[Out.bind]at hrest ⊢
       cases hb:isB b with
       |none=>rw[hb]at hrest;cases hrest|some bb=>
        rw[hb]at hrest;intro w3 R3 F3
        cases bb with
        |false=>exact zl5 ⟨ds.length-(i+1),by omega,rfl,hlt,hk1.trans hl1,hk2.trans hd1,w3,S3,es,zbF,rfl,F1.trans (g2.fut.trans F3),R3.wd,sh.up (g2.fut.trans F3),hrest,hall⟩
        |true=>
         refine zl4 ⟨w0.base,w3,ρ1,S3,rfl,R3,?_⟩;dsimp only at hrest
         cases he:fe ρ1 S3 with
         |bad=>rw[he]at hrest;cases hrest|exc _ _=>rw[he]at hrest;cases hrest|ok yv S4=>
          rw[he]at hrest;dsimp only at hrest
          cases hr:zaS t fc fe (zat n (caps.map (·.2)) ρ) (ds.drop (i+1)) S4 with
          |bad=>rw[hr]at hrest;cases hrest|exc _ _=>rw[hr]at hrest;cases hrest|ok zs S5=>
           rw[hr]at hrest;cases hrest;intro v w4 R4 F4 h4;have ff:=g2.fut.trans (F3.trans F4);exact⟨ds.length-(i+1),by omega,rfl,hlt,hk1.trans hl1,hk2.trans hd1,w4,S4,es++[yv],zs,rfl,F1.trans ff,R4.wd,(sh.up ff).append (.cons h4 .nil),hr,by rw[<-hall,ycb];rfl⟩
    ·have e:i=ds.length:=by omega
     subst e;rw[List.drop_length]at hrest;cases hrest;rw[yaU]at hall;subst hall;refine .inl ⟨hJ.stop w1 F1',fun p hp=>?_⟩;obtain⟨Rb,Fb⟩:=R0.leave W1 F1;exact q p (.lst ys) (w0.back w1) Rb (F0.trans Fb) hp (.lst (sh.up (zcn W1)))
end
end S2
namespace L2
open PySem PySem.Spec PyProof.Rows
def CXE(P:Program)(w:World):CXT:=fun outer H s E e s'=>∃(a:Addr) (cls a0:Value) (H':Hp) (B:Heap),e=.ref a/\Heap.FlyingW B outer a cls a0 s'.heap ∧
 (∀b o,s'.heap.get? b=some o->H' b≠none->B.get? b=some o)/\(∀b o,s.heap.get? b=some o->H b=none->b ∉ frs outer->B.get? b=some o) ∧
 (∀b o,s.heap.get? b=some o->b ∉ frs outer->∃o',B.get? b=some o') ∧
 s'.os=s.os/\AllBare s'.gens/\Un (frs outer) [] H H' s.heap s'.heap/\HOk P w H' s'.heap/\E cls none H'
def zbx.has{P:Program}{w:World}{H:Hp}{h:Heap}{a:Addr}{o:HO}(x:zbx P w H h a o):∃ob,h.get? a=some ob:=by
 cases o with
 |lst xs=>obtain⟨_,_,_,_,e⟩:=x;exact⟨_,e⟩|tup xs=>obtain⟨_,_,_,ob,e,_⟩:=x;exact⟨_,e⟩|dK kvs=>obtain⟨_,_,_,_,o,_,_,e,_⟩:=x;exact⟨_,e⟩|dT kvs=>obtain⟨_,_,_,_,o,_,_,e,_⟩:=x;exact⟨_,e⟩|set S n=>obtain⟨o,_,_,_,e,_⟩:=x;exact⟨_,e⟩|ins C dx fs=>obtain⟨_,_,_,e,_⟩:=x;exact⟨_,e⟩|own y=>exact x|xd fs=>obtain⟨_,⟨_,_,_,e,_⟩,_⟩:=x;exact⟨_,e⟩|rng lo hi=>obtain⟨_,_,_,e⟩:=x;exact⟨_,e⟩|frz ob u=>obtain⟨e,_⟩:=x;exact⟨_,e⟩|tbl ps=>exact⟨_,(show h.get? a=some _ from x)⟩|met f y=>exact⟨_,(show h.get? a=some _ from x)⟩|ext φ=>obtain⟨_,e,_⟩:=x;exact e
def HOk.same{P:Program}{w:World}{H:Hp}{h h':Heap}(x:HOk P w H h)(k:∀b u,h.get? b=some u->H b≠none->h'.get? b=some u):HOk P w H h':=fun a o e=>
 (x a o e).stay (fun b u hb q=>k b u q (hb.elim (fun z=>by rw[z,e];exact yaI _) (fun z=>by rw[z];exact yaI _))) (fun _ q=>q) fun _ _ q=>q
section
variable{X:Cx}{pins:Z3}{σ:St}{H:Hp}{s:Shared}{M:Model}
def zmc(l:List Env):∀env∈l,∀b,env.frame=some b->b∈frs l:=fun env he b hb=>yb0.mpr ⟨env,he,hb⟩
def ziV{h':Heap}{e:Addr}{cls:Value}{vs:List Value}{E:XK}{Er:Z5}(I:Inv X pins σ H s)(hx:X.ex=[])(hs:X.stack=X.env::X.outer)(hf:X.env.frame=some X.env.locals)(mk:Heap.MadeExcOf s.heap h' e cls vs)(q:E cls none H):
  wpAny M X.A (leaving X.env (.ref e)) (fun _ s''=>CXE X.prog X.w X.outer X.H₀ X.s₀ E (.ref e) s'') Er {s with heap:=h'}:=by
 have hfr:X.A.frames=some (X.env::X.outer):=by rw[<-hs];exact I.ok.frames
 have hst:s.heap.FunFrames X.base (X.env::X.outer):=by rw[<-hs];exact I.stack
 refine wpAny_leaves_madeW (base:=PySem.W.hideAll s.heap (frs (X.env::X.outer))) hfr hf (fun b o z=>PySem.W.of_hideAll _ z) (PySem.W.funFrames_hide hst (zmc _)) mk fun h2 t fl tup _ up=>?_
 have inB:∀b o,s.heap.get? b=some o->b ∉ frs (X.env::X.outer)->(PySem.W.hideAll s.heap (frs (X.env::X.outer))).get? b=some o:=fun b o z n=>PySem.W.hideAll_get _ z n
 have sub:∀b,b∈frs (X.env::X.outer)->b=X.env.locals\/b∈X.fs:=fun b hb=>by
  rw[<-hs]at hb;exact yav.mp (I.stkSub b hb)
 have fre:∀b,b∈frs (X.env::X.outer)->H b=none:=fun b hb=>by rw[<-hs]at hb;exact I.stkFree b hb
 have old:∀b o,X.s₀.heap.get? b=some o->b ∉ frs X.outer->b ∉ frs (X.env::X.outer):=fun b o z n hb=>by
  rcases sub b hb with r|r
  ·exact absurd (yam (yaq z) I.ok.above) (by rw[r];exact yaQ _)
  ·exact n r
 have nx:∀b:Addr,b ∉ X.ex:=fun b z=>by rw[hx]at z;cases z
 have trk:∀b o,s.heap.get? b=some o->H b≠none->h2.get? b=some o:=fun b o z n=>fl.1 b o (inB b o z fun hb=>n (fre b hb))
 have hok2:HOk X.prog X.w H h2:=I.hok.same trk
 have slt:∀b o,s.heap.get? b=some o->b∈frs X.stack->∃sl,h2.get? b=some {o with slots:=sl}:=fun b o z hb=>by
  obtain⟨_,o',z',hd⟩:=I.stack.mem hb;rw[z]at z';cases z';exact up b o (mk.keeps b o z) hd
 have un2:Un (frs X.stack) [] H H s.heap h2:=⟨fun b o z n hb _=>fl.1 b o (inB b o z (by rw[<-hs];exact hb)),fun b o z n hb _=>slt b o z hb,fun b o z n _=>n,
  fun b o z _=>by
   by_cases hb:b∈frs X.stack
   ·obtain⟨sl,r⟩:=slt b o z hb;exact⟨_,r⟩
   ·exact⟨o,fl.1 b o (inB b o z (by rw[<-hs];exact hb))⟩,
  fun _ _ z=>z,fun _ _ _ z=>z,fun _ ps z=>⟨#[],by rw[z,Array.append_empty]⟩⟩
 have J:=I.call (g':=s.gens) (t':=s.toks) (d':=s.drawn) (ch:=[]) un2 hok2 I.bare (fun b z=>absurd z (by simp));refine⟨e,cls,.ref t,H,_,rfl,fl,fun b o z n=>?_,fun b o z n hb=>?_,fun b o z hb=>?_,J.os,J.bare,?_,J.hok,q⟩
 ·cases k:H b with
  |none=>exact absurd k n|some u=>
   obtain⟨o',z'⟩:=(I.hok b u k).has;have:=trk b o' z' n;rw[show h2.get? b=some o from z]at this;cases this;exact inB b o z' fun hb=>n (fre b hb)
 ·exact inB b o (I.base.keep b o z n hb (nx b)) (old b o z hb)
 ·obtain⟨o',z'⟩:=I.base.there b o z (nx b);exact⟨o',inB b o' z' (old b o z hb)⟩
 ·have:=J.base;rwa[hx]at this
def zlW{e:Value}{s':Shared}{E:XK}{Er:Z5}(I:Inv X pins σ H s)(hx:X.ex=[])(hs:X.stack=X.env::X.outer)(hf:X.env.frame=some X.env.locals)(q:CXE X.prog X.w X.stack H s E e s'):
  wpAny M X.A (leaving X.env e) (fun _ s''=>CXE X.prog X.w X.outer X.H₀ X.s₀ E e s'') Er s':=by
 have hfr:X.A.frames=some (X.env::X.outer):=by rw[<-hs];exact I.ok.frames
 obtain⟨a,cls,a0,H',B,rfl,fl,c1,c2,c3,os,bare,un,hok,q⟩:=q
 have fl':Heap.FlyingW B (X.env::X.outer) a cls a0 s'.heap:=by rw[<-hs];exact fl
 refine wpAny_leaves_onW hfr hf fl' fun h2 fl2 up=>?_
 have sub:∀b,b∈frs X.stack->b=X.env.locals\/b∈X.fs:=fun b hb=>yav.mp (I.stkSub b hb)
 have old:∀b o,X.s₀.heap.get? b=some o->b ∉ frs X.outer->b ∉ frs X.stack:=fun b o z n hb=>by
  rcases sub b hb with r|r
  ·exact absurd (yam (yaq z) I.ok.above) (by rw[r];exact yaQ _)
  ·exact n r
 have nx:∀b:Addr,b ∉ X.ex:=fun b z=>by rw[hx]at z;cases z
 have trk:∀b o,s'.heap.get? b=some o->H' b≠none->h2.get? b=some o:=fun b o z n=>fl2.1 b o (c1 b o z n)
 have hok2:HOk X.prog X.w H' h2:=hok.same trk
 have slt:∀b o,s.heap.get? b=some o->H b=none->b∈frs X.stack->∃sl,h2.get? b=some {o with slots:=sl}:=fun b o z n hb=>by
  obtain⟨_,o',z',hd⟩:=I.stack.mem hb;rw[z]at z';cases z';obtain⟨sl,r⟩:=un.slot b o z n hb (by simp);obtain⟨sl',r'⟩:=up b ({o with slots:=sl}:Obj) r hd;exact⟨sl',r'⟩
 have un2:Un (frs X.stack) [] H H' s.heap h2:=⟨fun b o z n hb _=>fl2.1 b o (c2 b o z n hb),fun b o z n hb _=>slt b o z n hb,un.free,
  fun b o z _=>by
   by_cases hb:b∈frs X.stack
   ·obtain⟨sl,r⟩:=slt b o z (I.stkFree b hb) hb;exact⟨_,r⟩
   ·obtain⟨o',r⟩:=c3 b o z hb
    exact⟨o',fl2.1 b o' r⟩,
  un.tups,un.frzs,un.tbls⟩
 have J:=I.call (g':=s'.gens) (t':=s'.toks) (d':=s'.drawn) (ch:=[]) un2 hok2 bare (fun b z=>absurd z (by simp));refine⟨a,cls,a0,H',B,rfl,fl2,fun b o z n=>?_,fun b o z n hb=>?_,fun b o z hb=>?_,os.trans I.os,bare,?_,J.hok,q⟩
 ·cases k:H' b with
  |none=>exact absurd k n|some u=>
   obtain⟨o',z'⟩:=(hok b u k).has;have:=trk b o' z' n;rw[show h2.get? b=some o from z]at this;cases this;exact c1 b o z' n
 ·exact c2 b o (I.base.keep b o z n hb (nx b)) (I.base.free b o z n (nx b)) (old b o z hb)
 ·obtain⟨o',z'⟩:=I.base.there b o z (nx b);exact c3 b o' z' (old b o z hb)
 ·have:=J.base;rwa[hx]at this
end
def zp8{P:Program}{w:World}{K:PySem.W.Frag}{mg:Z6}{base:Heap}{N:List Str}{qual:Str}{scope:Scope}{f:Addr}{cd:Value}{A:Around}{outer:List Env}{s:Shared}{H:Hp}{E:XK}:
  zry (CXE P w) (zmm (CXE P w) P w K mg base N qual scope f cd A outer s H E) E:=fun pins σ H1 s1 e s' I q=>
 zlW (X:=zmm (CXE P w) P w K mg base N qual scope f cd A outer s H E) I rfl rfl rfl q
def zhu{K:PySem.W.Frag}{h:Heap}{C:Addr}{bmB:List Value}{nid:String}(k:K.In h)(z:PySem.W.excIn K C bmB nid=true):
  ∃bm N nm qn bs hd sn sub ab col dd c0 c1 c2 c3 c5 mN,h.get? C=some (excClassObj nm qn C N bs bm hd sn sub ab col dd c0 c1 c2 c3 c5 nid)/\h.Ns N mN/\mN "__init__"=none/\OwnTail h bmB bm:=by
 unfold PySem.W.excIn at z;split at z
 case h_2=>cases z
 case h_1 dd cd sl ho=>
  split at z
  case h_2=>cases z
  case h_1 D bm c0 c1 c2 c3 n c5 e1 e2=>
   simp only[yac,ybQ,yaW]at z;obtain⟨⟨⟨⟨⟨z1,z2⟩,z3⟩,z4⟩,z5⟩,z6⟩:=z;subst z1 z2
   have hsl:sl=#[c0,c1,c2,c3,some (.builtin n),c5]:=by
    cases sl with
    |mk l=>exact congrArg Array.mk e2
   have hcd:cd={cd with mro:=.ref D::bm,hasDel:=false}:=by
    cases cd;simp only at e1 z3;simp only[e1,z3]
   rw[hsl,hcd]at ho;exact⟨bm,cd.ns,cd.name,_,cd.bases,_,_,_,_,_,dd,c0,c1,c2,c3,c5,_,k _ _ ho,.of_isNs (PySem.W.isNs_of_in k z5),PySem.W.nsMap_none_of_in k z5 z6,PySem.W.tail_of_in k z4⟩
noncomputable def zrx(X:Cx)(E:XK):Prop:=∀(C:Addr) (pins:Z3) (σ:St) (H:Hp) (s:Shared) (e:Addr) (h':Heap) (vs:List Value),Inv X pins σ H s->Heap.MadeExcOf s.heap h' e (.ref C) vs->E (.ref C) none H->X.xe (.ref e) {s with heap:=h'}
def zjC{P:Program}{w:World}{K:PySem.W.Frag}{mg:Z6}{base:Heap}{N:List Str}{qual:Str}{scope:Scope}{f:Addr}{cd:Value}{A:Around}{outer:List Env}{s:Shared}{H:Hp}{E:XK}:
  zrx (zmm (CXE P w) P w K mg base N qual scope f cd A outer s H E) E:=fun C pins σ H1 s1 e h' vs I mk q=>
 ziV (X:=zmm (CXE P w) P w K mg base N qual scope f cd A outer s H E) I rfl rfl rfl mk q
noncomputable def XP(X:Cx)(pins:Z3)(σ:St)(E:XK)(e:Value)(s':Shared):Prop:=∃H1 s1,Inv X pins σ H1 s1/\CXE X.prog X.w X.stack H1 s1 E e s'
def zfH{M:Model}{A:Around}{E:Z5}{K:PySem.W.Frag}{s:Shared}{C D e:Addr}{oe:Obj}{bC bD:List Value}{iC iD:String}{Q:Bool->Shared->Prop}(k:K.In s.heap)(zC:PySem.W.excIn K C bC iC=true)(zD:PySem.W.excIn K D bD iD=true)
  (he:s.heap.get? e=some oe) (hc:oe.cls=.ref C) (hb:bD.contains (.type "BaseException")=true) (up:∃cd d cl sl,K.lookup C=some ⟨cl,d,.cls cd,sl⟩/\cd.mro.contains (.ref D)=true) (q:Q true s):wpAny M A (excMatches (.ref e) (.ref D)) Q E s:=by
 obtain⟨bm,N,nm,qn,bs,hd,sn,sub,ab,col,dd,c0,c1,c2,c3,c5,mN,o1,o2,o3,o4⟩:=zhu k zC;obtain⟨bm',N',nm',qn',bs',hd',sn',sub',ab',col',dd',d0,d1,d2,d3,d5,mN',p1,p2,p3,p4⟩:=zhu k zD;obtain⟨cd,d,cl,sl,lk,ct⟩:=up;have o1':=k _ _ lk;rw[o1]at o1';have hcd:=congrArg Obj.data (Option.some.inj o1')
 have hcC:(Value.ref C::bm).contains (.ref D)=true:=by
  injection hcd with h
  rwa[<-h]at ct
 have hcB:(Value.ref D::bm').contains (.type "BaseException")=true:=by rw[yb5,p4.hasType hb,Bool.or_true]
 have f:=tc_notTuple;obtain⟨h,g,dr,t,os⟩:=s;unfold excMatches
 repeat (first|(with_reducible refine ybo he ?_;rw[hc])|with_reducible refine ybo p1 ?_|(with_reducible refine wpAny_isSubtype_exc p1 ?_;rw[hcB])|(with_reducible refine wpAny_isSubtype_exc o1 ?_;rw[hcC])|wp_step)
 exact q
section
variable{X:Cx}{pins:Z3}{σ:St}{H:Hp}{s:Shared}
def zoB{M:Model}{A:Around}{E:Z5}{i:Nat}{x:Str}{Q:Unit->Shared->Prop}(I:Inv X pins σ H s)(hN:X.N.Nodup)(hi:X.N[i]?=some x)(hk:X.env.scope.names.lookup x=some .local)(hv:∃v,σ[i]?=some (some v))
  (h:∀s',Inv X pins (σ.set i none) H s'->Q () s'):wpAny M A (unbindName X.env x) Q E s:=by
 obtain⟨m,hn,hl⟩:=id I.loc
 have hcls:(X.env.scope.kind==.class||(X.env.scope.kind==.module&&X.env.locals != X.env.globals))=false:=by rw[I.ok.kind];rfl
 obtain⟨v,hv⟩:=hv;obtain⟨u,r,lk⟩:=hl i x v hi hv (.inl hk)
 have hm:m x=some u:=by
  rcases lk with⟨_,z⟩|⟨z,_⟩
  ·exact z
  ·have z:X.env.scope.names.lookup x=some .cell\/X.env.scope.names.lookup x=some .free:=z;rw[hk]at z
   rcases z with z|z<;>cases z
 refine wpAny_unbindName_local hk hn hm hcls fun h' u' hn' hs=>h _ ?_
 have far:∀b o,X.s₀.heap.get? b=some o->b≠X.env.locals:=fun b o z=>yaD (yam (yaq z) I.ok.above)
 refine⟨I.ok,I.os,I.bare,⟨?_,?_,I.base.free,?_,I.base.tups,I.base.frzs,I.base.tbls⟩,⟨_,hn',?_⟩,?_,I.free,I.freeC,?_,?_,by simpa using I.len⟩
 ·exact fun b o z n hb hx=>(hs.2 b (far b o z)).trans (I.base.keep b o z n hb hx)
 ·exact fun b o z n hb hx=>let ⟨sl,z1⟩:=I.base.slot b o z n hb hx;⟨sl,(hs.2 b (far b o z)).trans z1⟩
 ·exact fun b o z hx=>let ⟨o',z1⟩:=I.base.there b o z hx;⟨o',(hs.2 b (far b o z)).trans z1⟩
 ·intro j y w e1 e2 e3
  have hj:j≠i:=fun z=>by
   subst z;have l1:j<σ.length:=(yaj.mp hv).1;rw[yap l1]at e2;cases e2
  rw[yaE (Ne.symm hj)]at e2;obtain⟨u1,r1,q⟩:=hl j y w e1 e2 e3;refine⟨u1,r1,?_⟩
  rcases q with⟨k1,z⟩|⟨k1,c,z,z1⟩
  ·have ny:y≠x:=fun e=>hj (zfG hN e1 (e ▸ hi))
   exact .inl ⟨k1,by simp[ny,z]⟩
  ·exact .inr ⟨k1,c,z,z1.sameBut hs (I.cne y c z)⟩
 ·exact fun y c z=>let ⟨w,z1⟩:=I.cell y c z;⟨w,z1.sameBut hs (I.cne y c z)⟩
 ·exact fun p hp=>let ⟨z,n,ne,nf,d⟩:=I.pin p hp;⟨(hs.2 p.1 ne).trans z,n,ne,nf,d⟩
 ·exact I.hok.same fun b o z n=>(hs.2 b fun e=>n (by rw[e];exact I.free)).trans z
def zfN{M:Model}{A:Around}{E:Z5}{i:Nat}{x:Str}{pos:Pos}{Q:Unit->Shared->Prop}(I:Inv X pins σ H s)(hN:X.N.Nodup)(hi:X.N[i]?=some x)(hk:X.env.scope.names.lookup x=some .local)
  (h:∀s',Inv X pins (σ.set i none) H s'->Q () s'):wpAny M A (do bindName X.env x .none;unbindBehindTheSuite X.env x pos) Q E s:=by
 refine yaa (wpAny_bindName (zec (v:=.non) I hN hi (.inl hk) rfl (fun s2 I2=>?_) (.inr hk)));unfold unbindBehindTheSuite;refine wpAny_onRaise ?_
 have l1:i<σ.length:=by rw[I.len];exact(yaj.mp hi).1
 refine zoB I2 hN hi hk ⟨.non,yap l1⟩ fun s3 I3=>h s3 ?_
 rwa[List.set_set]at I3
end
section
variable{X:Cx}{pins:Z3}{σ:St}{H H':Hp}{s s':Shared}{B h2:Heap}{a:Addr}{cls a0:Value}
noncomputable abbrev Cx.inH(X:Cx)(a:Addr):Cx:={X with A:=X.A.mark (some (.ref a)),calm:=false,xe:=fun _ _=>False}
theorem Inv.inH(I:Inv X pins σ H s)(a:Addr):Inv (X.inH a) pins σ H s:=
 ⟨⟨I.ok.mod,I.ok.kind,I.ok.glob,I.ok.blt,I.ok.above,I.ok.inj,I.ok.has,I.ok.cab,(fun z=>nomatch z),I.ok.frames,I.ok.stk,I.ok.exf,I.ok.bs,I.ok.bsz,I.ok.noex,I.ok.exfs,I.ok.funs,I.ok.frf⟩,I.os,I.bare,I.base,I.loc,I.cell,I.free,I.freeC,I.pin,I.hok,I.len⟩
def Inv.outH(J:X.Ok)(I:Inv (X.inH a) pins σ H s):Inv X pins σ H s:=⟨J,I.os,I.bare,I.base,I.loc,I.cell,I.free,I.freeC,I.pin,I.hok,I.len⟩
def zfk(I:Inv X pins σ H s)(fl:Heap.FlyingW B X.stack a cls a0 h2)(up:s'.heap.UpToSlots h2)(c1:∀b o,s'.heap.get? b=some o->H' b≠none->B.get? b=some o)
  (c2:∀b o,s.heap.get? b=some o->H b=none->b ∉ frs X.stack->B.get? b=some o) (c3:∀b o,s.heap.get? b=some o->b ∉ frs X.stack->∃o',B.get? b=some o')
  (os:s'.os=s.os) (bare:AllBare s'.gens) (un:Un (frs X.stack) [] H H' s.heap s'.heap) (hok:HOk X.prog X.w H' s'.heap):
  Inv X pins σ H' {s' with heap:=h2}/\∃ob,ob.cls=cls/\h2.get? a=some ob/\H' a=none/\Inv X pins σ (upd H' a (.frz ob (.own a))) {s' with heap:=h2}:=by
 have trk:∀b o,s'.heap.get? b=some o->H' b≠none->h2.get? b=some o:=fun b o z n=>fl.1 b o (c1 b o z n)
 have hok2:HOk X.prog X.w H' h2:=hok.same trk
 have slt:∀b o,s.heap.get? b=some o->H b=none->b∈frs X.stack->∃sl,h2.get? b=some {o with slots:=sl}:=fun b o z n hb=>by
  obtain⟨_,o',z',hd⟩:=I.stack.mem hb;rw[z]at z';cases z';obtain⟨sl,r⟩:=un.slot b o z n hb (by simp);obtain⟨sl',r'⟩:=up b ({o with slots:=sl}:Obj) r hd;exact⟨sl',r'⟩
 have th:∀b o,s.heap.get? b=some o->b ∉ ([]:List Addr)->∃o',h2.get? b=some o':=fun b o z _=>by
  by_cases hb:b∈frs X.stack
  ·obtain⟨sl,r⟩:=slt b o z (I.stkFree b hb) hb;exact⟨_,r⟩
  ·obtain⟨o',r⟩:=c3 b o z hb;exact⟨o',fl.1 b o' r⟩
 have un2:Un (frs X.stack) [] H H' s.heap h2:=⟨fun b o z n hb _=>fl.1 b o (c2 b o z n hb),fun b o z n hb _=>slt b o z n hb,un.free,th,un.tups,un.frzs,un.tbls⟩;refine⟨I.call' (s':={s' with heap:=h2}) (ch:=[]) os un2 hok2 bare (fun b z=>absurd z (by simp)),?_⟩;obtain⟨oe,vs,he,hc,hd,_⟩:=fl.first
 have na:H' a=none:=by
  cases k:H' a with
  |none=>rfl|some u=>
   obtain⟨o',z'⟩:=(hok a u k).has;have:=c1 a o' z' (by rw[k];exact yaI _);rw[fl.2.1]at this;cases this
 have ns:∀o,s.heap.get? a=some o->False:=fun o z=>by
  by_cases hb:a∈frs X.stack
  ·obtain⟨_,o',z',hd'⟩:=fl.2.2.1.mem hb;rw[he]at z';cases z';exact hd' _ hd
  ·obtain⟨o',r⟩:=c3 a o z hb;rw[fl.2.1]at r;cases r
 have ne:∀{b:Addr}{u:HO},H' b=some u->b≠a:=fun {b u} z e=>by rw[e,na]at z;cases z
 refine⟨oe,hc,he,na,I.call' (s':={s' with heap:=h2}) (ch:=[]) os ⟨un2.keep,un2.slot,fun b o z n hx=>?_,th,fun b xs z=>?_,fun b o u z=>?_,fun b ps z=>?_⟩ (fun b u z=>?_) bare (fun b z=>absurd z (by simp))⟩
 ·rw[zah (a:=a) (b:=b) fun e=>ns o (by rw[<-e];exact z)];exact un.free b o z n hx
 ·have:=un.tups b xs z;rw[zah (ne this)];exact this
 ·have:=un.frzs b o u z;rw[zah (ne this)];exact this
 ·obtain⟨more,this⟩:=un.tbls b ps z;exact⟨more,by rw[zah (ne this)];exact this⟩
 ·by_cases e:b=a
  ·subst e;unfold upd at z;rw[if_pos rfl]at z;cases z;exact⟨he,oe,he⟩
  ·rw[zah e]at z;exact(hok2 b u z).stay (fun _ _ _ q=>q) (fun c q=>by rw[zah (ne q)];exact q) (fun c xs q=>by rw[zah (ne q)];exact q)
end
noncomputable def zmx(K:PySem.W.Frag)(C D:Addr):Prop:=(∃bC iC,PySem.W.excIn K C bC iC=true)/\∃cd d cl sl,K.lookup C=some ⟨cl,d,.cls cd,sl⟩/\cd.mro.contains (.ref D)=true
noncomputable def Ends.goes(D:Ends)(i:Nat):Ends:={nx:=fun σ H=>D.nx (σ.set i none) H,rt:=D.rt,bk:=fun σ H=>D.bk (σ.set i none) H,ct:=fun σ H=>D.ct (σ.set i none) H}
def zns{X:Cx}{a:Addr}{pins:Z3}{D:Ends}{i:Nat}{n:Str}{pos:Pos}{f:Flow}{s:Shared}{E:Z5}(J:X.Ok)(hN:X.N.Nodup)(hi:X.N[i]?=some n)(hk:X.env.scope.names.lookup n=some .local)(h:SP (X.inH a) pins (D.goes i) f s):
  wpAny (model X.prog X.w) X.A (do bindName X.env n .none;unbindBehindTheSuite X.env n pos) (fun _ s3=>SP X pins D f s3) E s:=by
 cases f with
 |next=>
  obtain⟨σ',H',I,q⟩:=h;exact zfN (I.outH J) hN hi hk fun s' I'=>⟨_,H',I',q⟩
 |brk=>
  obtain⟨σ',H',I,q⟩:=h;exact zfN (I.outH J) hN hi hk fun s' I'=>⟨_,H',I',q⟩
 |cont=>
  obtain⟨σ',H',I,q⟩:=h;exact zfN (I.outH J) hN hi hk fun s' I'=>⟨_,H',I',q⟩
 |ret u=>
  obtain⟨v,σ',H',I,r,q⟩:=h;exact zfN (I.outH J) hN hi hk fun s' I'=>⟨v,_,H',I',r,q⟩
end L2
namespace PySem.W
open PySem
structure ExcCls(K:Frag)(C:Addr):Prop where
 ga:findIn K (.ref C) "__getattribute__"=some (some (.builtin "BaseException.__getattribute__"))
 gt:findIn K (.ref C) "__getattr__"=some none
 cl:findIn K (.ref C) "__class__"=some (some (.builtin "object.__class__"))
 ob:subIn K (.ref C) (.type "object")=some true
 be:subIn K (.ref C) (.type "BaseException")=some true
 is:∃c d cd sl,K.lookup C=some ⟨c,d,.cls cd,sl⟩
section
variable{prog:Program}{w:World}{A:Around}{E:Z5}{h:Heap}{g:Array GenState}{d:Drawn}{t:Nat}{os:OsState}{a C:Addr}{o:Obj}{K:Frag}
theorem zfP{R:Result->Shared->Prop}(k:K.In h)(X:ExcCls K C)(hx:h.get? a=some o)(hc:o.cls=.ref C)(hq:R (.ok (.ret (.ref C))) ⟨h,g,d,t,os⟩):
  codeAny (model prog w) A (.call (.builtin "getset_descriptor.__get__") ⟨[.builtin "object.__class__",.ref a,.ref C],[]⟩) R ⟨h,g,d,t,os⟩:=by
 have isGs:Shared.TypeIs ⟨h,g,d,t,os⟩ (.builtin "object.__class__") "getset_descriptor":=ych
 have f8:subIn K (.ref C) (.type (".".intercalate ("object.__class__".cutAt '.').dropLast))=some true:=by rw[F.owner_object_class];exact X.ob
 refine codeAny_call_builtin F.slot_gs_get.plain F.entry_gs_get ?_;refine F.slot_gs_get.check _ _ _ _ _ _ _ _ isGs (F.args_gs_get _ _ _) ?_
 repeat (any_goals (first|assumption|(with_reducible refine ybo hx ?_;rw[hc])|with_reducible refine Looks.at (looks_subIn k f8) ?_|wp_step))
 refine And.intro (Code.quiet_builtin _ (by decide +kernel)) ?_;refine codeAny_builtin F.entry_object_class ?_
 repeat (any_goals (first|assumption|(with_reducible refine ybo hx ?_;rw[hc])|wp_step))
def zeN{tk:Tok}{Q:Fin->Shared->Prop}(k:K.In h)(X:ExcCls K C)(hx:h.get? a=some o)(hc:o.cls=.ref C)(hq:Q (.done (.ret (.ref C))) ⟨h,g,d,t,os⟩):
  wpAny (model prog w) A (Builtin.«object.__getattribute__» {pos:=[.ref a,.str "__class__" tk],kw:=[]}) Q E ⟨h,g,d,t,os⟩:=by
 have isGs:Shared.TypeIs ⟨h,g,d,t,os⟩ (.builtin "object.__class__") "getset_descriptor":=ych;have known:=And.intro ych (And.intro F.slot_gs_get.lookup F.slot_gs_set.lookup);obtain⟨p5,p6,p7⟩:=known
 repeat (any_goals (first|assumption|(with_reducible refine ybo hx ?_;rw[hc])|with_reducible refine Looks.at (looks_findIn k X.cl) ?_|wp_step))
 refine zfP k X hx hc ?_
 repeat any_goals first|assumption|wp_step
end
section
variable{prog:Program}{w:World}{A:Around}{E:Z5}{h:Heap}{g:Array GenState}{d:Drawn}{t:Nat}{os:OsState}{a C:Addr}{o:Obj}{K:Frag}
theorem zeO{M:Model}{nameV:Value}{Q:Unit->Shared->Prop}(k:K.In h)(X:ExcCls K C)(hx:h.get? a=some o)(hc:o.cls=.ref C)(hq:Q () ⟨h,g,d,t,os⟩):
  wpAny M A (checkBuiltinCall "BaseException.__getattribute__" ⟨[.ref a,nameV],[]⟩) Q E ⟨h,g,d,t,os⟩:=by
 have k1:builtinKind "BaseException.__getattribute__"=some .slot:=by decide +kernel
 have k2:splitId "BaseException.__getattribute__"=some ("BaseException","__getattribute__"):=by decide +kernel
 have fits:=F.args_bexc_ga (.ref a) nameV;simp only[checkBuiltinCall,k1,k2];refine yaa ?_;unfold isInstance
 repeat (first|(with_reducible refine ybo hx ?_;rw[hc])|with_reducible refine Looks.at (looks_subIn k X.be) ?_|wp_step)
 exact hq
def ze2{tk:Tok}{R:Result->Shared->Prop}(k:K.In h)(X:ExcCls K C)(hx:h.get? a=some o)(hc:o.cls=.ref C)(hq:R (.ok (.ret (.ref C))) ⟨h,g,d,t,os⟩):
  codeAny (model prog w) A (.call (.builtin "BaseException.__getattribute__") ⟨[.ref a,.str "__class__" tk],[]⟩) R ⟨h,g,d,t,os⟩:=
 codeAny_call_builtin F.attr_ValueError.ga.plain F.entry_bexc_ga (zeO k X hx hc (zeN k X hx hc hq))
theorem zgF{tk:Tok}{fill expr:Bool}{Q:Z5}(k:K.In h)(X:ExcCls K C)(hx:h.get? a=some o)(hc:o.cls=.ref C)(hq:Q (.ref C) ⟨h,g,d,t,os⟩):
  wpAny (model prog w) A (getAttrBy (.ref a) (.str "__class__" tk) fill expr) Q E ⟨h,g,d,t,os⟩:=by
 have f3:=F.attr_ValueError.ga.bind (.ref a)
 have n0:(expr&&onTheHeap (Value.builtin "BaseException.__getattribute__"))=false:=by cases expr<;>rfl
 have n2:(Value.builtin "BaseException.__getattribute__"==Value.builtin "object.__getattribute__")=false:=by decide +kernel
 have n1:(onTheHeap (Value.ref C)&&Value.builtin "BaseException.__getattribute__"==Value.builtin "object.__getattribute__")=false:=by rw[n2];rfl
 repeat (any_goals (first|assumption|(with_reducible refine ybo hx ?_;rw[hc])|with_reducible refine Looks.at (looks_findIn k X.ga) ?_|with_reducible refine Looks.at (looks_findIn k X.gt) ?_|wp_step))
 refine ze2 k X hx hc ?_
 repeat any_goals first|assumption|wp_step
def ze3{Q:Option Value->Shared->Prop}(k:K.In h)(X:ExcCls K C)(hx:h.get? a=some o)(hc:o.cls=.ref C)(hq:Q (some (.ref C)) ⟨h,g,d,t+1,os⟩):wpAny (model prog w) A (getAttr? (.ref a) "__class__") Q E ⟨h,g,d,t,os⟩:=by
 unfold getAttr? getAttrBy?
 repeat (any_goals (first|assumption|with_reducible apply zgF k X hx hc|wp_step))
end
def zlZ{K:Frag}{a C:Addr}(X:ExcCls K C):KitX K (.ref a) (.ref C) (fun h=>∃o,h.get? a=some o/\o.cls=.ref C)where
 ty:=fun M h _ p=>by
  obtain⟨o,h1,h2⟩:=p;rw[<-h2];exact Looks.andThen (Looks.ld h1) .now
 it:=fun _ _ k _=>by
  obtain⟨c,d,cd,sl,lk⟩:=X.is;intro A' Q' E' s' kk q;unfold isType loadHead;exact yaa (wpAny_loadPart (kk _ _ (k _ _ lk)) (yah q))
 ne:=fun h tp dd its n sl k htp=>by
  obtain⟨c,d,cd,sl',lk⟩:=X.is;refine Bool.eq_false_iff.mpr fun q=>?_
  have e:C=tp:=Value.ref.inj (ybQ.mp q);have z:=k _ _ lk;rw[e,htp]at z;cases z
 ca:=fun {_ _ _ _ _ s} k p q=>by
  obtain⟨o,h1,h2⟩:=p;obtain⟨h,g,d,t,os⟩:=s;exact ze3 k X h1 h2 q
end PySem.W
namespace L2
open PySem PySem.Spec PyProof.Rows
def zi6{X:Cx}:zdT X (.builtin "isinstance") (fun xs H Q=>∃(a C:Addr) (ob:Obj) (c:V) (cv:Value) (k:Bool),xs=[.ref a,c]/\H a=some (.frz ob (.own a))/\ob.cls=.ref C/\PySem.W.ExcCls X.K C/\(∀u,zbs c u->u=cv)/\PySem.W.kitOne X.K (.ref C) cv=some k/\Q (.bl k) H):=by
 intro pins s σ H xs us Q I r h;obtain⟨a,C,ob,c,cv,k,rfl,ha,hc,Z,hv,e,q⟩:=h
 cases r with
 |cons r1 rr=>
  cases rr with
  |cons r2 r3=>
   cases r3;cases (show _=Value.ref a from r1);rw[hv _ r2];obtain⟨h1,_⟩:=(show zbx X.prog X.w H s.heap a (.frz ob (.own a))from I.hok a _ ha);exact ya2 (PySem.W.zlZ Z) I.kIn ⟨ob,h1,hc⟩ e (fun z=>nomatch z) fun tk=>⟨.bl k,H,I.tok tk,rfl,q⟩
open PySem PySem.Spec PyProof.Rows PySem.SeqAt
theorem zh0(ns:List Int):∀j,j<=ns.length->preSum (fun i=>ns.getD i 0) j=(ns.take j).sum
 |0,_=>by rw[List.take_zero];rfl
 |j+1,h=>by
  have ih:=zh0 ns j (by omega);show preSum _ j+ns.getD j 0=_
  have e:ns.take (j+1)=ns.take j++[ns[j]]:=by rw[List.take_add_one,yad (by omega)];rfl
  have e2:ns.getD j 0=ns[j]:=by simp[List.getD,show j<ns.length by omega]
  rw[ih,e,e2,List.sum_append];simp
theorem zgo(ns:List Int)(h:∀n∈ns,0<=n/\n<=1000000):∀j,j<=ns.length->0<=preSum (fun i=>ns.getD i 0) j/\preSum (fun i=>ns.getD i 0) j<=1000000*(j:Int)
 |0,_=>⟨Int.le_refl _,Int.le_refl _⟩|j+1,hj=>by
  have ih:=zgo ns h j (by omega)
  have e:ns.getD j 0=ns[j]:=by simp[List.getD,show j<ns.length by omega]
  have hb:=h ns[j] (ybF (by omega));show 0<=preSum _ j+ns.getD j 0/\preSum _ j+ns.getD j 0<=_;rw[e]
  push_cast
  omega
section
variable{X:Cx}
theorem zmr(hc:X.calm=true):zdT X (.builtin "sum") (fun xs H Q=>∃(p:Addr) (ns:List Int),xs=[.ref p]/\SqL X.K H p (ns.map V.int)/\ns.length<=1000/\(∀n∈ns,0<=n/\n<=1000000)/\Q (.int ns.sum) H):=by
 intro pins s σ H xs us Q I r h;obtain⟨p,ns,rfl,hq,hl1000,hb,q⟩:=h;obtain⟨u,rfl,rx⟩:=ziz r;cases rx;obtain⟨its,rv,pl,hz⟩:=I.list hq;have hl:=pl.isList
 have hlt:p<s.heap.objs.size:=by obtain⟨_,e,_⟩:=hl;exact yaq e
 have hn:its.length=ns.length:=by have:=rv.length;rw[yaf]at this;exact this.symm
 refine call_sum_walk (ycJ hl ?_);refine⟨s.heap.objs.size,[s.heap.objs.size,p],[s.heap.objs.size],its.toArray.size,_,_,fun i=>ns.getD i 0,rfl,Walks.list (A:=X.A.in1) (I.ok.hd hc) _ p (yaD hlt) its.toArray,⟨⟨_,yau _ rfl,rfl,rfl⟩,hl.push _⟩,fun b hm=>?_,fun i v hP=>?_,fun j hj=>?_,fun h' tk t' hk=>?_⟩
 ·show b<(s.heap.push _).objs.size;rw[ya6];simp only[yav,yaL,yb4]at hm
  rcases hm with z|z
  ·rw[z];exact ybW _
  ·rw[z];exact Nat.lt_succ_of_lt hlt
 ·have hv:its[i]?=some v:=by simpa using hP
  have hi:i<ns.length:=by rw[<-hn];exact(yaj.mp hv).1
  obtain⟨u,hu,ru⟩:=rv.get (i:=i) (x:=.int ns[i]) (by rw[yar,yad hi];rfl);rw[hv]at hu;cases hu;obtain⟨t,rfl⟩:=ru;exact⟨t,by simp[List.getD,hi]⟩
 ·rw[yai,hn]at hj;have h1:=zgo ns hb (j+1) hj
  have e:ns.getD j 0=ns[j]:=by simp[List.getD,hj]
  have h2:=hb ns[j] (ybF hj);refine⟨?_,?_⟩
  ·show InLong (ns.getD j 0);rw[e];exact⟨by omega,by omega⟩
  ·have:((j+1:Nat):Int)<=1000:=by omega
   exact⟨by omega,by omega⟩
 ·rw[yai,hn,zh0 ns ns.length (yal _),List.take_length];refine⟨.int _,H,I.kept (t':=tk) fun b o e=>?_,⟨t',rfl⟩,q⟩;exact hk b o (fun hm=>by rw[yaO.mp hm]at e;exact yaQ _ (yaq e)) (yag _ e)
end
end L2
namespace S2
open PySem PySem.Spec PyProof.Rows L2
mutual
noncomputable def D.py:D->PyData
 |.non=>.none|.bl b=>.bool b|.int i=>.int i|.str x=>.str x|.tup l=>.tuple (D.pys l)|.lst l=>.list (D.pys l)|.scr l=>.list (l.map PyData.int)|.dic _=>.none|.ref _=>.none|.exc _=>.none
noncomputable def D.pys:List D->List PyData
 |[]=>[]|d::l=>d.py::D.pys l
end
mutual
noncomputable def D.fit:Nat->D->Bool
 |_,.non=>true|_,.bl _=>true|_,.int _=>true|_,.str x=>PyData.strOk x|0,.tup _=>false|n+1,.tup l=>D.fits n l|0,.lst _=>false|n+1,.lst l=>D.fits n l|0,.scr _=>false|_+1,.scr _=>true|_,.dic _=>false|_,.ref _=>false|_,.exc _=>false
noncomputable def D.fits:Nat->List D->Bool
 |_,[]=>true|n,d::l=>d.fit n&&D.fits n l
end
theorem D.fits_iff{n:Nat}:∀{l:List D},D.fits n l=true↔∀d∈l,d.fit n=true
 |[]=>by simp[D.fits]
 |d::l=>by simp[D.fits,D.fits_iff (l:=l)]
theorem zie:∀(l:List Int),PyData.canLayAll0 (l.map PyData.int)=true/\PyData.depthAll (l.map PyData.int)=0
 |[]=>⟨rfl,rfl⟩|i::l=>by
  obtain⟨a,b⟩:=zie l;exact⟨by simp[PyData.canLayAll0,PyData.canLay0,a],by simp[PyData.depthAll,PyData.depth,b]⟩
mutual
theorem D.lay:∀{n:Nat}{d:D},d.fit n=true->d.py.canLay0=true/\d.py.depth<=n
 |_,.non,_=>⟨rfl,ybh _⟩|_,.bl _,h=>⟨rfl,ybh _⟩|_,.int _,_=>⟨rfl,ybh _⟩|_,.str x,h=>⟨by simpa[D.fit,D.py,PyData.canLay0]using h,ybh _⟩
 |0,.tup _,h=>by simp[D.fit]at h
 |0,.lst _,h=>by simp[D.fit]at h
 |0,.scr _,h=>by simp[D.fit]at h
 |n+1,.scr l,h=>by
  obtain⟨a,b⟩:=zie l;exact⟨by simpa[D.py,PyData.canLay0]using a,by simp only[D.py,PyData.depth];omega⟩
 |_,.dic _,h=>by simp[D.fit]at h
 |_,.ref _,h=>by simp[D.fit]at h
 |_,.exc _,h=>by simp[D.fit]at h
 |n+1,.tup l,h=>by
  have h':D.fits n l=true:=by simpa[D.fit]using h
  obtain⟨a,b⟩:=D.lays h';exact⟨by simpa[D.py,PyData.canLay0]using a,by simp only[D.py,PyData.depth];omega⟩
 |n+1,.lst l,h=>by
  have h':D.fits n l=true:=by simpa[D.fit]using h
  obtain⟨a,b⟩:=D.lays h';exact⟨by simpa[D.py,PyData.canLay0]using a,by simp only[D.py,PyData.depth];omega⟩
theorem D.lays:∀{n:Nat}{l:List D},D.fits n l=true->PyData.canLayAll0 (D.pys l)=true/\PyData.depthAll (D.pys l)<=n
 |_,[],_=>⟨rfl,ybh _⟩|n,d::l,h=>by
  simp only[D.fits,yac]at h;obtain⟨a,b⟩:=D.lay h.1;obtain⟨c,e⟩:=D.lays h.2;exact⟨by simp[D.pys,PyData.canLayAll0,a,c],by simp only[D.pys,PyData.depthAll];omega⟩
end
section
variable{X:Cx}{cl:Cf}{w:Wd}
def TopV.lstI{v:V}{ds:List D}(h:TopV cl w v (.lst ds)):∃a xs,v=.ref a/\w.H a=some (.lst xs)/\Shds cl w xs ds:=by
 cases h with
 |sh h=>cases h with
  |lst e k r=>exact⟨_,_,rfl,e,r⟩
 |ow e t=>cases t with
  |lst r=>exact⟨_,_,rfl,e,r⟩
def TopV.tupI{v:V}{ds:List D}(h:TopV cl w v (.tup ds)):∃a xs,v=.ref a/\w.H a=some (.tup xs)/\w.ow a=none/\Shds cl w xs ds:=by
 cases h with
 |sh h=>cases h with
  |tup e k r=>exact⟨_,_,rfl,e,k,r⟩
 |ow e t=>cases t
def TopV.intI{v:V}{i:Int}(h:TopV cl w v (.int i)):v=.int i:=by
 cases h with
 |sh h=>cases h;rfl|ow e t=>cases t
def TopV.strI{v:V}{i:Str}(h:TopV cl w v (.str i)):v=.str i:=by
 cases h with
 |sh h=>cases h;rfl|ow e t=>cases t
def TopV.blI{v:V}{i:Bool}(h:TopV cl w v (.bl i)):v=.bl i:=by
 cases h with
 |sh h=>cases h;rfl|ow e t=>cases t
def TopV.nonI{v:V}(h:TopV cl w v .non):v=.non:=by
 cases h with
 |sh h=>cases h;rfl|ow e t=>cases t
def Shd.scrI{v:V}{l:List Int}(hK:X.K=cl.K)(h:Shd cl w v (.scr l)):∃a,v=.ref a/\SqL X.K w.H a (l.map V.int):=by
 cases h with
 |scr e k=>exact⟨_,rfl,.inl (.inr ⟨_,e⟩)⟩|scrK h=>exact⟨_,rfl,by rw[hK];exact h _⟩
theorem TopV.scrI{v:V}{l:List Int}(hK:X.K=cl.K)(h:TopV cl w v (.scr l)):∃a,v=.ref a/\SqL X.K w.H a (l.map V.int):=by
 cases h with
 |sh h=>exact h.scrI hK|ow e t=>cases t
def zhV{pins:Z3}{σ:St}{s:Shared}(I:Inv X pins σ w.H s)(hK:X.K=cl.K){v:V}{l:List Int}(h:Shd cl w v (.scr l)){u:Value}(r:zbs v u):∃as,Reads s.heap u (D.scr l).py as:=by
  obtain⟨a,rfl,hq⟩:=h.scrI hK;cases r;obtain⟨its,rv,p,_⟩:=I.list hq;obtain⟨o,ho,hc,n,hd⟩:=id p.isList
  have go:∀{l:List Int}{us:List Value},Vals (l.map V.int) us->∃as,ReadsAll s.heap us (l.map PyData.int) as:=by
   intro l
   induction l with
   |nil=>intro us h;cases h;exact⟨_,.nil⟩|cons i l ih=>
    intro us h
    cases h with
    |cons h1 h2=>
     obtain⟨t,rfl⟩:=h1;obtain⟨as,ra⟩:=ih h2;exact⟨_,.cons (.int i t) ra⟩
  obtain⟨as,ra⟩:=go rv;exact⟨_,.list ho hc hd (by simpa using ra)⟩
mutual
theorem zpR{pins:Z3}{σ:St}{s:Shared}(I:Inv X pins σ w.H s)(hK:X.K=cl.K):∀{v:V}{d:D}{n:Nat},Shd cl w v d->d.fit n=true->∀{u:Value},zbs v u->∃as,Reads s.heap u d.py as
 |_,_,_,.non,_,_,r=>by cases r;exact⟨_,.none⟩
 |_,_,_,.bl b,_,_,r=>by cases r;exact⟨_,.bool b⟩
 |_,_,_,.int i,_,_,r=>by obtain⟨t,rfl⟩:=r;exact⟨_,.int i t⟩
 |_,_,_,.str x,_,_,r=>by obtain⟨t,rfl⟩:=r;exact⟨_,.str x t⟩
 |_,_,0,.tup _ _ _,h,_,_=>by simp[D.fit]at h
 |_,_,0,.lst _ _ _,h,_,_=>by simp[D.fit]at h
 |_,_,n+1,.tup (a:=a) e _ rs,h,_,r=>by
  cases r;obtain⟨its,rv,p,_⟩:=I.tuple (SqT.of (K:=X.K) e);obtain⟨o,ho,hc,n,hd⟩:=id p;obtain⟨as,ra⟩:=zc3 I hK rs (by simpa[D.fit]using h) rv;exact⟨_,.tuple ho hc hd (by simpa using ra)⟩
 |_,_,n+1,.lst (a:=a) e _ rs,h,_,r=>by
  cases r;obtain⟨its,rv,p,_⟩:=I.list (SqL.of (K:=X.K) e);obtain⟨o,ho,hc,n,hd⟩:=id p.isList;obtain⟨as,ra⟩:=zc3 I hK rs (by simpa[D.fit]using h) rv;exact⟨_,.list ho hc hd (by simpa using ra)⟩
 |_,_,n,.scr e k,h,_,r=>zhV I hK (.scr e k) r|_,_,n,.scrK e,h,_,r=>zhV I hK (.scrK e) r|_,_,n,.dicK _ _ _,h,_,_=>by simp[D.fit]at h
 |_,_,n,.dicX _ _ _,h,_,_=>by simp[D.fit]at h
 |_,_,n,.ref _,h,_,_=>by simp[D.fit]at h
 |_,_,n,.exc _ _ _,h,_,_=>by simp[D.fit]at h
theorem zc3{pins:Z3}{σ:St}{s:Shared}(I:Inv X pins σ w.H s)(hK:X.K=cl.K):∀{vs:List V}{ds:List D}{n:Nat},Shds cl w vs ds->D.fits n ds=true->∀{us:List Value},Vals vs us->∃as,ReadsAll s.heap us (D.pys ds) as
 |_,_,_,.nil,_,_,r=>by cases r;exact⟨_,.nil⟩
 |_,_,n,.cons h t,f,_,r=>by
  simp only[D.fits,yac]at f
  cases r with
  |cons r1 r2=>
   obtain⟨as,a⟩:=zpR I hK h f.1 r1;obtain⟨bs,b⟩:=zc3 I hK t f.2 r2;exact⟨_,.cons a b⟩
end
def zgl{pins:Z3}{σ:St}{s:Shared}(I:Inv X pins σ w.H s)(hK:X.K=cl.K){v:V}{d:D}{n:Nat}(h:TopV cl w v d)(f:d.fit n=true){u:Value}(r:zbs v u):∃as,Reads s.heap u d.py as:=by
 cases h with
 |sh h=>exact zpR I hK h f r|ow e t=>
  cases t with
  |lst rs=>
   cases n with
   |zero=>simp[D.fit]at f|succ n=>
    cases r;obtain⟨its,rv,p,_⟩:=I.list (SqL.of (K:=X.K) e);obtain⟨o,ho,hc,n,hd⟩:=id p.isList;obtain⟨as,ra⟩:=zc3 I hK rs (by simpa[D.fit]using f) rv;exact⟨_,.list ho hc hd (by simpa using ra)⟩
  |dicK _=>simp[D.fit]at f|dicX _=>simp[D.fit]at f
 |nst=>simp[D.fit]at f
noncomputable def zfa(d e:D):Bool:=d.py.eqv e.py
def eqD(d e:D):Option D:=if d.fit 9&&e.fit 9 then some (.bl (zfa d e))else none
noncomputable def neD(d e:D):Option D:=if d.fit 9&&e.fit 9 then some (.bl (!zfa d e))else none
theorem zsQ(hK:X.K=cl.K)(hu:X.A.units+64<cLine):OpD X cl (compareOp .Eq) eqD:=by
 intro pins s σ H x y v u Q I rx ry h;obtain⟨w,d,e,r,rfl,hx,hy,hg,q⟩:=h;unfold eqD at hg;split at hg
 ·rename_i hf;cases hg;rw[yac]at hf;obtain⟨as,ra⟩:=zgl I hK hx hf.1 rx;obtain⟨bs,rb⟩:=zgl I hK hy hf.2 ry;obtain⟨l1,d1⟩:=D.lay hf.1;obtain⟨l2,d2⟩:=D.lay hf.2;exact SeqAt.compareEq_reads ra rb l1 l2 (by omega) ⟨.bl _,w.H,I,rfl,q _ w (Grow.refl _) (.bl _)⟩
 ·cases hg
def zsO(hK:X.K=cl.K)(hu:X.A.units+64<cLine):OpD X cl (compareOp .NotEq) neD:=by
 intro pins s σ H x y v u Q I rx ry h;obtain⟨w,d,e,r,rfl,hx,hy,hg,q⟩:=h;unfold neD at hg;split at hg
 ·rename_i hf;cases hg;rw[yac]at hf;obtain⟨as,ra⟩:=zgl I hK hx hf.1 rx;obtain⟨bs,rb⟩:=zgl I hK hy hf.2 ry;obtain⟨l1,d1⟩:=D.lay hf.1;obtain⟨l2,d2⟩:=D.lay hf.2;exact SeqAt.compareNe_reads ra rb l1 l2 (by omega) ⟨.bl _,w.H,I,rfl,q _ w (Grow.refl _) (.bl _)⟩
 ·cases hg
noncomputable def zlo:D->Option (List D)|.lst l=>some l|.tup l=>some l|_=>none
noncomputable def zk6(d:D)(l:List D):Bool:=l.any fun e=>zfa e d
def inD(d e:D):Option D:=match zlo e with|some l=>if d.fit 8&&D.fits 8 l then some (.bl (zk6 d l))else none|none=>none
def zsS(d e:D):Option D:=match zlo e with|some l=>if d.fit 8&&D.fits 8 l then some (.bl (!zk6 d l))else none|none=>none
def zcZ{s:Shared}{its:List Value}{ds:List D}{as:List Addr}{d:D}(ra:ReadsAll s.heap its (D.pys ds) as)(f:D.fits 8 ds=true):(its.toArray.any fun y=>(SeqAt.readOf s.heap y).eqv d.py)=zk6 d ds:=by
 rw[SeqAt.any_by_data (vs:=its.toArray) (xs:=D.pys ds) (as:=as) (by simpa using ra) (D.lays f).1]
 have:∀{l:List D},((D.pys l).any fun y=>y.eqv d.py)=zk6 d l:=by
  intro l
  induction l with
  |nil=>rfl|cons e l ih=>
   show(e.py.eqv d.py||(D.pys l).any fun y=>y.eqv d.py)=(zfa e d||zk6 d l);rw[ih];rfl
 exact this
theorem zbR{A:Around}{s:Shared}{x:Value}{d:D}{bs:List Addr}(hu:A.units+64<cLine)(rx:Reads s.heap x d.py bs)(fd:d.fit 8=true):∀{its:List Value}{ds:List D}{as:List Addr},ReadsAll s.heap its (D.pys ds) as->D.fits 8 ds=true->∀y,y∈its.toArray->SeqAt.EqAt A.in1 s y x ((SeqAt.readOf s.heap y).eqv d.py)
 |[],[],_,_,_,y,hy=>by simp at hy
 |[],_::_,_,h,_,_,_=>by cases h
 |_::_,[],_,h,_,_,_=>by cases h
 |v::its,e::ds,_,h,f,y,hy=>by
  simp only[D.fits,yac]at f
  cases h with
  |cons h1 h2=>
   simp at hy
   rcases hy with rfl|hy
   ·rw[zhg (D.lay f.1).1 h1];refine SeqAt.eqAt_reads _ _ _ _ _ _ _ _ h1 rx (D.lay f.1).1 (D.lay fd).1 ?_;have:=(D.lay f.1).2;show A.units+1+_<cLine;omega
   ·exact zbR hu rx fd h2 f.2 y (by simpa using hy)
def zjw{e:D}{l:List D}(h:zlo e=some l):e=.lst l\/e=.tup l:=by
 cases e<;>simp[zlo]at h
 ·exact .inr (by rw[h])
 ·exact .inl (by rw[h])
theorem zsP(hK:X.K=cl.K)(hu:X.A.units+64<cLine):OpD X cl (compareOp .In) inD:=by
 intro pins s σ H x y v u Q I rx ry h;obtain⟨w,d,e,r,rfl,hx,hy,hg,q⟩:=h;unfold inD at hg;split at hg
 ·rename_i l hl;split at hg
  ·rename_i hf;cases hg;rw[yac]at hf;obtain⟨bs,rb⟩:=zgl I hK hx hf.1 rx
   rcases zjw hl with rfl|rfl
   ·obtain⟨a,xs,rfl,e,rs⟩:=hy.lstI;cases ry;obtain⟨its,rv,p,_⟩:=I.list (SqL.of (K:=X.K) e);obtain⟨as,ra⟩:=zc3 I hK rs hf.2 rv;refine SeqAt.in_listAt _ p.isList (zbR hu rb hf.1 ra hf.2) ?_;rw[zcZ ra hf.2];exact⟨.bl _,w.H,I,rfl,q _ w (Grow.refl _) (.bl _)⟩
   ·obtain⟨a,xs,rfl,e,_,rs⟩:=hy.tupI;cases ry;obtain⟨its,rv,p,_⟩:=I.tuple (SqT.of (K:=X.K) e);obtain⟨as,ra⟩:=zc3 I hK rs hf.2 rv;refine SeqAt.in_tupleAt _ p (zbR hu rb hf.1 ra hf.2) ?_;rw[zcZ ra hf.2];exact⟨.bl _,w.H,I,rfl,q _ w (Grow.refl _) (.bl _)⟩
  ·cases hg
 ·cases hg
def zqj(hK:X.K=cl.K)(hu:X.A.units+64<cLine):OpD X cl (compareOp .NotIn) zsS:=by
 intro pins s σ H x y v u Q I rx ry h;obtain⟨w,d,e,r,rfl,hx,hy,hg,q⟩:=h;unfold zsS at hg;split at hg
 ·rename_i l hl;split at hg
  ·rename_i hf;cases hg;rw[yac]at hf;obtain⟨bs,rb⟩:=zgl I hK hx hf.1 rx
   rcases zjw hl with rfl|rfl
   ·obtain⟨a,xs,rfl,e,rs⟩:=hy.lstI;cases ry;obtain⟨its,rv,p,_⟩:=I.list (SqL.of (K:=X.K) e);obtain⟨as,ra⟩:=zc3 I hK rs hf.2 rv;refine SeqAt.notIn_listAt _ p.isList (zbR hu rb hf.1 ra hf.2) ?_;rw[zcZ ra hf.2];exact⟨.bl _,w.H,I,rfl,q _ w (Grow.refl _) (.bl _)⟩
   ·obtain⟨a,xs,rfl,e,_,rs⟩:=hy.tupI;cases ry;obtain⟨its,rv,p,_⟩:=I.tuple (SqT.of (K:=X.K) e);obtain⟨as,ra⟩:=zc3 I hK rs hf.2 rv;refine SeqAt.notIn_tupleAt _ p (zbR hu rb hf.1 ra hf.2) ?_;rw[zcZ ra hf.2];exact⟨.bl _,w.H,I,rfl,q _ w (Grow.refl _) (.bl _)⟩
  ·cases hg
 ·cases hg
def zbC:D->D->Option D
 |.int i,.int j=>some (.int (i+j))|.tup a,.tup b=>if zaL (a.length+b.length)then some (.tup (a++b))else none
 |.lst a,.lst b=>if zaL (a.length+b.length)then some (.lst (a++b))else none
 |.str a,.str b=>if zaL (a.length+b.length)then some (.str (a++b))else none
 |_,_=>none
def zqo:OpD X cl (binaryOp .Add) zbC:=by
 intro pins s σ H x y v u Q I rx ry h;obtain⟨w,d,e,r,rfl,hx,hy,hg,q⟩:=h;unfold zbC at hg;split at hg
 ·cases hg;rename_i i j;obtain rfl:=hx.intI;obtain rfl:=hy.intI;exact zqf pins s σ w.H _ _ v u Q I rx ry ⟨i,j,rfl,rfl,q _ w (Grow.refl _) (.int _)⟩
 ·rename_i a b;split at hg
  ·rename_i hz;cases hg;obtain⟨p,xs,rfl,ep,kp,rs⟩:=hx.tupI;obtain⟨p2,ys,rfl,ep2,kp2,rs2⟩:=hy.tupI
   by_cases hxe:xs=[]
   ·subst hxe;cases rs;exact zlN pins s σ w.H _ _ v u Q I rx ry ⟨p,p2,ys,rfl,rfl,SqT.of ep,SqT.of ep2,q _ w (Grow.refl _) (.tup ep2 kp2 rs2)⟩
   ·refine zn3 pins s σ w.H _ _ v u Q I rx ry ⟨p,p2,xs,ys,rfl,rfl,SqT.of ep,SqT.of ep2,hxe,by rw[rs.length,rs2.length];exact zaO hz,fun z=>?_,fun z l hl=>?_⟩
    ·subst z;cases rs2;rw[yaU]at q;exact q _ w (Grow.refl _) (.tup ep kp rs)
    ·exact q _ (w.add l _) (zar hl _) (Shd.newT hl (rs.append rs2))
  ·cases hg
 ·rename_i a b;split at hg
  ·rename_i hz;cases hg;obtain⟨p,xs,rfl,ep,rs⟩:=hx.lstI;obtain⟨p2,ys,rfl,ep2,rs2⟩:=hy.lstI;exact zqe pins s σ w.H _ _ v u Q I rx ry ⟨p,p2,xs,ys,rfl,rfl,ep,ep2,by rw[rs.length,rs2.length];exact zaO hz,fun l hl=>q _ (w.add l _) (zar hl _) (Shd.newL hl (rs.append rs2))⟩
  ·cases hg
 ·rename_i a b;split at hg
  ·rename_i hz;cases hg;obtain rfl:=hx.strI;obtain rfl:=hy.strI;exact ziO pins s σ w.H _ _ v u Q I rx ry ⟨a,b,rfl,rfl,zaO hz,q _ w (Grow.refl _) (.str _)⟩
  ·cases hg
 ·cases hg
noncomputable def zft:D->D->Option D|.int i,.int j=>some (.int (i-j))|_,_=>none
def zqi:OpD X cl (binaryOp .Sub) zft:=by
 intro pins s σ H x y v u Q I rx ry h;obtain⟨w,d,e,r,rfl,hx,hy,hg,q⟩:=h;unfold zft at hg;split at hg
 ·cases hg;rename_i i j;obtain rfl:=hx.intI;obtain rfl:=hy.intI;exact zp9 pins s σ w.H _ _ v u Q I rx ry ⟨i,j,rfl,rfl,q _ w (Grow.refl _) (.int _)⟩
 ·cases hg
noncomputable def zbG(i:Int):Bool:=decide (-(2 ^ 64)<i/\i<2 ^ 64)
def zdY:D->D->Option D
 |.int i,.int j=>if zbG i||zbG j then some (.int (i*j))else none
 |.tup a,.int j=>if decide (1<=j/\j<=1000/\a≠[]/\a.length<=1000)then some (.tup (List.replicate j.toNat a).flatten)else none
 |.lst a,.int j=>if decide (0<=j/\j<=1000/\a.length<=1000)then some (.lst (List.replicate j.toNat a).flatten)else none
 |_,_=>none
theorem zqk:OpD X cl (binaryOp .Mult) zdY:=by
 intro pins s σ H x y v u Q I rx ry h;obtain⟨w,d,e,r,rfl,hx,hy,hg,q⟩:=h;unfold zdY at hg;split at hg
 ·rename_i i j;split at hg
  ·rename_i hz;cases hg;obtain rfl:=hx.intI;obtain rfl:=hy.intI;refine zqb pins s σ w.H _ _ v u Q I rx ry ⟨i,j,rfl,rfl,?_,q _ w (Grow.refl _) (.int _)⟩;rw[Bool.or_eq_true]at hz;exact hz.imp (fun z=>yak z) fun z=>yak z
  ·cases hg
 ·rename_i a j;split at hg
  ·rename_i hz;cases hg;have hz':=yak hz;obtain⟨p,xs,rfl,ep,kp,rs⟩:=hx.tupI;obtain rfl:=hy.intI;have hl:=rs.length;obtain⟨k,rfl⟩:∃k:Nat,j=(k:Int):=⟨j.toNat,by omega⟩;have hne:xs≠[]:=fun z=>hz'.2.2.1 (by cases a with|nil=>rfl|cons _ _=>rw[z]at hl;cases hl)
   by_cases hk:k=1
   ·subst hk;cases rx;obtain⟨t,rfl⟩:=ry;obtain⟨its,rv,⟨o,ho,hc,n,hd⟩,_⟩:=I.tuple (SqT.of (K:=X.K) ep);refine PySem.zlQ ho hc hd ⟨.ref p,w.H,I,rfl,q _ w (Grow.refl _) (.tup ep kp ?_)⟩;simpa using rs
   ·refine zn1 pins s σ w.H _ _ v u Q I rx ry ⟨p,k,xs,rfl,rfl,SqT.of ep,hne,by omega,by omega,by omega,fun l hl=>q _ (w.add l _) (zar hl _) (Shd.newT hl (rs.flat _))⟩
  ·cases hg
 ·rename_i a j;split at hg
  ·rename_i hz;cases hg;have hz':=yak hz;obtain⟨p,xs,rfl,ep,rs⟩:=hx.lstI;obtain rfl:=hy.intI;have hl:=rs.length;refine zqa pins s σ w.H _ _ v u Q I rx ry ⟨p,j,xs,rfl,rfl,ep,by omega,by omega,?_,fun l hl=>q _ (w.add l _) (zar hl _) (Shd.newL hl (rs.flat _))⟩;refine yan (ybU (show xs.length<=1000 by omega) (show j.toNat<=1000 by omega)) (by decide)
  ·cases hg
 ·cases hg
noncomputable def zh7:D->D->Option D|.int i,.int j=>if 0<j then some (.int (i % j))else none|_,_=>none
noncomputable def zm0:D->D->Option D|.int i,.int j=>if 0<j/\j<1073741824 then some (.int (i / j))else none|_,_=>none
def zql:OpD X cl (binaryOp .Mod) zh7:=by
 intro pins s σ H x y v u Q I rx ry h;obtain⟨w,d,e,r,rfl,hx,hy,hg,q⟩:=h;unfold zh7 at hg;split at hg
 ·rename_i i j;split at hg
  ·rename_i hz;cases hg;obtain rfl:=hx.intI;obtain rfl:=hy.intI;exact zqc pins s σ w.H _ _ v u Q I rx ry ⟨i,j,rfl,rfl,hz,q _ w (Grow.refl _) (.int _)⟩
  ·cases hg
 ·cases hg
def zqn:OpD X cl (binaryOp .FloorDiv) zm0:=by
 intro pins s σ H x y v u Q I rx ry h;obtain⟨w,d,e,r,rfl,hx,hy,hg,q⟩:=h;unfold zm0 at hg;split at hg
 ·rename_i i j;split at hg
  ·rename_i hz;cases hg;obtain rfl:=hx.intI;obtain rfl:=hy.intI;exact zn2 pins s σ w.H _ _ v u Q I rx ry ⟨i,j,rfl,rfl,hz,q _ w (Grow.refl _) (.int _)⟩
  ·cases hg
 ·cases hg
noncomputable def zn7:D->Option D|.int i=>some (.int (-i))|_=>none
def zo2:UnD X cl (unaryOp .USub) zn7:=by
 intro pins s σ H x v Q I rx h;obtain⟨w,d,r,rfl,hx,hg,q⟩:=h;unfold zn7 at hg;split at hg
 ·cases hg;rename_i i;obtain rfl:=hx.intI;exact zo1 pins s σ w.H _ v Q I rx ⟨i,rfl,q _ w (Grow.refl _) (.int _)⟩
 ·cases hg
noncomputable def zoX(p:Int->Int->Bool):D->D->Option D|.int i,.int j=>some (.bl (p i j))|_,_=>none
def zfF{op:CmpOp}{p:Int->Int->Bool}(ho:OpR X (compareOp op) (rI0 fun i j=>.bl (p i j))):OpD X cl (compareOp op) (zoX p):=by
 intro pins s σ H x y v u Q I rx ry h;obtain⟨w,d,e,r,rfl,hx,hy,hg,q⟩:=h;unfold zoX at hg;split at hg
 ·cases hg;rename_i i j;obtain rfl:=hx.intI;obtain rfl:=hy.intI;exact ho pins s σ w.H _ _ v u Q I rx ry ⟨i,j,rfl,rfl,q _ w (Grow.refl _) (.bl _)⟩
 ·cases hg
noncomputable def zcy:D->Bool|.non=>true|_=>false
def zl6(d e:D):Option D:=if zcy e then some (.bl (zcy d))else none
def zqr(d e:D):Option D:=if zcy e then some (.bl (!zcy d))else none
def TopV.non_iff{v:V}{d:D}(h:TopV cl w v d):decide (v=.non)=zcy d:=by
 cases h with
 |sh h=>cases h<;>simp[zcy]|ow e t=>cases t<;>simp[zcy]|nst=>simp[zcy]
def zkp{d:D}(h:zcy d=true):d=.non:=by cases d<;>simp[zcy]at h;rfl
def zqm:OpD X cl (compareOp .Is) zl6:=by
 intro pins s σ H x y v u Q I rx ry h;obtain⟨w,d,e,r,rfl,hx,hy,hg,q⟩:=h;unfold zl6 at hg;split at hg
 ·rename_i hz;cases hg;rw[zkp hz]at hy;obtain rfl:=hy.nonI;refine zqd pins s σ w.H _ _ v u Q I rx ry ⟨rfl,?_⟩;rw[hx.non_iff];exact q _ w (Grow.refl _) (.bl _)
 ·cases hg
noncomputable def zsR:D->D->Option D|.bl a,.bl b=>some (.bl (!decide (a=b)))|_,_=>none
def ixD:D->D->Option D
 |.lst l,.int i=>atI l i|.tup l,.int i=>atI l i|.scr l,.int i=>(atI l i).map D.int|_,_=>none
def zed{xs:List V}{ds:List D}(r:Shds cl w xs ds){i:Int}{d:D}(h:atI ds i=some d):∃v,atI xs i=some v/\Shd cl w v d:=by
 unfold atI at h ⊢;rw[r.length]
 cases e:ixN ds.length i with
 |none=>rw[e]at h;cases h|some j=>
  rw[e]at h;exact r.at h
def ztj(hK:X.K=cl.K):IxD X cl ixD:=by
 intro value slice pins s σ H x y v u Q I rx ry h hsub;obtain⟨w,d,e,r,rfl,hx,hy,hg,q⟩:=h;unfold ixD at hg;split at hg
 ·rename_i l i;obtain⟨p,xs,rfl,ep,rs⟩:=hx.lstI;obtain rfl:=hy.intI;obtain⟨z,e1,e2⟩:=zed rs hg;exact zhn value slice pins s σ w.H _ _ v u Q I rx ry ⟨p,xs,i,z,rfl,rfl,SqL.of ep,e1,q _ w (Grow.refl _) e2⟩ hsub
 ·rename_i l i;obtain⟨p,xs,rfl,ep,_,rs⟩:=hx.tupI;obtain rfl:=hy.intI;obtain⟨z,e1,e2⟩:=zed rs hg;exact zkl value slice pins s σ w.H _ _ v u Q I rx ry ⟨p,xs,i,z,rfl,rfl,SqT.of ep,e1,q _ w (Grow.refl _) e2⟩ hsub
 ·rename_i l i;obtain⟨p,rfl,ep⟩:=hx.scrI hK;obtain rfl:=hy.intI
  cases hl:atI l i with
  |none=>rw[hl]at hg;cases hg|some k=>
   rw[hl]at hg;cases hg
   have e1:atI (l.map V.int) i=some (.int k):=by
    unfold atI at hl ⊢;rw[yaf]
    cases e:ixN l.length i with
    |none=>rw[e]at hl;cases hl|some j=>
     rw[e]at hl;have hl':l[j]?=some k:=hl;show(l.map V.int)[j]?=_;rw[yar,hl'];rfl
   exact zhn value slice pins s σ w.H _ _ v u Q I rx ry ⟨p,_,i,_,rfl,rfl,ep,e1,q _ w (Grow.refl _) (.int _)⟩ hsub
 ·cases hg
def ze0:List D->Option D
 |[.lst l]=>some (.int l.length)|[.tup l]=>some (.int l.length)|[.scr l]=>some (.int l.length)|[.str x]=>if zaL x.length then some (.int x.length)else none
 |_=>none
def zrl(hK:X.K=cl.K):zk4 X cl (.builtin "len") ze0:=by
 intro pins s σ H xs us Q I r h;obtain⟨w,ds,d,rfl,hx,hg,q⟩:=h;unfold ze0 at hg;split at hg
 ·rename_i l;cases hg
  cases hx with
  |cons h1 h2=>
   cases h2;obtain⟨p,ys,rfl,ep,rs⟩:=h1.lstI;refine zcS pins s σ w.H _ us Q I r ⟨p,ys,rfl,.inl (SqL.of ep),?_⟩;rw[rs.length];exact q _ w (Grow.refl _) (.int _)
 ·rename_i l;cases hg
  cases hx with
  |cons h1 h2=>
   cases h2;obtain⟨p,ys,rfl,ep,_,rs⟩:=h1.tupI;refine zcS pins s σ w.H _ us Q I r ⟨p,ys,rfl,.inr (SqT.of ep),?_⟩;rw[rs.length];exact q _ w (Grow.refl _) (.int _)
 ·rename_i l;cases hg
  cases hx with
  |cons h1 h2=>
   cases h2;obtain⟨p,rfl,ep⟩:=h1.scrI hK;refine zcS pins s σ w.H _ us Q I r ⟨p,l.map V.int,rfl,.inl ep,?_⟩;rw[yaf];exact q _ w (Grow.refl _) (.int _)
 ·rename_i x;split at hg
  ·rename_i hz;cases hg
   cases hx with
   |cons h1 h2=>
    cases h2;obtain rfl:=h1.strI;exact zgN pins s σ w.H _ us Q I r ⟨x,rfl,zaO hz,q _ w (Grow.refl _) (.int _)⟩
  ·cases hg
 ·cases hg
noncomputable def zcd:List D->Option D
 |[.lst l]=>some (.tup l)|[.tup l]=>some (.tup l)|_=>none
def zmq:zk4 X cl (.type "tuple") zcd:=by
 intro pins s σ H xs us Q I r h;obtain⟨w,ds,d,rfl,hx,hg,q⟩:=h;unfold zcd at hg;split at hg
 ·rename_i l;cases hg
  cases hx with
  |cons h1 h2=>
   cases h2;obtain⟨p,ys,rfl,ep,rs⟩:=h1.lstI;exact zdE pins s σ w.H _ us Q I r ⟨p,ys,rfl,.inl ⟨SqL.of ep,fun l hl=>q _ (w.add l _) (zar hl _) (Shd.newT hl rs)⟩⟩
 ·rename_i l;cases hg
  cases hx with
  |cons h1 h2=>
   cases h2;obtain⟨p,ys,rfl,ep,kp,rs⟩:=h1.tupI;exact zdE pins s σ w.H _ us Q I r ⟨p,ys,rfl,.inr ⟨SqT.of ep,q _ w (Grow.refl _) (.tup ep kp rs)⟩⟩
 ·cases hg
noncomputable def zhl:List D->Option D
 |[.lst l]=>some (.lst l)|[.tup l]=>some (.lst l)|_=>none
def zoJ:zoT X cl (.type "list") zhl:=by
 intro pins s σ H xs us Q I r h;obtain⟨w,ds,d,rfl,hx,hg,q⟩:=h;unfold zhl at hg;split at hg
 ·rename_i l;cases hg
  cases hx with
  |cons h1 h2=>
   cases h2;obtain⟨p,ys,rfl,ep,rs⟩:=h1.lstI;exact zd5 pins s σ w.H _ us Q I r ⟨p,ys,rfl,.inl (SqL.of ep),fun l hl=>q _ _ w (Grow.refl _) hl (.lst rs)⟩
 ·rename_i l;cases hg
  cases hx with
  |cons h1 h2=>
   cases h2;obtain⟨p,ys,rfl,ep,_,rs⟩:=h1.tupI;exact zd5 pins s σ w.H _ us Q I r ⟨p,ys,rfl,.inr (SqT.of ep),fun l hl=>q _ _ w (Grow.refl _) hl (.lst rs)⟩
 ·cases hg
noncomputable def zc5:List D->Option (List Int)
 |[]=>some []|.int b::l=>(zc5 l).map (b::·)|_=>none
def zks{bs:List Int}{ds:List D}:∀{xs:List V},Shds cl w xs ds->zc5 ds=some bs->xs=bs.map V.int:=by
 induction ds generalizing bs with
 |nil=>intro xs r h;cases r;cases h;rfl|cons d ds ih=>
  intro xs r e
  cases r with
  |cons h t=>
   cases d with
   |int b=>
    cases h;unfold zc5 at e
    cases hr:zc5 ds with
    |none=>rw[hr]at e;cases e|some cs=>rw[hr]at e;cases e;rw[ih t hr];rfl
   |_=>cases e
def zoU:List D->Option D
 |[.lst l]=>(zc5 l).bind fun ns=>if decide (ns.length<=1000)&&ns.all (fun n=>decide (0<=n/\n<=1000000))then some (.int ns.sum)else none
 |_=>none
def zrk(hc:X.calm=true):zk4 X cl (.builtin "sum") zoU:=by
 intro pins s σ H xs us Q I r h;obtain⟨w,ds,d,rfl,hx,hg,q⟩:=h;unfold zoU at hg;split at hg
 ·rename_i l
  cases hb:zc5 l with
  |none=>rw[hb]at hg;cases hg|some ns=>
   rw[hb]at hg;dsimp only[Option.bind]at hg;split at hg
   ·rename_i hz;cases hg;rw[yac,ybj]at hz
    cases hx with
    |cons h1 h2=>
     cases h2;obtain⟨p,ys,rfl,ep,rs⟩:=h1.lstI;obtain rfl:=zks rs hb;exact zmr hc pins s σ w.H _ us Q I r ⟨p,ns,rfl,SqL.of ep,yak hz.1,fun n hn=>yak (hz.2 n hn),q _ w (Grow.refl _) (.int _)⟩
   ·cases hg
 ·cases hg
end
end S2
namespace L2
open PySem PySem.Spec PyProof.Rows
end L2
namespace S2
open PySem PySem.Spec PyProof.Rows L2
def zb5(g g':D->D->Option D)(f h k:Fe):Fe:=fun ρ S=>(f ρ S).bind fun a S1=>(h ρ S1).bind fun b S2=>match(g a b).bind isB with
 |some true=>(k ρ S2).bind fun c S3=>Out.of (g' b c) S3|some false=>.ok (.bl false) S2|none=>.bad
section
variable{X:Cx}{cl:Cf}{E:St->XK}{a b c e:Expr}{f h k:Fe}{pos:Pos}
def zhQ{g g':D->D->Option D}{r r':R2}(hr:∀x y H Q,(∃w d e r,w.H=H/\TopV cl w x d/\TopV cl w y e/\g d e=some r/\∀v w',Grow w w'->Shd cl w' v r->Q v w'.H)->r x y H Q)
  (hr':∀x y H Q,(∃w d e r,w.H=H/\TopV cl w x d/\TopV cl w y e/\g' d e=some r/\∀v w',Grow w w'->Shd cl w' v r->Q v w'.H)->r' x y H Q) {σ:St}{H:Hp}{Q:VK} (q:tE cl E (zb5 g g' f h k) σ H Q):zjr r r' (tH cl E f) (tH cl E h) (tH cl E k) σ H Q:=by
 obtain⟨B,w,ρ,S,rfl,R,q⟩:=q;refine⟨B,w,ρ,S,rfl,R,?_⟩;unfold zb5 at q
 cases hf:f ρ S with
 |bad=>rwa[hf]at q|exc c S1=>rwa[hf]at q|ok d S1=>
  rw[hf]at q;intro v w1 R1 F1 h1;refine⟨B,w1,ρ,S1,rfl,R1,?_⟩;dsimp only[Out.bind]at q
  cases hh:h ρ S1 with
  |bad=>rwa[hh]at q|exc c S2=>rw[hh]at q;exact fun w2 R2 F2=>q w2 R2 (F1.trans F2)|ok e S2=>
   rw[hh]at q;intro y w2 R2 F2 h2;dsimp only at q
   cases hg:g d e with
   |none=>rw[hg]at q;exact q.elim|some z=>
    rw[hg]at q;dsimp only[Option.bind]at q
    cases hb:isB z with
    |none=>rw[hb]at q;exact q.elim|some bb=>
     rw[hb]at q;rw[zcX hb]at hg;refine hr _ _ _ _ ⟨w2,d,e,_,rfl,(h1.up F2).top R2,h2.top R2,hg,fun v' w3 gr sh=>⟨bb,zge sh,?_⟩⟩;have R3:=R2.grow gr
     cases bb with
     |false=>exact zl5 (q _ w3 R3 (F1.trans (F2.trans gr.fut)) (.bl _))|true=>
      refine zl4 ⟨B,w3,ρ,S2,rfl,R3,?_⟩;dsimp only at q
      cases hk:k ρ S2 with
      |bad=>rwa[hk]at q|exc c S3=>rw[hk]at q;exact fun w4 R4 F4=>q w4 R4 (F1.trans (F2.trans (gr.fut.trans F4)))|ok c S3=>
       rw[hk]at q;intro z' w4 R4 F4 h4;dsimp only at q
       cases hg':g' e c with
       |none=>rw[hg']at q;exact q.elim|some r2=>
        rw[hg']at q;exact hr' _ _ _ _ ⟨w4,e,c,r2,rfl,(h2.up (gr.fut.trans F4)).top R4,h4.top R4,hg',fun v' w5 gr5 sh5=>q v' w5 (R4.grow gr5) (F1.trans (F2.trans (gr.fut.trans (F4.trans gr5.fut)))) sh5⟩
def zlq{op op':CmpOp}{g g':D->D->Option D}(ho:OpD X cl (compareOp op) g)(ho':OpD X cl (compareOp op') g')(ha:PE X a (tH cl E f))(hb:PE X b (tH cl E h))(hc:PE X c (tH cl E k))(hm:lastMarks [op,op'] [b,c]=false):PE X (.Compare a [op,op'] [b,c] pos) (tE cl E (zb5 g g' f h k)):=
 PE.imp (zlK ho ho' ha hb hc hm) fun _ _ _ q=>zhQ (fun _ _ _ _ z=>z) (fun _ _ _ _ z=>z) q
def zlh{op op':CmpOp}{g g':D->D->Option D}(ho:OpD X cl (compareOp op) g)(ho':OpD X cl (compareOp op') g')(ha:PE X a (tH cl E f))(hb:PE X b (tH cl E h))(hc:PE X c (tH cl E k))(hm:lastMarks [op,op'] [b,c]=false):PT X (.Compare a [op,op'] [b,c] pos) (tTr cl E (zb5 g g' f h k)):=
 PT.imp (zlz ho ho' ha hb hc hm) fun _ _ _ q=>zhQ (fun _ _ _ _ z=>z) (fun _ _ _ _ z=>z) (zhP q)
def zdG{α:Type}(l:List α)(lo hi:Option Int):List α:=(l.drop (HT.sIx l.length 0 lo)).take (HT.sIx l.length l.length hi-HT.sIx l.length 0 lo)
def slD(d:D)(lo hi:Option Int):Option D:=match d with
 |.lst l=>some (.lst (zdG l lo hi))|.tup l=>some (.tup (zdG l lo hi))|_=>none
def zcz(o:Option Fe)(ρ:Env)(S:Sto):Out (Option Int):=match o with
 |none=>.ok none S|some f=>(f ρ S).bind fun d S1=>match d with|.int i=>.ok (some i) S1|_=>.bad
def eSl(f:Fe)(lo hi:Option Fe):Fe:=fun ρ S=>(f ρ S).bind fun d S1=>(zcz lo ρ S1).bind fun l S2=>(zcz hi ρ S2).bind fun u S3=>Out.of (slD d l u) S3
def zgK{w:Wd}{xs:List V}{ds:List D}(r:Shds cl w xs ds)(lo hi:Option Int):Shds cl w (zm2 xs lo hi) (zdG ds lo hi):=by
 unfold zm2 zdG;rw[r.length];exact(r.drop _).take _
noncomputable def SlD(X:Cx)(cl:Cf):Prop:=SlR X fun x lo hi H Q=>∃w d r,w.H=H/\TopV cl w x d/\slD d lo hi=some r/\∀v w',Grow w w'->Shd cl w' v r->Q v w'.H
def zsy:SlD X cl:=by
 intro pins s σ H x v vl vu lo hi sl Q I rx hs pl pu h;obtain⟨w,d,r,rfl,hx,hg,q⟩:=h;unfold slD at hg;split at hg
 ·rename_i l;cases hg;obtain⟨p,xs,rfl,ep,rs⟩:=hx.lstI;exact znt pins s σ w.H _ v vl vu lo hi sl Q I rx hs pl pu ⟨p,xs,rfl,SqL.of ep,fun p' hp=>q _ (w.add p' _) (zar hp _) (Shd.newL hp (zgK rs lo hi))⟩
 ·rename_i l;cases hg;obtain⟨p,xs,rfl,ep,kp,rs⟩:=hx.tupI
  by_cases hw:HT.sIx xs.length 0 lo=0/\HT.sIx xs.length xs.length hi=xs.length
  ·refine ziF pins s σ w.H _ v vl vu lo hi sl Q I rx hs pl pu ⟨p,xs,rfl,SqT.of ep,hw.1,hw.2,q _ w (Grow.refl _) (.tup ep kp ?_)⟩
   have:zdG l lo hi=l:=by
    unfold zdG;rw[<-rs.length,hw.1,hw.2,ycI,Nat.sub_zero,ybH (by rw[rs.length];exact yal _)]
   rw[this];exact rs
  ·exact zpq pins s σ w.H _ v vl vu lo hi sl Q I rx hs pl pu ⟨p,xs,rfl,SqT.of ep,hw,fun p' hp=>q _ (w.add p' _) (zar hp _) (Shd.newT hp (zgK rs lo hi))⟩
 ·cases hg
noncomputable def zrG(cl:Cf)(E:St->XK)(o:Option Fe):TO:=match o with|none=>zjq|some f=>zo9 (tH cl E f)
def zsu{lo hi:Option Expr}{fl fh:Option Fe}{p2:Pos}(he:PE X e (tH cl E f))(hl:PO X lo (zrG cl E fl))(hu:PO X hi (zrG cl E fh)):PE X (.Subscript e (.Slice lo hi none p2) pos) (tE cl E (eSl f fl fh)):=by
 refine PE.imp (zlF (zsy (cl:=cl)) he hl hu) ?_;rintro σ H Q ⟨B,w,ρ,S,rfl,R,q⟩;refine⟨B,w,ρ,S,rfl,R,?_⟩;unfold eSl at q
 cases hf:f ρ S with
 |bad=>rwa[hf]at q|exc c S1=>rwa[hf]at q|ok d S1=>
  rw[hf]at q;intro v w1 R1 F1 h1;dsimp only[Out.bind]at q
  have last:∀(l u:Option Int) (w3:Wd) (S3:Sto),Rel cl B σ w3 ρ S3->Fut w1 w3->(match Out.of (slD d l u) S3 with
    |.ok d S'=>∀v w',Rel cl B σ w' ρ S'->Fut w w'->Shd cl w' v d->Q v w'.H|.exc c S'=>∀w',Rel cl B σ w' ρ S'->Fut w w'->E σ (.ref (cl c)) none w'.H|.bad=>False)->∃w d r,w.H=w3.H/\TopV cl w v d/\slD d l u=some r/\∀v w',Grow w w'->Shd cl w' v r->Q v w'.H:=by
   intro l u w3 S3 R3 F3 q3
   cases hg:slD d l u with
   |none=>rw[hg]at q3;exact q3.elim|some r=>
    rw[hg]at q3;exact⟨w3,d,r,rfl,(h1.up F3).top R3,hg,fun v' w' gr sh=>q3 v' w' (R3.grow gr) (F1.trans (F3.trans gr.fut)) sh⟩
  have second:∀(l:Option Int) (w2:Wd) (S2:Sto),Rel cl B σ w2 ρ S2->Fut w1 w2->(match(zcz fh ρ S2).bind fun u S3=>Out.of (slD d l u) S3 with
    |.ok d S'=>∀v w',Rel cl B σ w' ρ S'->Fut w w'->Shd cl w' v d->Q v w'.H|.exc c S'=>∀w',Rel cl B σ w' ρ S'->Fut w w'->E σ (.ref (cl c)) none w'.H|.bad=>False)->zrG cl E fh σ w2.H fun u H3=>∃w d r,w.H=H3/\TopV cl w v d/\slD d l u=some r/\∀v w',Grow w w'->Shd cl w' v r->Q v w'.H:=by
   intro l w2 S2 R2 F2 q2
   cases fh with
   |none=>exact last l none w2 S2 R2 F2 q2|some fh=>
    refine⟨B,w2,ρ,S2,rfl,R2,?_⟩;unfold zcz at q2;dsimp only at q2
    cases hh:fh ρ S2 with
    |bad=>rwa[hh]at q2|exc c S3=>rw[hh]at q2;exact fun w3 R3 F3=>q2 w3 R3 (F1.trans (F2.trans F3))|ok dh S3=>
     rw[hh]at q2;intro y w3 R3 F3 h3;dsimp only[Out.bind]at q2
     cases dh with
     |int i=>
      refine⟨i,(h3.top R3).intI,?_⟩;exact last l (some i) w3 S3 R3 (F2.trans F3) q2
     |_=>exact q2.elim
  cases fl with
  |none=>exact second none w1 S1 R1 (Fut.refl _) q|some fl=>
   refine⟨B,w1,ρ,S1,rfl,R1,?_⟩;unfold zcz at q;dsimp only at q
   cases hh:fl ρ S1 with
   |bad=>rwa[hh]at q|exc c S3=>rw[hh]at q;exact fun w3 R3 F3=>q w3 R3 (F1.trans F3)|ok dl S2=>
    rw[hh]at q;intro y w2 R2 F2 h2;dsimp only[Out.bind]at q
    cases dl with
    |int i=>
     refine⟨i,(h2.top R2).intI,?_⟩;exact second (some i) w2 S2 R2 F2 q
    |_=>exact q.elim
noncomputable def zd7(T:String)(d:D):Option D:=
 if T="int"then(match d with|.int _=>some (.bl true)|.bl _=>some (.bl true)|.non=>some (.bl false)|.str _=>some (.bl false)|.tup _=>some (.bl false)|.lst _=>some (.bl false)|_=>none)
 else if T="bool"then(match d with|.int _=>some (.bl false)|.bl _=>some (.bl true)|.non=>some (.bl false)|.str _=>some (.bl false)|.tup _=>some (.bl false)|.lst _=>some (.bl false)|_=>none)
 else if T="tuple"then(match d with|.int _=>some (.bl false)|.bl _=>some (.bl false)|.non=>some (.bl false)|.str _=>some (.bl false)|.tup _=>some (.bl true)|.lst _=>some (.bl false)|_=>none)
 else if T="str"then(match d with|.int _=>some (.bl false)|.bl _=>some (.bl false)|.non=>some (.bl false)|.str _=>some (.bl true)|.tup _=>some (.bl false)|.lst _=>some (.bl false)|_=>none)
 else if T="list"then(match d with|.int _=>some (.bl false)|.bl _=>some (.bl false)|.non=>some (.bl false)|.str _=>some (.bl false)|.tup _=>some (.bl false)|.lst _=>some (.bl true)|_=>none)
 else none
def zoz{K:PySem.W.Frag}{w:Wd}{v:V}{d r:D}{T:String}(h:TopV cl w v d)(hg:zd7 T d=some r):∃t b,TyOf K w.H v t/\PySem.W.kitOne K t (.type T)=some b/\r=.bl b:=by
 unfold zd7 at hg;split at hg
 ·rename_i hT;subst hT
  split at hg<;>cases hg
  ·obtain rfl:=h.intI;exact⟨_,_,.int _,by with_unfolding_all rfl,rfl⟩
  ·obtain rfl:=h.blI;exact⟨_,_,.bl _,by with_unfolding_all rfl,rfl⟩
  ·obtain rfl:=h.nonI;exact⟨_,_,.non,by with_unfolding_all rfl,rfl⟩
  ·obtain rfl:=h.strI;exact⟨_,_,.str _,by with_unfolding_all rfl,rfl⟩
  ·obtain⟨_,_,rfl,e,_⟩:=h.tupI;exact⟨_,_,.tup e,by with_unfolding_all rfl,rfl⟩
  ·obtain⟨_,_,rfl,e,_⟩:=h.lstI;exact⟨_,_,.lst e,by with_unfolding_all rfl,rfl⟩
 split at hg
 ·rename_i hT;subst hT
  split at hg<;>cases hg
  ·obtain rfl:=h.intI;exact⟨_,_,.int _,by with_unfolding_all rfl,rfl⟩
  ·obtain rfl:=h.blI;exact⟨_,_,.bl _,by with_unfolding_all rfl,rfl⟩
  ·obtain rfl:=h.nonI;exact⟨_,_,.non,by with_unfolding_all rfl,rfl⟩
  ·obtain rfl:=h.strI;exact⟨_,_,.str _,by with_unfolding_all rfl,rfl⟩
  ·obtain⟨_,_,rfl,e,_⟩:=h.tupI;exact⟨_,_,.tup e,by with_unfolding_all rfl,rfl⟩
  ·obtain⟨_,_,rfl,e,_⟩:=h.lstI;exact⟨_,_,.lst e,by with_unfolding_all rfl,rfl⟩
 split at hg
 ·rename_i hT;subst hT
  split at hg<;>cases hg
  ·obtain rfl:=h.intI;exact⟨_,_,.int _,by with_unfolding_all rfl,rfl⟩
  ·obtain rfl:=h.blI;exact⟨_,_,.bl _,by with_unfolding_all rfl,rfl⟩
  ·obtain rfl:=h.nonI;exact⟨_,_,.non,by with_unfolding_all rfl,rfl⟩
  ·obtain rfl:=h.strI;exact⟨_,_,.str _,by with_unfolding_all rfl,rfl⟩
  ·obtain⟨_,_,rfl,e,_⟩:=h.tupI;exact⟨_,_,.tup e,by with_unfolding_all rfl,rfl⟩
  ·obtain⟨_,_,rfl,e,_⟩:=h.lstI;exact⟨_,_,.lst e,by with_unfolding_all rfl,rfl⟩
 split at hg
 ·rename_i hT;subst hT
  split at hg<;>cases hg
  ·obtain rfl:=h.intI;exact⟨_,_,.int _,by with_unfolding_all rfl,rfl⟩
  ·obtain rfl:=h.blI;exact⟨_,_,.bl _,by with_unfolding_all rfl,rfl⟩
  ·obtain rfl:=h.nonI;exact⟨_,_,.non,by with_unfolding_all rfl,rfl⟩
  ·obtain rfl:=h.strI;exact⟨_,_,.str _,by with_unfolding_all rfl,rfl⟩
  ·obtain⟨_,_,rfl,e,_⟩:=h.tupI;exact⟨_,_,.tup e,by with_unfolding_all rfl,rfl⟩
  ·obtain⟨_,_,rfl,e,_⟩:=h.lstI;exact⟨_,_,.lst e,by with_unfolding_all rfl,rfl⟩
 split at hg
 ·rename_i hT;subst hT
  split at hg<;>cases hg
  ·obtain rfl:=h.intI;exact⟨_,_,.int _,by with_unfolding_all rfl,rfl⟩
  ·obtain rfl:=h.blI;exact⟨_,_,.bl _,by with_unfolding_all rfl,rfl⟩
  ·obtain rfl:=h.nonI;exact⟨_,_,.non,by with_unfolding_all rfl,rfl⟩
  ·obtain rfl:=h.strI;exact⟨_,_,.str _,by with_unfolding_all rfl,rfl⟩
  ·obtain⟨_,_,rfl,e,_⟩:=h.tupI;exact⟨_,_,.tup e,by with_unfolding_all rfl,rfl⟩
  ·obtain⟨_,_,rfl,e,_⟩:=h.lstI;exact⟨_,_,.lst e,by with_unfolding_all rfl,rfl⟩
 ·cases hg
theorem zgO:bootBuiltins "isinstance"=some (.builtin "isinstance"):=by decide +kernel
def znC{T:String}{x:Str}{p p2:Pos}(hg:Gl X "isinstance")(hm:X.mg "isinstance"=none)(hgT:Gl X x)(hmT:X.mg x=none)(hvT:bootBuiltins x=some (.type T))(hn:x ≠ "__name__")(hdb:(x==("__debug__":Str))=false)(hp:zb2 e=true)(he:PE X e (tH cl E f)):
  PE X (.Call (.Name "isinstance" p) [e,.Name x p2] [] pos) (tE cl E (eUn (zd7 T) f)):=by
 refine PE.imp (zdo zhB hg hm zgO (zb7 he (zb7 (zjV (v:=.ty T) hgT hmT hvT rfl hn hdb) zdX rfl) (zbr hp)) (he:=zbr hp) (hpl:=rfl)) ?_;rintro σ H Q ⟨B,w,ρ,S,rfl,R,q⟩;refine⟨B,w,ρ,S,rfl,R,?_⟩;unfold eUn at q
 cases hf:f ρ S with
 |bad=>rwa[hf]at q|exc c S1=>rwa[hf]at q|ok d S1=>
  rw[hf]at q;intro v w1 R1 F1 h1;dsimp only[Out.bind]at q
  cases hg:zd7 T d with
  |none=>rw[hg]at q;exact q.elim|some r=>
   rw[hg]at q;obtain⟨t,b,h2,h3,rfl⟩:=zoz (K:=X.K) (h1.top R1) hg;exact⟨v,t,T,b,rfl,h2,h3,q _ w1 R1 F1 (.bl _)⟩
noncomputable def zsC:D->D->Option D
 |.lst l,.int i=>if i=-1 then some (.lst l.reverse)else none
 |_,_=>none
def zhx(f:Fe):Fi:=fun ρ S=>(f ρ S).bind fun d S1=>match d with|.scr l=>.ok (l.map D.int) S1|_=>.bad
def zpt{tg:Expr}(hK:X.K=cl.K)(he:PE X e (tE cl E f)):PI X tg e (tI cl E (zhx f)):=by
 refine PI.imp (zjM he) ?_;rintro σ H Q ⟨B,w,ρ,S,rfl,R,q⟩;refine⟨B,w,ρ,S,rfl,R,?_⟩;unfold zhx at q
 cases hf:f ρ S with
 |bad=>rwa[hf]at q|exc c S1=>rwa[hf]at q|ok d S1=>
  rw[hf]at q;intro v w' R' F' h';dsimp only[Out.bind]at q
  cases d with
  |scr l=>
   obtain⟨a,rfl,_⟩:=h'.scrI hK
   have hS:∀w1,Fut w' w1->SqL X.K w1.H a (l.map V.int):=fun w1 F1=>by
    obtain⟨a',e,hq⟩:=(h'.up F1).scrI hK;cases e;exact hq
   refine⟨a,rfl,⟨_,hS _ (Fut.refl _)⟩,q _ w' R' F' ?_⟩;refine⟨fun w1 F1 i hi=>⟨_,(l.map V.int)[i]'(by simpa using hi),hS _ F1,yad (by simpa using hi)⟩,fun w1 F1=>⟨_,hS _ F1,by simp⟩,fun w1 F1 i d x H1 hd y=>?_⟩;obtain⟨rfl,hy⟩:=y;have hx:=hy _ (hS _ F1);rw[yar]at hx hd
   cases hl:l[i]? with
   |none=>rw[hl]at hx;cases hx|some z=>
    rw[hl]at hx hd;cases hx;cases hd;exact⟨w1,rfl,Grow.refl _,.int _⟩
  |_=>exact q.elim
def za6(f:Fe):Fi:=fun ρ S=>(f ρ S).bind fun d S1=>match d with|.lst l=>.ok l S1|.tup l=>.ok l S1|.scr l=>.ok (l.map D.int) S1|_=>.bad
def zpu{tg:Expr}(hK:X.K=cl.K)(he:PE X e (tE cl E f)):PI X tg e (tI cl E (za6 f)):=by
 intro pins s σ H R' I q;obtain⟨B,w,ρ,S,rfl,R,q⟩:=q;unfold za6 at q
 cases hf:f ρ S with
 |bad=>rw[hf]at q;exact q.elim|exc c S1=>
  refine zju he pins s σ w.H R' I ⟨B,w,ρ,S,rfl,R,?_⟩;unfold zin;rw[hf]at q ⊢;exact q
 |ok d S1=>
  rw[hf]at q;dsimp only[Out.bind]at q
  cases d with
  |lst l=>
   refine zju he pins s σ w.H R' I ⟨B,w,ρ,S,rfl,R,?_⟩;unfold zin;rw[hf];exact q
  |tup l=>
   refine zps he pins s σ w.H R' I ⟨B,w,ρ,S,rfl,R,?_⟩;unfold zhw;rw[hf];exact q
  |scr l=>
   refine zpt hK he pins s σ w.H R' I ⟨B,w,ρ,S,rfl,R,?_⟩;unfold zhx;rw[hf];exact q
  |_=>exact q.elim
end
end S2
namespace PySem.F
end PySem.F
namespace L2
open PySem PySem.Spec PyProof.Rows
noncomputable def zdm(b:Bool)(h:Heap)(a:Addr)(vs:Array Value):Prop:=match b with|true=>h.IsList a vs|false=>h.IsTuple a vs
noncomputable def zk9(b:Bool)(h:Heap)(it a:Addr)(j:Nat):Prop:=match b with|true=>h.IsListIter it a j|false=>h.IsTupleIter it a j
noncomputable def itN(b:Bool):String:=match b with|true=>"list_iterator"|false=>"tuple_iterator"
def zdm.keep{b:Bool}{h h':Heap}{a:Addr}{vs:Array Value}(p:zdm b h a vs)(k:∀o,h.get? a=some o->h'.get? a=some o):zdm b h' a vs:=by
 cases b with
 |true=>exact Heap.IsList.at p k|false=>obtain⟨o,ho,r⟩:=p;exact⟨o,k o ho,r⟩
def zdm.inj{b:Bool}{h:Heap}{a:Addr}{vs ws:Array Value}(p:zdm b h a vs)(q:zdm b h a ws):vs=ws:=by
 cases b with
 |true=>obtain⟨o,ho,_,n,e⟩:=p;obtain⟨o',ho',_,n',e'⟩:=q;rw[ho]at ho';cases ho';rw[e]at e';cases e';rfl|false=>obtain⟨o,ho,_,n,e⟩:=p;obtain⟨o',ho',_,n',e'⟩:=q;rw[ho]at ho';cases ho';rw[e]at e';cases e';rfl
def zk9.keep{b:Bool}{h h':Heap}{it a:Addr}{j:Nat}(p:zk9 b h it a j)(k:∀o,h.get? it=some o->h'.get? it=some o):zk9 b h' it a j:=by
 cases b with
 |true=>exact Heap.IsListIter.at p k|false=>exact Heap.IsTupleIter.at p k
def zk9.live{b:Bool}{h:Heap}{it a:Addr}{j:Nat}(p:zk9 b h it a j):∃o,h.get? it=some o/\∀v,o.data≠.cell v:=by
 cases b with
 |true=>obtain⟨o,ho,c,d⟩:=p;exact⟨o,ho,fun v z=>by rw[d]at z;cases z⟩
 |false=>obtain⟨o,ho,c,d⟩:=p;exact⟨o,ho,fun v z=>by rw[d]at z;cases z⟩
section
variable{prog:Program}{w:World}{A:Around}{E:Z5}{s:Shared}
def zmk(hh:A.handled=none)(b:Bool)(it t:Addr)(ne:t≠it)(vs:Array Value):Draws prog w A it [it,t] vs.size (fun j v=>vs[j]?=some v) (fun j h=>zk9 b h it t j/\zdm b h t vs):=by
 cases b with
 |false=>exact zgJ hh it t ne vs|true=>
  exact {
   live:=fun _ _ st=>by obtain⟨⟨o,ho,_⟩,_⟩:=st;exact⟨o,ho⟩
   frame:=fun _ _ _ st hk=>⟨st.1.keep fun o e=>hk it (by simp) o e,st.2.keep fun o e=>hk t (by simp) o e⟩
   item:=fun j s Q E hj st hQ=>wpAny_nextOf_list_item (x:=vs[j]) st.1 st.2 (by simp[hj]) fun h' st' sb=>hQ _ h' s.toks (by simp[hj]) ⟨st',st.2.keep fun o e=>(sb.2 t ne).trans e⟩ sb
   done:=fun s Q E st hE=>wpAny_nextOf_list_end hh st.1 st.2 (by simp) fun h' e sb he=>hE h' e sb he}
def zjE{b:Bool}{l:Addr}{vs:Array Value}{Q:Z5}(p:zdm b s.heap l vs)(h:Q (.ref s.heap.objs.size) {s with heap:=s.heap.push {cls:=.type (itN b),data:=.fields #[.ref l,.int 0 0]}}):wpAny (model prog w) A (pyIter (.ref l)) Q E s:=by
 cases b with
 |true=>exact ycJ p h|false=>exact ybZ p h
noncomputable abbrev IsT(h:Heap)(T:Addr)(os:List Value):Prop:=h.get? T=some {cls:=.type "tuple",data:=.seq os.toArray}
noncomputable abbrev Stops(h:Heap)(e:Addr):Prop:=∃o,h.get? e=some o/\o.cls=.type "StopIteration"
noncomputable def zgX:Nat->List (Bool×Nat)->List Value|_,[]=>[]|a,_::L=>.ref a::zgX (a+1) L
noncomputable def ZAt(k:Nat)(h:Heap):Nat->List (Bool×Nat)->Prop|_,[]=>True|a,p::L=>zk9 p.1 h a p.2 k/\ZAt k h (a+1) L
noncomputable def ZGv(k:Nat)(h:Heap):List (Bool×Nat)->List Value->Prop
 |[],[]=>True|p::L,x::xs=>(∃vs,zdm p.1 h p.2 vs/\vs[k]?=some x)/\ZGv k h L xs|_,_=>False
theorem ZGv.len{k:Nat}{h:Heap}:∀{L:List (Bool×Nat)}{xs:List Value},ZGv k h L xs->xs.length=L.length
 |[],[],_=>rfl|_::_,_::_,g=>congrArg Nat.succ (ZGv.len g.2)
theorem ZAt.keep{k:Nat}{h h':Heap}:∀{L:List (Bool×Nat)}{a:Nat},ZAt k h a L->(∀(c:Nat) (o:Obj),a<=c->c<a+L.length->h.get? c=some o->h'.get? c=some o)->ZAt k h' a L
 |[],_,_,_=>trivial|p::L,a,z,f=>⟨z.1.keep fun o e=>f _ o (yal _) (by simp) e,ZAt.keep z.2 fun c o h1 h2 e=>f c o (by omega) (by simp only[yae];omega) e⟩
theorem zhK:∀(a:Nat) (L:List (Bool×Nat)),(zgX a L).length=L.length
 |_,[]=>rfl|a,_::L=>congrArg Nat.succ (zhK (a+1) L)
theorem zhJ{β:Type}{z TI TO k:Nat}{f:Value×Nat->β->Sem (ForInStep β)}{b:β}(hTO:TO<z)
  (hf:∀(p:Bool×Nat) (vs:Array Value) (a n:Nat) (os:List Value) (s:Shared) (Q:ForInStep β->Shared->Prop),p.2<a->a<TO->os.length<=9->IsZip s.heap z TI TO .ellipsis->IsT s.heap TO os->zk9 p.1 s.heap a p.2 k->zdm p.1 s.heap p.2 vs →
   (∀x h' tk,vs[k]?=some x->IsT h' TO (os.set n x)->zk9 p.1 h' a p.2 (k+1)->h'.objs.size=s.heap.objs.size->(∀(c:Nat) (o:Obj),c≠TO->c≠a->s.heap.get? c=some o->h'.get? c=some o)->Q (.yield b) {s with heap:=h',toks:=tk}) →
   (k=vs.size->∀h' e tk,(∀(c:Nat) (o:Obj),c≠z->c≠a->s.heap.get? c=some o->h'.get? c=some o)->Stops h' e->E (.ref e) {s with heap:=h',toks:=tk}) →
   k<=vs.size->wpAny (model prog w) A (f (.ref a,n) b) Q E s):
  ∀(L:List (Bool×Nat)) (a n:Nat) (os:List Value) (s:Shared) (Q:β->Shared->Prop),(∀p∈L,p.2<a/\∃vs,zdm p.1 s.heap p.2 vs/\k<=vs.size)->a+L.length<=TO->os.length=n+L.length->os.length<=9->IsZip s.heap z TI TO .ellipsis->IsT s.heap TO os->ZAt k s.heap a L →
   (∀xs h' tk,ZGv k s.heap L xs->IsT h' TO (os.take n++xs)->ZAt (k+1) h' a L->h'.objs.size=s.heap.objs.size->(∀(c:Nat) (o:Obj),(c<a\/a+L.length<=c)->c≠TO->s.heap.get? c=some o->h'.get? c=some o)->Q b {s with heap:=h',toks:=tk}) →
   ((∃p∈L,∃vs,zdm p.1 s.heap p.2 vs/\k=vs.size)->∀h' e tk,(∀(c:Nat) (o:Obj),(c<a\/z<c)->s.heap.get? c=some o->h'.get? c=some o)->Stops h' e->E (.ref e) {s with heap:=h',toks:=tk}) →
   wpAny (model prog w) A (forIn ((zgX a L).zipIdx n) b f) Q E s
 |[],a,n,os,s,Q,_,_,hn,_,_,hO,_,hQ,_=>by
  refine yah (hQ [] s.heap s.toks trivial ?_ trivial rfl fun c o _ _ e=>e);rw[yaU,ybH (by simp at hn;omega)];exact hO
 |p::L,a,n,os,s,Q,hL,hT,hn,h9,hz,hO,hA,hQ,hE=>by
  rw[yae]at hT hn;obtain⟨hp,vs,hv,hk⟩:=hL p (.head _);show wpAny _ _ (forIn ((.ref a,n)::(zgX (a+1) L).zipIdx (n+1)) b f) _ _ _;rw[ycy];refine yaa (hf p vs a n os s _ hp (by omega) h9 hz hO hA.1 hv (fun x h1 tk hx hO1 hI1 hs1 k1=>?_) (fun hx h' e tk k1=>hE ⟨p,.head _,vs,hv,hx⟩ h' e tk fun c o hc q=>k1 c o (by omega) (by omega) q) hk);have kq:∀q∈L,∀vs,zdm q.1 s.heap q.2 vs->zdm q.1 h1 q.2 vs:=fun q hq vs e=>e.keep fun o e=>k1 _ o (by have:=(hL q (.tail _ hq)).1;omega) (by have:=(hL q (.tail _ hq)).1;omega) e
  refine zhJ hTO hf L (a+1) (n+1) (os.set n x) _ Q (fun q hq=>?_) (by omega) (by rw[yaw];omega) (by rw[yaw];exact h9) (k1 _ _ (by omega) (by omega) hz) hO1 (hA.2.keep fun c o c1 c2 e=>k1 c o (by omega) (by omega) e) (fun xs h' tk' gv hO' hA' hs' k'=>?_) (fun⟨q,hq,ws,hw,hx⟩ h' e tk' k'=>?_)
  ·obtain⟨h2,ws,hw,hk2⟩:=hL q (.tail _ hq);exact⟨by omega,ws,kq q hq ws hw,hk2⟩
  ·refine hQ (x::xs) h' tk' ⟨⟨vs,hv,hx⟩,?_⟩ ?_ ⟨hI1.keep fun o e=>k' _ o (.inl (by omega)) (by omega) e,hA'⟩ (hs'.trans hs1) fun c o hc c2 e=>k' c o (by rw[yae]at hc;omega) c2 (k1 c o c2 (by rw[yae]at hc;omega) e)
   ·clear hQ hE hO' hA' k'
    have aux:∀(M:List (Bool×Nat)) (ys:List Value),(∀q∈M,q∈L)->ZGv k h1 M ys->ZGv k s.heap M ys:=by
     intro M
     induction M with
     |nil=>intro ys _ g;cases ys<;>exact g|cons q M ih=>
      intro ys hM g
      cases ys with
      |nil=>exact g|cons y ys=>
       obtain⟨⟨ws,e1,e2⟩,g2⟩:=g;obtain⟨_,ws',e3,_⟩:=hL q (.tail _ (hM q (.head _)));have e4:=kq q (hM q (.head _)) ws' e3;refine⟨⟨ws',e3,?_⟩,ih ys (fun r hr=>hM r (.tail _ hr)) g2⟩;rw[zdm.inj e4 e1];exact e2
    exact aux L xs (fun _ h=>h) gv
   ·have:os.take n++x::xs=(os.set n x).take (n+1)++xs:=by
     rw[List.take_succ,yap (by omega),List.take_set_of_le (yal _)];simp
    rw[this];exact hO'
  ·obtain⟨_,ws',e3,_⟩:=hL q (.tail _ hq);exact hE ⟨q,.tail _ hq,ws',e3,by rw[hx,zdm.inj hw (kq q hq ws' e3)]⟩ h' e tk' fun c o hc e=>k' c o (by omega) (k1 c o (by omega) (by omega) e)
theorem zhI{z TI TO k a:Nat}{L:List (Bool×Nat)}{os:List Value}{Q:Z5}(hh:A.handled=none)(h0:L≠[])(h9:L.length<=9)(e1:TI=a+L.length)(e2:TO=TI+1)(e3:z=TO+1)
  (hL:∀p∈L,p.2<a/\∃vs,zdm p.1 s.heap p.2 vs/\k<=vs.size) (hz:IsZip s.heap z TI TO .none) (hI:IsT s.heap TI (zgX a L)) (hO:IsT s.heap TO os) (ho:os.length=L.length) (hA:ZAt k s.heap a L)
  (hQ:∀xs h' tk,ZGv k s.heap L xs->IsZip h' z TI TO (rawInt s.heap.objs.size)->IsT h' TO xs->ZAt (k+1) h' a L->IsT h' s.heap.objs.size xs->(∀(c:Nat) (o:Obj),(c<a\/c=TI\/z<c)->s.heap.get? c=some o->h'.get? c=some o)->Q (.ref s.heap.objs.size) {s with heap:=h',toks:=tk})
  (hE:(∃p∈L,∃vs,zdm p.1 s.heap p.2 vs/\k=vs.size)->∀h' e tk,(∀(c:Nat) (o:Obj),(c<a\/z<c)->s.heap.get? c=some o->h'.get? c=some o)->Stops h' e->E (.ref e) {s with heap:=h',toks:=tk}):
  wpAny (model prog w) A (Builtin.«zip.__next__» ⟨[.ref z],[]⟩) (fun fin s'=>∃v,fin=.done (.ret v)/\Q v s') E s:=by
 have hne:((zgX a L).toArray.isEmpty)=false:=by
  cases L with
  |nil=>exact absurd rfl h0|cons p L=>rfl
 show wpAny _ _ (field (.ref z) 2 >>= _) _ _ _;refine yaa (ybq hz rfl (x:=.bool false) rfl ?_);show wpAny _ _ (field (.ref z) 3 >>= _) _ _ _;refine yaa (ybq hz rfl (x:=.ref TI) rfl ?_);refine yaa (ybG hI rfl ?_);simp only[hne,yaP,ybJ];show wpAny _ _ (Builtin.SmallTypes.ownedTupleIsFree (.ref z) >>= _) _ _ _;refine yaa ?_;unfold Builtin.SmallTypes.ownedTupleIsFree;refine yaa (ybq hz rfl (x:=.none) rfl (yah ?_));simp only[yci];refine yaa (ycM ?_);refine yaa (ybq hz rfl (x:=.ref TO) rfl ?_);refine yaa (yb6 hz (by simp) fun h₁ hz₁ hs₁=>?_);replace hz₁:IsZip h₁ z TI TO .ellipsis:=hz₁;have k₁:∀(c:Nat) (o:Obj),c≠z->s.heap.get? c=some o->h₁.get? c=some o:=fun c o hc e=>hs₁.extBut _ _ hc e
 have kq:∀p∈L,∀vs,zdm p.1 h₁ p.2 vs↔zdm p.1 s.heap p.2 vs:=fun p hp vs=>by
  have hc:p.2≠z:=by have:=(hL p hp).1;omega
  exact⟨fun q=>q.keep fun o e=>((hs₁.2 p.2 hc).symm.trans e),fun q=>q.keep fun o e=>k₁ _ o hc e⟩
 refine yaa (zhJ (z:=z) (TI:=TI) (TO:=TO) (k:=k) (by omega) (fun p vs b n os s Q hp hb h9 hz hO hI hv hx he hk=>?_) L a 0 os _ _ (fun p hp=>?_) (by omega) (by omega) (by omega) hz₁ (k₁ _ _ (by omega) hO) (hA.keep fun c o c1 c2 e=>k₁ c o (by omega) e) (fun xs h₂ tk gv hO₂ hA₂ hs₂ k₂=>?_) (fun⟨p,hp,vs,hv,hx⟩ h' e tk k'=>hE ⟨p,hp,vs,(kq p hp vs).1 hv,hx⟩ h' e tk fun c o hc q=>k' c o hc (k₁ c o (by omega) q)))
 ·have D:=zmk (prog:=prog) (w:=w) hh p.1 b p.2 (yaD hp) vs;refine yaa (wpAny_onRaise ?_);show wpAny _ _ (Builtin.SmallTypes.nextOf (.ref b) >>= _) _ _ _
  rcases Nat.lt_or_eq_of_le hk with hlt|rfl
  ·refine yaa (D.item k _ _ _ hlt ⟨hI,hv⟩ fun x h₂ tk₂ px hI₂ hs₂=>yah ?_);have hO₂:IsT h₂ TO os:=hs₂.extBut _ _ (ya0 hb) hO;refine yaa (ybG hO₂ rfl ?_);refine yaa (wpAny_updateSeq hO₂ rfl ?_ (by simp;exact yan h9 (by decide)) (by simp;exact yan h9 (by decide)));have hs₃:=Heap.SameBut.update h₂ TO (Obj.mapSeq (·.setIfInBounds n x));refine yaa (wpAny_letGo (yah (hx x _ tk₂ px ?_ (hI₂.1.keep fun o e=>hs₃.extBut _ _ (show b≠TO by omega) e) (hs₃.1.trans hs₂.1) fun c o c1 c2 e=>hs₃.extBut _ _ c1 (hs₂.extBut _ _ c2 e))));show Heap.get? _ TO=_;rw[ybL _ hO₂ rfl];simp[Obj.mapSeq]
  ·refine yaa (D.done _ _ _ ⟨hI,hv⟩ fun h₂ e hs₂ hs=>?_);obtain⟨oe,hoe,hce⟩:=hs;have hz₂:IsZip h₂ z TI TO .ellipsis:=hs₂ _ _ (show z≠b by omega) hz
   have hez:e≠z:=fun x=>by subst x;rw[hz₂]at hoe;cases hoe;simp at hce
   exact yb6 hz₂ (by simp) fun h₃ _ hs₃=>he rfl h₃ e _ (fun c o c1 c2 q=>hs₃.extBut _ _ c1 (hs₂ _ _ c2 q)) ⟨oe,hs₃.extBut _ _ hez hoe,hce⟩
 ·obtain⟨h1,vs,hv,hk⟩:=hL p hp;exact⟨h1,vs,(kq p hp vs).2 hv,hk⟩
 ·replace hO₂:IsT h₂ TO xs:=hO₂;refine yaa (ybG hO₂ rfl ?_);refine yaa (wpAny_newTuple ?_ (hsz:=by rw[show xs.toArray.toList=xs from rfl,gv.len];exact yan h9 (by decide)));have hz₂:IsZip h₂ z TI TO .ellipsis:=k₂ _ _ (.inr (by omega)) (by omega) hz₁;have hsz:h₂.objs.size=s.heap.objs.size:=hs₂.trans hs₁.1;have hzlt:z<h₂.objs.size:=yaq hz₂;show wpAny _ _ (Builtin.SmallTypes.ownedTupleHandOut (.ref z) (.ref h₂.objs.size) >>= _) _ _ _;refine yaa ?_;unfold Builtin.SmallTypes.ownedTupleHandOut;have hz₃:IsZip (h₂.push {cls:=.type "tuple",data:=.seq xs.toArray}) z TI TO .ellipsis:=yag _ hz₂;refine yaa (yb6 hz₃ (by simp) fun h₄ hz₄ hs₄=>?_);replace hz₄:IsZip h₄ z TI TO (rawInt h₂.objs.size):=hz₄;refine yb6 hz₄ (by simp) fun h₅ hz₅ hs₅=>?_
  replace hz₅:IsZip h₅ z TI TO (rawInt h₂.objs.size):=hz₅;have up:∀(c:Nat) (o:Obj),c≠z->h₂.get? c=some o->h₅.get? c=some o:=fun c o c1 e=>hs₅.extBut _ _ c1 (hs₄.extBut _ _ c1 (yag _ e))
  have hT:IsT h₅ h₂.objs.size xs:=hs₅.extBut _ _ (ya0 hzlt) (hs₄.extBut _ _ (ya0 hzlt) (yau _ rfl));rw[hsz]at hz₅ hT;refine yah ⟨_,rfl,?_⟩;show Q (.ref h₂.objs.size) _;rw[hsz]
  have gv':∀(M:List (Bool×Nat)) (ys:List Value),(∀q∈M,q∈L)->ZGv k h₁ M ys->ZGv k s.heap M ys:=by
   intro M
   induction M with
   |nil=>intro ys _ g;cases ys<;>exact g|cons q M ih=>
    intro ys hM g
    cases ys with
    |nil=>exact g|cons y ys=>obtain⟨⟨ws,q1,q2⟩,g2⟩:=g;exact⟨⟨ws,(kq q (hM q (.head _)) ws).1 q1,q2⟩,ih ys (fun r hr=>hM r (.tail _ hr)) g2⟩
  exact hQ xs h₅ tk (gv' L xs (fun _ h=>h) gv) hz₅ (up _ _ (by omega) hO₂) (hA₂.keep fun c o c1 c2 e=>up c o (by omega) e) hT fun c o hc e=>up c o (by omega) (k₂ c o (by omega) (by omega) (k₁ c o (by omega) e))
def zqU{b:Bool}{h:Heap}{it a:Addr}(g:h.get? it=some {cls:=.type (itN b),data:=.fields #[.ref a,.int 0 0]}):zk9 b h it a 0:=by
 cases b with
 |true=>exact⟨_,g,rfl,rfl⟩|false=>exact⟨_,g,rfl,rfl⟩
theorem ziW{L:List (Bool×Nat)}{Q:List Value->Shared->Prop}(hL:∀p∈L,∃vs,zdm p.1 s.heap p.2 vs)
  (h:∀h',(∀(c:Nat) (o:Obj),s.heap.get? c=some o->h'.get? c=some o)->ZAt 0 h' s.heap.objs.size L->h'.objs.size=s.heap.objs.size+L.length->Q (zgX s.heap.objs.size L) {s with heap:=h'}):
  wpAny (model prog w) A (Builtin.SmallTypes.iterAll (L.map fun p=>.ref p.2)) Q E s:=by
 have go:∀(L:List (Bool×Nat)) (acc:Array Value) (s:Shared) (Q:Array Value->Shared->Prop),(∀p∈L,∃vs,zdm p.1 s.heap p.2 vs)->(∀h' r,r.toList=acc.toList++zgX s.heap.objs.size L->(∀(c:Nat) (o:Obj),s.heap.get? c=some o->h'.get? c=some o)->ZAt 0 h' s.heap.objs.size L->h'.objs.size=s.heap.objs.size+L.length->Q r {s with heap:=h'}) →
   wpAny (model prog w) A (forIn (L.map fun p=>Value.ref p.2) acc fun x r=>do let y ← holding r.toList (pyIter x);pure (ForInStep.yield (r.push y))) Q E s:=by
  intro L
  induction L with
  |nil=>intro acc s Q _ h;exact yah (h s.heap acc (by simp[zgX]) (fun _ _ e=>e) trivial rfl)
  |cons p L ih=>
   intro acc s Q hL h;obtain⟨vs,hv⟩:=hL p (.head _);rw[yaA,ycy];refine yaa (yaa (ybP (zjE hv (yah ?_))));have sz:(s.heap.push {cls:=.type (itN p.1),data:=.fields #[.ref p.2,.int 0 0]}).objs.size=s.heap.objs.size+1:=ya6 ..;refine ih _ _ Q (fun q hq=>?_) (fun h' r hr k za hz=>h h' r ?_ (fun c o e=>k c o (yag _ e)) ⟨zqU (k _ _ (yau _ rfl)),?_⟩ ?_)
   ·obtain⟨ws,hw⟩:=hL q (.tail _ hq);exact⟨ws,hw.keep fun o e=>yag _ e⟩
   ·rw[hr,sz];simp[zgX]
   ·rwa[sz]at za
   ·rw[hz,sz,yae];omega
 unfold Builtin.SmallTypes.iterAll;refine yaa (go L #[] s _ hL fun h' r hr k za hz=>yah ?_);rw[show r.toList=zgX s.heap.objs.size L from hr];exact h h' k za hz
def zkc{L:List (Bool×Nat)}(h9:L.length<=9):
  Meets (Builtin.«zip.__new__» ⟨.type "zip" :: (L.map fun p=>.ref p.2),[]⟩) (fun _ R s=>(∀p∈L,∃vs,zdm p.1 s.heap p.2 vs) ∧
   ∀h' n,n=s.heap.objs.size->(∀(c:Nat) (o:Obj),s.heap.get? c=some o->h'.get? c=some o)->ZAt 0 h' n L->IsT h' (n+L.length) (zgX n L)->(∃os,os.length=L.length/\IsT h' (n+L.length+1) os)->IsZip h' (n+L.length+2) (n+L.length) (n+L.length+1) .none →
    R (.ok (.ret (.ref (n+L.length+2)))) {s with heap:=h'}):=
 .of_wp fun prog w A R s h=>by
  obtain⟨hp,g,d,tk,os⟩:=s;obtain⟨hl,h⟩:=h;have hsub:=sub_zip;have hl':∀p∈L,∃vs,zdm p.1 (Shared.heap ⟨hp,g,d,tk,os⟩) p.2 vs:=hl
  wp_walk using ziW hl'
  intro h1 k za hz;have zl:=zhK hp.objs.size L;refine yaa (wpAny_newTuple ?_ (hsz:=by rw[zl];exact yan h9 (by decide)));refine yaa (wpAny_newTuple ?_ (hsz:=by rw[yaf,zl];exact yan h9 (by decide)));refine yaa ?_;unfold Builtin.SmallTypes.newRecord;refine ya9 ?_ (hd:=by first|exact trivial|(show(5:Nat)<=_;decide));have z1:∀o,(h1.push o).objs.size=hp.objs.size+L.length+1:=fun o=>(ya6 ..).trans (congrArg (·+1) hz)
  have z2:∀o o',((h1.push o).push o').objs.size=hp.objs.size+L.length+2:=fun o o'=>(ya6 ..).trans (congrArg (·+1) (z1 o))
  have p {h:Heap}{o':Obj}{a:Addr}{o:Obj} (e:h.get? a=some o):(h.push o').get? a=some o:=yag _ e
  have u:∀{h:Heap}{o:Obj}{a:Addr},a=h.objs.size->o.isFreed=false->(h.push o).get? a=some o:=fun e ho=>by rw[e];exact yau _ ho
  refine yah ⟨_,rfl,?_⟩;have r:=h (((h1.push {cls:=.type "tuple",data:=.seq (zgX hp.objs.size L).toArray}).push {cls:=.type "tuple",data:=.seq ((zgX hp.objs.size L).map fun _=>Value.none).toArray}).push {cls:=.type "zip",data:=.fields #[.none,.bool false,.bool false,.ref (hp.objs.size+L.length),.ref (hp.objs.size+L.length+1)]}) _ rfl (fun c o e=>p (p (p (k c o e)))) (za.keep fun c o _ _ e=>p (p (p e))) (p (p (u hz.symm rfl))) ⟨_,by rw[yaf,zl],p (u (z1 _).symm rfl)⟩ (u (z2 _ _).symm rfl);simp only[hz,z1,z2];exact r
end
theorem ZAt.live{k:Nat}{h:Heap}:∀{L:List (Bool×Nat)}{a b:Nat},ZAt k h a L->a<=b->b<a+L.length->∃o,h.get? b=some o/\∀v,o.data≠.cell v
 |[],a,b,_,h1,h2=>absurd h2 (Nat.not_lt.mpr h1)|p::L,a,b,z,h1,h2=>by
  rcases Nat.eq_or_lt_of_le h1 with rfl|h3
  ·exact z.1.live
  ·exact ZAt.live z.2 h3 (by rw[yae]at h2;omega)
theorem ZGv.at{k:Nat}{h:Heap}:∀{L:List (Bool×Nat)}{xs:List Value},ZGv k h L xs->∀p∈L,∃vs,zdm p.1 h p.2 vs/\k<vs.size
 |p::L,x::xs,g,q,hq=>by
  cases hq with
  |head=>obtain⟨vs,e1,e2⟩:=g.1;exact⟨vs,e1,(Array.getElem?_eq_some_iff.mp e2).1⟩|tail _ hq=>exact ZGv.at g.2 q hq
noncomputable def zFp(a n:Nat):List Addr:=(List.range (n+3)).map (a+·)
theorem zcg{a n b:Nat}:b∈zFp a n↔a<=b/\b<a+n+3:=by
 unfold zFp;rw[yay];exact⟨fun⟨j,hj,e⟩=>by rw[yaS]at hj;have e:a+j=b:=e;omega,fun⟨h1,h2⟩=>⟨b-a,yaS.mpr (by omega),by show a+(b-a)=b;omega⟩⟩
theorem zgY{a n b:Nat}(h:b ∉ zFp a n):b<a\/a+n+2<b:=by rw[zcg]at h;omega
theorem zrY{a n b:Nat}(h:b<a+n+3)(h':¬ b<a+n):b=a+n\/b=a+n+1\/b=a+n+2:=by omega
theorem zoZ{a n b:Nat}(h:b<a\/a+n+2<b):b≠a+n+2:=by omega
section
variable{X:Cx}{pins:Z3}{σ:St}{H:Hp}{s:Shared}
noncomputable def SqB(b:Bool)(H:Hp)(a:Addr)(xs:List V):Prop:=match b with|true=>H a=some (.lst xs)|false=>H a=some (.tup xs)
def Inv.sq{b:Bool}{a:Addr}{xs:List V}(I:Inv X pins σ H s)(h:SqB b H a xs):∃its:List Value,Vals xs its/\zdm b s.heap a its.toArray:=by
 cases b with
 |true=>obtain⟨its,rv,p,_⟩:=I.list (SqL.of h);exact⟨its,rv,p.isList⟩|false=>obtain⟨its,rv,p,_⟩:=I.tuple (SqT.of h);exact⟨its,rv,p⟩
def SqB.inj{b:Bool}{a:Addr}{xs ys:List V}(h:SqB b H a xs)(g:SqB b H a ys):xs=ys:=by
 cases b with
 |true=>have e:=(show H a=_ from h).symm.trans (show H a=_ from g);cases e;rfl|false=>have e:=(show H a=_ from h).symm.trans (show H a=_ from g);cases e;rfl
noncomputable def ZGd(i:Nat)(H:Hp):List (Bool×Nat)->List V->Prop
 |[],[]=>True|p::L,y::ys=>(∃xs,SqB p.1 H p.2 xs/\xs[i]?=some y)/\ZGd i H L ys|_,_=>False
def ItZ(L:List (Bool×Nat)):It:=
 ⟨fun i H=>∃ys,ZGd i H L ys,fun i H v H'=>∃t ys,v=.ref t/\H t=none/\H'=upd H t (.tup ys)/\ZGd i H L ys,
  fun i H=>(∀p∈L,∃xs,SqB p.1 H p.2 xs/\i<=xs.length)/\∃p∈L,∃xs,SqB p.1 H p.2 xs/\i=xs.length⟩
theorem ZGd.at{i:Nat}(I:Inv X pins σ H s):∀{L:List (Bool×Nat)}{ys:List V},ZGd i H L ys->∀p∈L,∃vs,zdm p.1 s.heap p.2 vs/\i<vs.size
 |p::L,x::xs,g,q,hq=>by
  cases hq with
  |head=>
   obtain⟨vs,e1,e2⟩:=g.1;obtain⟨its,rv,p1⟩:=I.sq e1;exact⟨_,p1,by rw[yai,<-rv.length];exact(yaj.mp e2).1⟩
  |tail _ hq=>exact ZGd.at I g.2 q hq
theorem ZGd.vals{i:Nat}(I:Inv X pins σ H s):∀{L:List (Bool×Nat)}{ys:List V}{us:List Value},ZGd i H L ys->ZGv i s.heap L us->Vals ys us
 |[],[],[],_,_=>.nil|p::L,y::ys,u::us,g,v=>by
  refine .cons ?_ (ZGd.vals I g.2 v.2);obtain⟨xs,e1,e2⟩:=g.1;obtain⟨vs,e3,e4⟩:=v.1;obtain⟨its,rv,p1⟩:=I.sq e1;rw[zdm.inj e3 p1]at e4;obtain⟨u',hu,ru⟩:=rv.get e2;rw[List.getElem?_toArray,hu]at e4;cases e4;exact ru
def znc{fp:List Addr}{T:Addr}{h2:Heap}{tk:Nat}{us:List Value}{ys:List V}(I:Inv X pins σ H s)(hf:∀b∈fp,zk2 X pins H b)(hT:T=s.heap.objs.size)(te:IsT h2 T us)
  (k:∀b o,b ∉ fp->s.heap.get? b=some o->h2.get? b=some o) (r:Vals ys us) (h9:us.length<=9):Inv X pins σ (upd H T (.tup ys)) {s with heap:=h2,toks:=tk}/\H T=none:=by
 have fr:H T=none:=by rw[hT];exact I.hok.fresh (yal _)
 refine⟨?_,fr⟩;have I1:Inv X pins σ H {s with heap:=h2,toks:=tk}:=I.turnedL (ch:=fp) (fun b o hb q=>k b o hb q) hf;refine I1.track fr (by rw[hT];exact I.sz) (by rw[hT];exact ya0 I.lt) (fun z c q=>?_) (fun p hp=>?_) ?_
 ·obtain⟨v,cq⟩:=I.cell z c q;rw[hT];exact yaD cq.lt
 ·rw[hT];exact yaD (yaq (I.pin p hp).1)
 ·exact⟨yan (r.length ▸ h9) (by decide),us,r,_,te,rfl,_,rfl⟩
theorem zld{P:Program}{w:World}{K:PySem.W.Frag}{elts:List Expr}{x1:Nat}{pos:Pos}(L:List (Bool×Nat))(a:Nat)(h0:L≠[])(h9:L.length<=9)(hL:∀p∈L,p.2<a):
  Turn P w K (.Tuple elts x1 pos) (ItZ L) (zFp a L.length) (a+L.length+2) (fun i h=>IsZip h (a+L.length+2) (a+L.length) (a+L.length+1) .none/\IsT h (a+L.length) (zgX a L)/\(∃os,os.length=L.length/\IsT h (a+L.length+1) os)/\ZAt i h a L)where
 mem:=zcg.mpr (by omega)
 obj:=fun i h st b hb=>by
  obtain⟨hz,hI,⟨os,ho,hO⟩,hA⟩:=st;obtain⟨h1,h2⟩:=zcg.mp hb
  by_cases e:b<a+L.length
  ·exact hA.live h1 e
  ·rcases zrY h2 e with rfl|rfl|rfl
   ·exact⟨_,hI,fun v e=>by cases e⟩
   ·exact⟨_,hO,fun v e=>by cases e⟩
   ·exact⟨_,hz,fun v e=>by cases e⟩
 keep:=fun i h h' st k=>by
  obtain⟨hz,hI,⟨os,ho,hO⟩,hA⟩:=st;exact⟨k _ (zcg.mpr (by omega)) _ hz,k _ (zcg.mpr (by omega)) _ hI,⟨os,ho,k _ (zcg.mpr (by omega)) _ hO⟩,hA.keep fun c o c1 c2 e=>k _ (zcg.mpr (by omega)) _ e⟩
 item:=by
  intro X hP hw hK hc i pins s σ H E I hf st hg;subst hP hw hK;obtain⟨ys,gd⟩:=hg;obtain⟨hz,hI,⟨os,ho,hO⟩,hA⟩:=st;have hT:s.TypeIs (.ref (a+L.length+2)) "zip":=⟨_,hz,rfl⟩;unfold pyNext
  refine yaa (wpAny_attempt (ya4 (name:=Str.ofString "__next__") hT ycA (ybd ycA hT F.entry_zip_next
   (zhI (A:=X.A.in1) (I.ok.hd hc) h0 h9 rfl rfl rfl (fun p hp=>by obtain⟨vs,e1,e2⟩:=gd.at I p hp;exact⟨hL p hp,vs,e1,ycC e2⟩) hz hI hO ho hA (fun us h' tk gv a1 a2 a3 a4 a5=>yah ?_)
    (fun⟨p,hp,vs,e1,e2⟩=>by obtain⟨ws,e3,e4⟩:=gd.at I p hp;rw[zdm.inj e1 e3]at e2;omega)) (F.args_zip_next_1 _))))
  have neT:s.heap.objs.size≠a+L.length+2:=ya0 (yaq hz);have ltz:a+L.length+2<s.heap.objs.size:=yaq hz;refine⟨_,rfl,wpAny_letOwnedTupleGo_zip a1 fun h2' hz2 sb=>?_⟩;have kb:∀(c:Nat) (o:Obj),c≠a+L.length+2->h'.get? c=some o->h2'.get? c=some o:=fun c o hc e=>(sb.2 c hc).trans e
  obtain⟨I2,fr⟩:=znc (tk:=tk) (h2:=h2') I hf rfl (kb _ _ neT a4) (fun b o hb q=>kb b o (zoZ (zgY hb)) (a5 b o ((zgY hb).elim .inl fun e=>.inr (.inr e)) q)) (gd.vals I gv) (by rw[gv.len];exact h9);refine⟨.ref s.heap.objs.size,_,I2,rfl,⟨_,ys,rfl,fr,rfl,gd⟩,⟨hz2,kb _ _ (by omega) (a5 _ _ (.inr (.inl rfl)) hI),⟨us,gv.len,kb _ _ (by omega) a2⟩,a3.keep fun c o c1 c2 e=>kb c o (by omega) e⟩,fun b hb=>?_⟩;rw[zah (fun e=>by have:=(zcg.mp (e ▸ hb)).2;omega)];exact(hf b hb).1
 done:=by
  intro X hP hw hK hc i pins s σ H E I hf st hg;subst hP hw hK;obtain⟨g1,p,hp,xs,e1,e2⟩:=hg;obtain⟨hz,hI,⟨os,ho,hO⟩,hA⟩:=st;have hT:s.TypeIs (.ref (a+L.length+2)) "zip":=⟨_,hz,rfl⟩;obtain⟨its,rv,p1⟩:=I.sq e1;unfold pyNext
  refine yaa (wpAny_attempt (ya4 (name:=Str.ofString "__next__") hT ycA (ybd ycA hT F.entry_zip_next
   (zhI (A:=X.A.in1) (I.ok.hd hc) h0 h9 rfl rfl rfl (fun p hp=>by
     obtain⟨xs,e1,e2⟩:=g1 p hp;obtain⟨its,rv,p1⟩:=I.sq e1
     exact⟨hL p hp,_,p1,by rw[yai,<-rv.length];exact e2⟩) hz hI hO ho hA
    (fun us h' tk gv=>by
     obtain⟨vs,e3,e4⟩:=gv.at p hp;rw[zdm.inj e3 p1,yai,<-rv.length,<-e2]at e4
     exact absurd e4 (yaQ _)) (fun _ h' e tk hk he'=>?_)) (F.args_zip_next_1 _))))
  obtain⟨o,ho,hcl⟩:=he';refine yaa (yck (T:="StopIteration") (b:=true) ⟨o,ho,hcl⟩ isSubtype_stop ?_);refine yah ⟨rfl,I.turnedL (ch:=zFp a L.length) (fun b o hb q=>?_) hf⟩;exact hk b o (zgY hb) q
 self:=fun _ _ _ _ _ st h=>wpAny_pyIter_zip st.1 h
theorem zms:bootBuiltins "zip"=some (.type "zip"):=by decide +kernel
def zoY{elts:List Expr}{x1:Nat}{tp:Pos}{s1:Shared}{H1:Hp}{L:List (Bool×Nat)}{R:It->Hp->Prop}{vs:List Value}(I1:Inv X pins σ H1 s1)(hv:vs=L.map fun p=>.ref p.2)(h0:L≠[])(h9:L.length<=9)(c1:checkTypeCall "zip" ⟨vs,[]⟩=pure ())(c2:checkBuiltinCall "zip.__new__" ⟨.type "zip" :: vs,[]⟩=pure ())(c3:∀obj,argsOk "object.__init__" ⟨obj::vs,[]⟩)
  (hq:∀p∈L,∃xs,SqB p.1 H1 p.2 xs) (q:R (ItZ L) H1):
  wpAny (model X.prog X.w) X.A (call (.type "zip") vs) (fun v s2=>wpAny (model X.prog X.w) X.A (pyIter v) (PIE X pins σ (.Tuple elts x1 tp) R) X.xe s2) X.xe s1:=by
 subst hv
 have hs:∀p∈L,∃vs,zdm p.1 s1.heap p.2 vs:=fun p hp=>by
  obtain⟨xs,e⟩:=hq p hp;obtain⟨its,_,p1⟩:=I1.sq e;exact⟨_,p1⟩
 refine callType_new F.called_zip (by decide) c1 c2 c3 F.entry_zip_new (zkc h9) ⟨hs,fun h' n hn hk za hI hO hz=>?_⟩;refine⟨⟨_,hz,rfl⟩,wpAny_pyIter_zip hz ?_⟩;refine⟨n+L.length+2,zFp n L.length,_,_,H1,rfl,I1.kept (t':=s1.toks) hk,zld L n h0 h9 (fun p hp=>?_),⟨hz,hI,hO,za⟩,fun c hb=>?_,q⟩
 ·obtain⟨vs,e⟩:=hs p hp;rw[hn]
  revert e
  cases p.1 with
  |true=>intro e;obtain⟨o,ho,_⟩:=e;exact yaq ho|false=>intro e;obtain⟨o,ho,_⟩:=e;exact yaq ho
 ·have hc:s1.heap.objs.size<=c:=hn ▸ (zcg.mp hb).1;exact I1.fpOk hc (I1.hok.fresh hc)
end
end L2
namespace S2
open PySem PySem.Spec PyProof.Rows L2
section
variable{X:Cx}{cl:Cf}{E:St->XK}{e tg:Expr}{f:Fe}{own:Bool}{pos pos':Pos}
noncomputable def zw3:List D->Option D|[.int i,.int j]=>some (.int (if j > i then j else i))|_=>none
noncomputable def zuL:List D->Option D|[.int i,.int j]=>some (.int (if j<i then j else i))|_=>none
noncomputable def zdl(l:List D):List D:=l.zipIdx.map fun p=>.tup [.int p.2,p.1]
def zkD(l:List D):(zdl l).length=l.length:=by unfold zdl;rw[yaf,List.length_zipIdx]
def zgH{l:List D}{i:Nat}{d:D}(h:(zdl l)[i]?=some d):∃y,l[i]?=some y/\d=.tup [.int i,y]:=by
 unfold zdl at h;rw[yar,List.getElem?_zipIdx]at h
 cases hl:l[i]? with
 |none=>rw[hl]at h;cases h|some y=>
  rw[hl]at h;refine⟨y,rfl,?_⟩;have:=Option.some.inj h;rw[<-this];simp
def zkF(f:Fe):Fi:=fun ρ S=>(zaj [f] ρ S).bind fun ds S1=>match ds with|[.lst l]=>.ok (zdl l) S1|[.tup l]=>.ok (zdl l) S1|_=>.bad
theorem zmR{S:Hp->Addr->List V->Prop}{w:Wd}{a:Addr}{xs:List V}{l:List D}(hS:∀w',Fut w w'->S w'.H a xs)(r:Shds cl w xs l):ItOk cl w (ItE S a) (zdl l):=by
 have hl:=r.length;have hel:=zkD l;refine⟨fun w1 F1 i hi=>⟨xs,xs[i]'(by omega),hS w1 F1,yad (by omega)⟩,fun w1 F1=>⟨xs,hS w1 F1,by omega⟩,fun w1 F1 i d x H1 hd y=>?_⟩;obtain⟨t,v,rfl,ht,rfl,hy⟩:=y;obtain⟨z,hz,rfl⟩:=zgH hd;have hv:=hy xs (hS w1 F1);obtain⟨d',e1,e2⟩:=r.get hv;rw[hz]at e1;cases e1;exact⟨w1.add t _,rfl,zar ht _,Shd.newT ht (.cons (.int _) (.cons (e2.up F1) .nil))⟩
def znw{es:List Expr}{kk:Nat}{tp p:Pos}(hg:Gl X "enumerate")(hm:X.mg "enumerate"=none)(ha:PA X [e] (tAs cl E [f]))(hs:starEach [e] X.env=[(false,eval e X.env)]):PI X (.Tuple es kk tp) (.Call (.Name "enumerate" p) [e] [] pos) (tI cl E (zkF f)):=by
 intro pins s σ H R' I q;obtain⟨B,w,ρ,S,rfl,R,q⟩:=q;unfold zkF at q;have L:=zlD (elts:=es) (x1:=kk) (tp:=tp) (p:=p) (pos:=pos) hg hm ha rfl hs pins s σ w.H R' I;have T:=zlC (elts:=es) (x1:=kk) (tp:=tp) (p:=p) (pos:=pos) hg hm ha rfl hs pins s σ w.H R' I
 cases hf:zaj [f] ρ S with
 |bad=>rw[hf]at q;exact q.elim|exc c S1=>
  refine L ⟨B,w,ρ,S,rfl,R,?_⟩;rw[hf]at q ⊢;exact q
 |ok ds S1=>
  rw[hf]at q;dsimp only[Out.bind]at q;split at q
  ·rename_i l' S' hm';split at hm'
   ·rename_i l;cases hm';refine L ⟨B,w,ρ,S,rfl,R,?_⟩;rw[hf];intro vs w' R2 F2 sh
    cases sh with
    |cons h1 h2=>
     cases h2
     cases h1 with
     |lst ep k r=>exact⟨_,rfl,⟨_,SqL.of ep⟩,q _ w' R2 F2 (zmR (fun w1 F1=>SqL.of (F1.keep _ _ ep k).1) r)⟩
   ·rename_i l;cases hm';refine T ⟨B,w,ρ,S,rfl,R,?_⟩;rw[hf];intro vs w' R2 F2 sh
    cases sh with
    |cons h1 h2=>
     cases h2
     cases h1 with
     |tup ep k r=>exact⟨_,rfl,⟨_,SqT.of ep⟩,q _ w' R2 F2 (zmR (fun w1 F1=>SqT.of (F1.keep _ _ ep k).1) r)⟩
   ·cases hm'
  ·rename_i hm';split at hm'<;>cases hm'
  ·exact q.elim
noncomputable def ze4:List D->List D->List D
 |x::xs,y::ys=>.tup [x,y]::ze4 xs ys|_,_=>[]
theorem zeb:∀(xs ys:List D),(ze4 xs ys).length=min xs.length ys.length
 |[],_=>by simp[ze4]
 |_::_,[]=>by simp[ze4]
 |_::xs,_::ys=>by simp[ze4,zeb xs ys]
theorem zfo:∀{xs ys:List D}{i:Nat}{d:D},(ze4 xs ys)[i]?=some d->∃x y,xs[i]?=some x/\ys[i]?=some y/\d=.tup [x,y]
 |[],_,_,_,h=>by simp[ze4]at h
 |_::_,[],_,_,h=>by simp[ze4]at h
 |x::xs,y::ys,0,d,h=>by
  simp only[ze4,List.getElem?_cons_zero,Option.some.injEq]at h;exact⟨x,y,rfl,rfl,h.symm⟩
 |x::xs,y::ys,i+1,d,h=>by
  simp only[ze4,List.getElem?_cons_succ]at h ⊢;exact zfo h
noncomputable def zpz:D->Option (List D)|.lst l=>some l|.tup l=>some l|_=>none
def zq9(f g:Fe):Fi:=fun ρ S=>(zaj [f,g] ρ S).bind fun ds S1=>match ds with|[x,y]=>(match zpz x,zpz y with|some l,some k=>.ok (ze4 l k) S1|_,_=>.bad)|_=>.bad
theorem zqS{b1 b2:Bool}{w:Wd}{l1 l2:Addr}{xs ys:List V}{ds es:List D}(h1:∀w',Fut w w'->SqB b1 w'.H l1 xs)(h2:∀w',Fut w w'->SqB b2 w'.H l2 ys)(r1:Shds cl w xs ds)(r2:Shds cl w ys es):ItOk cl w (ItZ [(b1,l1),(b2,l2)]) (ze4 ds es):=by
 have e1:=r1.length;have e2:=r2.length;have el:=zeb ds es;refine⟨fun w1 F1 i hi=>⟨[xs[i]'(by omega),ys[i]'(by omega)],⟨xs,h1 w1 F1,yad (by omega)⟩,⟨ys,h2 w1 F1,yad (by omega)⟩,trivial⟩,fun w1 F1=>⟨fun p hp=>?_,?_⟩,fun w1 F1 i d x H1 hd y=>?_⟩
 ·simp only[yav,yaL,yb4]at hp
  rcases hp with rfl|rfl
  ·exact⟨xs,h1 w1 F1,by omega⟩
  ·exact⟨ys,h2 w1 F1,by omega⟩
 ·by_cases h:ds.length<=es.length
  ·exact⟨_,.head _,xs,h1 w1 F1,by omega⟩
  ·exact⟨_,.tail _ (.head _),ys,h2 w1 F1,by omega⟩
 obtain⟨t,vs,rfl,ht,rfl,gd⟩:=y;obtain⟨z1,z2,hz1,hz2,rfl⟩:=zfo hd
 match vs,gd with
 |[v1,v2],⟨⟨xs',g1,hx⟩,⟨ys',g2,hy⟩,_⟩=>
  cases SqB.inj g1 (h1 w1 F1);cases SqB.inj g2 (h2 w1 F1);obtain⟨d1,q1,s1⟩:=r1.get hx;obtain⟨d2,q2,s2⟩:=r2.get hy;rw[hz1]at q1;cases q1;rw[hz2]at q2;cases q2;exact⟨w1.add t _,rfl,zar ht _,Shd.newT ht (.cons (s1.up F1) (.cons (s2.up F1) .nil))⟩
def zhU{w:Wd}{v:V}{d:D}{l:List D}(h:Shd cl w v d)(e:zpz d=some l):∃(b:Bool) (a:Addr) (xs:List V),v=.ref a/\(∀w',Fut w w'->SqB b w'.H a xs)/\Shds cl w xs l:=by
 cases h with
 |lst ep k r=>cases e;exact⟨true,_,_,rfl,fun w1 F1=>(F1.keep _ _ ep k).1,r⟩|tup ep k r=>cases e;exact⟨false,_,_,rfl,fun w1 F1=>(F1.keep _ _ ep k).1,r⟩|_=>cases e
theorem zf4:∀{L:List (Bool×Nat)}{us:List Value},Vals (L.map fun p=>V.ref p.2) us->us=L.map fun p=>.ref p.2
 |[],_,r=>by cases r;rfl
 |p::L,_,r=>by
  rw[yaA]at r
  cases r with
  |cons h t=>cases h;rw[zf4 t];rfl
def znu{a:Expr}{as:List Expr}{fs:List Fe}{F:List D->Sto->Out (List D)}{n:Nat}{es:List Expr}{kk:Nat}{tp p:Pos}(hg:Gl X "zip")(hm:X.mg "zip"=none)(ha:PA X (a::as) (tAs cl E fs))(hs:starEach (a::as) X.env=(false,eval a X.env)::starEach as X.env)(hs2:(backTo pos (starEach as X.env)).any (·.1)=false)
  (hc:∀us:List Value,us.length=n->checkTypeCall "zip" ⟨us,[]⟩=pure ()/\checkBuiltinCall "zip.__new__" ⟨.type "zip" :: us,[]⟩=pure ()/\∀obj,argsOk "object.__init__" ⟨obj::us,[]⟩) (hn:0<n/\n<=9)
  (hF:∀ds S1 (w:Wd) vs,Shds cl w vs ds->F ds S1=.bad\/∃l L,F ds S1=.ok l S1/\L.length=n/\vs=L.map (fun p=>V.ref p.2)/\(∀p∈L,∃xs,SqB p.1 w.H p.2 xs)/\ItOk cl w (ItZ L) l):
  PI X (.Tuple es kk tp) (.Call (.Name "zip" p) (a::as) [] pos) (tI cl E (fun ρ S=>(zaj fs ρ S).bind F)):=by
 intro pins s σ H R' I q;refine Call_ (zdZ I hg hm L2.zms (ya1 (thn (ha pos pins s σ H (fun vs H1=>∃L,L.length=n/\vs=L.map (fun p=>V.ref p.2)/\(∀p∈L,∃xs,SqB p.1 H1 p.2 xs)/\R' (ItZ L) H1) I ?_) fun us s1 ⟨vs,H1,I1,r1,q1⟩=>?_) hs hs2))
 ·obtain⟨B,w,ρ,S,rfl,R,q⟩:=q;refine⟨B,w,ρ,S,rfl,R,?_⟩;dsimp only at q
  cases hf:zaj fs ρ S with
  |bad=>rw[hf]at q;exact q.elim|exc c S1=>rwa[hf]at q|ok ds S1=>
   rw[hf]at q;dsimp only[Out.bind]at q;intro vs w' R2 F2 sh
   rcases hF ds S1 w' vs sh with e|⟨l,L,e,e1,e2,e3,e4⟩
   ·rw[e]at q;exact q.elim
   ·rw[e]at q;exact⟨L,e1,e2,e3,q _ w' R2 F2 e4⟩
 ·obtain⟨L,e1,rfl,e3,q⟩:=q1;have e:=zf4 r1;have c:=hc us (by rw[e,yaf,e1]);exact zoY I1 e (fun z=>by rw[z]at e1;exact absurd hn.1 (by rw[<-e1];exact yaQ _)) (e1 ▸ hn.2) c.1 c.2.1 c.2.2 e3 q
def zpr{a:Expr}{fa:Fe}{es:List Expr}{kk:Nat}{tp p:Pos}(hg:Gl X "zip")(hm:X.mg "zip"=none)(ha:PA X [a,e] (tAs cl E [fa,f]))(hs:starEach [a,e] X.env=(false,eval a X.env)::starEach [e] X.env)(hs2:(backTo pos (starEach [e] X.env)).any (·.1)=false):PI X (.Tuple es kk tp) (.Call (.Name "zip" p) [a,e] [] pos) (tI cl E (zq9 fa f)):=
 znu (n:=2) hg hm ha hs hs2 (fun us hu=>match us,hu with|[a,b],_=>⟨F.typeCall_zip_2 a b,F.newCall_zip_2 a b,fun o=>F.args_object_init_3 o a b⟩) (by decide) fun ds S1 w vs sh=>by
  split
  ·rename_i x y;split
   ·rename_i l k hl hk
    cases sh with
    |cons h1 h2=>
     cases h2 with
     |cons h2 h3=>
      cases h3;obtain⟨b1,a1,xs,rfl,p1,r1⟩:=zhU h1 hl;obtain⟨b2,a2,ys,rfl,p2,r2⟩:=zhU h2 hk;refine .inr ⟨_,[(b1,a1),(b2,a2)],rfl,rfl,rfl,fun p hp=>?_,zqS p1 p2 r1 r2⟩;simp only[yav,yaL,yb4]at hp
      rcases hp with rfl|rfl
      ·exact⟨xs,p1 _ (Fut.refl _)⟩
      ·exact⟨ys,p2 _ (Fut.refl _)⟩
   ·exact .inl rfl
  ·exact .inl rfl
noncomputable def zlb:List D->List D->List D->List D
 |x::xs,y::ys,z::zs=>.tup [x,y,z]::zlb xs ys zs|_,_,_=>[]
def zq8(f g h:Fe):Fi:=fun ρ S=>(zaj [f,g,h] ρ S).bind fun ds S1=>match ds with|[.tup l,.tup k,.tup m]=>if k.length=l.length/\m.length=l.length then .ok (zlb l k m) S1 else .bad|_=>.bad
noncomputable def zjB(j c:Int):List D:=(List.range ((j+c-1) / c).toNat).map fun(i:Nat)=>.int (i*c)
def zra(f g h:Fe):Fi:=fun ρ S=>(zaj [f,g,h] ρ S).bind fun ds S1=>match ds with|[.int i,.int j,.int c]=>if i=0/\0<=j/\j<=1000/\1<=c/\c<=1000 then .ok (zjB j c) S1 else .bad|_=>.bad
def zpQ(i:Nat)(fe:Fe):Fs:=fun ρ S=>match ρ[i]? with
 |some (some (true,.lst l))=>(match fe ρ S with
  |.ok (.lst k) S'=>if zaL (l.length+k.length)then .nx (ρ.set i (some (true,.lst (l++k)))) S' else .bad
  |.ok _ _=>.bad|.exc c S'=>.ex c ρ S'|.bad=>.bad)
 |_=>.bad
def zpm{i:Nat}{x:Str}{ap cp:Pos}(hN:X.N[i]?=some x)(hv:Vis X.env.scope x)(hd:(x==("__debug__":Str))=false)(hcd:(x==("__classdict__":Str))=false)(he:PE X e (tH cl E f))
  (hpl:zb2 e=true) (hln:(ap.endLine==cp.line)=true):PS X (.Expr (.Call (.Attribute (.Name x pos') "extend" ap) [e] [] cp) pos) (tS cl E own (zpQ i f)):=by
 refine PS.imp (zhh (zn0 (es:=[]) yb3 PySem.F.slot_list_extend PySem.F.type_list_extend zj6 (zbQ hN hv hd hcd) (zb7 he zdX (zbr hpl)) (hfew:=zkB (by simp[hpl]) (by simp)) (hline:=hln) (hs:=zbr hpl) (hplain:=rfl))) ?_;rintro De σ H ⟨B,w,ρ,S,rfl,R,q⟩;unfold zpQ at q;split at q
 ·rename_i l hl;obtain⟨a,xs,e1,h1,h2,t⟩:=R.list hl;refine⟨_,e1,.inl ⟨rfl,_,SqL.of h2⟩,B,w,ρ,S,rfl,R,?_⟩
  cases hf:f ρ S with
  |bad=>rwa[hf]at q|exc c S1=>rw[hf]at q;exact fun w' R' F'=>q σ w' R' F'|ok d S1=>
   rw[hf]at q;intro v w' R' F' h'
   cases d with
   |lst k=>
    dsimp only at q
    cases hz:zaL (l.length+k.length)with
    |false=>rw[hz,if_neg (by decide)]at q;exact q.elim
    |true=>
     rw[hz,if_pos rfl]at q;obtain⟨a',xs',e1',h1',h2',t'⟩:=R'.list hl;rw[e1]at e1';cases e1';obtain⟨b,zs,rfl,eb,rb⟩:=(h'.top R').lstI;refine⟨a,b,xs',zs,rfl,rfl,h2',eb,by rw[t'.length,rb.length];exact zaO hz,?_⟩;exact q σ (w'.mut a (.lst (xs'++zs))) (R'.mut (d0:=.non) e1 h1' (.lst (t'.append rb))) (F'.trans (zdc (by rw[h1'];exact yaI _)))
   |_=>exact q.elim
 ·exact q.elim
end
section
variable{X:Cx}{cl:Cf}{E:St->XK}{e:Expr}{f:Fe}{pos':Pos}
def eMt(g:List D->D->Option D)(i:Nat)(f:Fe):Fe:=fun ρ S=>match ρ[i]? with|some (some (_,.lst l))=>(f ρ S).bind fun d S1=>Out.of (g l d) S1|_=>.bad
def zeQ(l:List D)(d:D):Option D:=if d.fit 8&&D.fits 8 l then some (.int ((l.countP (zfa · d):Nat):Int))else none
def zeG(l:List D)(d:D):Option D:=if d.fit 8&&D.fits 8 l&&decide (l.length<=1000000)&&zk6 d l then some (.int ((l.findIdx (zfa · d):Nat):Int))else none
def Rel.lstAny{B:Base}{σ:St}{w:Wd}{ρ:Env}{S:Sto}{i:Nat}{o:Bool}{l:List D}(R:Rel cl B σ w ρ S)(h:ρ[i]?=some (some (o,.lst l))):∃a xs,σ[i]?=some (some (.ref a))/\w.H a=some (.lst xs)/\Shds cl w xs l:=by
 cases o with
 |true=>obtain⟨a,xs,e1,_,h2,t⟩:=R.list h;exact⟨a,xs,e1,h2,t⟩|false=>
  obtain⟨v,e1,sh⟩:=R.slots i false _ h
  cases sh with
  |lst ep k r=>exact⟨_,_,e1,ep,r⟩
noncomputable def MtB(X:Cx)(cl:Cf)(id:String)(g:List D->D->Option D):Prop:=MtM X id fun x vs H Q=>∃(a:Addr) (xs:List V) (l:List D) (w:Wd) (d:D) (v:V) (r:Int),w.H=H/\x=.ref a/\vs=[v]/\w.H a=some (.lst xs)/\Shds cl w xs l/\TopV cl w v d/\g l d=some (.int r)/\Q (.int r) H
theorem zd4{s:Shared}{d:D}:∀{its:List Value}{ds:List D}{as:List Addr},ReadsAll s.heap its (D.pys ds) as->D.fits 8 ds=true->its.countP (fun y=>(SeqAt.readOf s.heap y).eqv d.py)=ds.countP (zfa · d)
 |[],[],_,_,_=>rfl|[],_::_,_,h,_=>by cases h
 |_::_,[],_,h,_=>by cases h
 |v::its,e::ds,_,h,f=>by
  simp only[D.fits,yac]at f
  cases h with
  |cons h1 h2=>
   rw[List.countP_cons,List.countP_cons,zd4 h2 f.2,zhg (D.lay f.1).1 h1];rfl
theorem zdO{s:Shared}{d:D}:∀{its:List Value}{ds:List D}{as:List Addr},ReadsAll s.heap its (D.pys ds) as->D.fits 8 ds=true->∀(m:Nat) (hm:m<its.length),∃e,ds[m]?=some e/\(SeqAt.readOf s.heap its[m]).eqv d.py=zfa e d
 |[],_,_,_,_,m,hm=>by simp at hm
 |_::_,[],_,h,_,_,_=>by cases h
 |v::its,e::ds,_,h,f,m,hm=>by
  simp only[D.fits,yac]at f
  cases h with
  |cons h1 h2=>
   cases m with
   |zero=>exact⟨e,rfl,by show(SeqAt.readOf s.heap v).eqv d.py=_;rw[zhg (D.lay f.1).1 h1];rfl⟩
   |succ m=>
    obtain⟨e',h3,h4⟩:=zdO h2 f.2 m (by simpa using hm);exact⟨e',by simpa using h3,by simpa using h4⟩
theorem ze9{s:Shared}:∀{its:List Value}{ds:List D}{as:List Addr},ReadsAll s.heap its (D.pys ds) as->its.length=ds.length
 |[],[],_,_=>rfl|[],_::_,_,h=>by cases h
 |_::_,[],_,h=>by cases h
 |_::its,_::ds,_,h=>by
  cases h with
  |cons _ h2=>rw[yae,yae,ze9 h2]
def zlS(hK:X.K=cl.K)(hu:X.A.units+64<cLine):MtB X cl "list.count" zeQ:=by
 intro pins s σ H x vs v us Q I rx rv h;obtain⟨a,xs,l,w,d,v',r,rfl,rfl,rfl,hH,sh,tv,hg,q⟩:=h;unfold zeQ at hg;split at hg
 ·rename_i hf;cases hg;rw[yac]at hf;cases rx;obtain⟨u,rfl,ru⟩:=rv.one;obtain⟨bs,rb⟩:=zgl I hK tv hf.1 ru;obtain⟨z,its,n,r,hl,e⟩:=I.lstM hH;obtain⟨as,ra⟩:=zc3 I hK sh hf.2 r;refine ycc F.slot_list_count ⟨_,e,rfl⟩ F.entry_list_count (F.args_list_count_2 _ _) (SeqAt.list_countAt a _ n none #[] u (fun y=>(SeqAt.readOf s.heap y).eqv d.py)) ⟨e,fun y hy=>zbR hu rb hf.1 ra hf.2 y hy,?_⟩;rw[zd4 ra hf.2];exact⟨.int _,w.H,I.tok _,⟨_,rfl⟩,q⟩
 ·cases hg
theorem zlR(hK:X.K=cl.K)(hu:X.A.units+64<cLine):MtB X cl "list.index" zeG:=by
 intro pins s σ H x vs v us Q I rx rv h;obtain⟨a,xs,l,w,d,v',r,rfl,rfl,rfl,hH,sh,tv,hg,q⟩:=h;unfold zeG at hg;split at hg
 ·rename_i hf;cases hg;simp only[yac,ybp]at hf;obtain⟨⟨⟨f1,f2⟩,f3⟩,f4⟩:=hf;cases rx;obtain⟨u,rfl,ru⟩:=rv.one;obtain⟨bs,rb⟩:=zgl I hK tv f1 ru;obtain⟨z,its,n,r,hl,e⟩:=I.lstM hH;obtain⟨as,ra⟩:=zc3 I hK sh f2 r;have hlen:=ze9 ra
  have hlt:l.findIdx (zfa · d)<l.length:=by
   rw[List.findIdx_lt_length];unfold zk6 at f4;rwa[List.any_eq_true]at f4
  refine ycc F.slot_list_index ⟨_,e,rfl⟩ F.entry_list_index (F.args_list_index_2 _ _) (SeqAt.list_indexAt a _ n none #[] u (fun y=>(SeqAt.readOf s.heap y).eqv d.py) (l.findIdx (zfa · d)) (by rw[yai];omega) (by omega) ?_ ?_) ⟨e,fun y hy=>zbR hu rb f1 ra f2 y hy,?_⟩
  ·obtain⟨e',h1,h2⟩:=zdO (d:=d) ra f2 (l.findIdx (zfa · d)) (by omega);simp only[List.getElem_toArray];rw[h2];rw[yad hlt]at h1;cases h1;exact List.findIdx_getElem (w:=hlt)
  ·intro m hm hmj
   have lm:m<its.length:=by rwa[yai]at hm
   obtain⟨e',h1,h2⟩:=zdO (d:=d) ra f2 m lm;simp only[List.getElem_toArray];rw[h2];rw[yad (by omega)]at h1;cases h1;exact List.not_of_lt_findIdx hmj
  ·exact⟨.int _,w.H,I.tok _,⟨_,rfl⟩,q⟩
 ·cases hg
def zpE{i:Nat}{x name:Str}{id:String}{g:List D->D->Option D}{ap cp:Pos}(slot:Slot "list" name id)(hty:typeOf (.builtin id)=pure (.type "method_descriptor"))(hm:MtB X cl id g)(hgb:∀l d r,g l d=some r->∃n,r=.int n)
  (hN:X.N[i]?=some x) (hv:Vis X.env.scope x) (hd:(x==("__debug__":Str))=false) (hcd:(x==("__classdict__":Str))=false) (he:PE X e (tH cl E f)) (hpl:zb2 e=true) (hln:(ap.endLine==cp.line)=true):
  PE X (.Call (.Attribute (.Name x pos') name ap) [e] [] cp) (tE cl E (eMt g i f)):=by
 refine PE.imp (zn0 (es:=[]) yb3 slot hty hm (zbQ hN hv hd hcd) (zjv he zmG (zbr hpl)) (hfew:=zkB (by simp[hpl]) (by simp)) (hline:=hln) (hs:=zbr hpl) (hplain:=rfl)) ?_;rintro σ H Q ⟨B,w,ρ,S,rfl,R,q⟩
 have key:(∃o l,ρ[i]?=some (some (o,.lst l)))\/eMt g i f ρ S=.bad:=by
  unfold eMt;split
  ·rename_i o l hl;exact .inl ⟨o,l,hl⟩
  ·exact .inr rfl
 rcases key with⟨o,l,hl⟩|hb
 ·have e':eMt g i f ρ S=(f ρ S).bind fun d S1=>Out.of (g l d) S1:=by unfold eMt;rw[hl]
  rw[e']at q;obtain⟨a,xs,e1,h2,t⟩:=R.lstAny hl;refine⟨_,e1,.inl ⟨rfl,_,SqL.of h2⟩,B,w,ρ,S,rfl,R,?_⟩
  cases hf:f ρ S with
  |bad=>rw[hf]at q;exact q.elim|exc c S1=>
   rw[hf]at q;simp only[zaj,hf,Out.bind];exact q
  |ok d S1=>
   rw[hf]at q;simp only[zaj,hf,Out.bind];intro vs w' R' F' sh;dsimp only[Out.bind]at q
   cases hg:g l d with
   |none=>rw[hg]at q;exact q.elim|some r=>
    rw[hg]at q;obtain⟨n,rfl⟩:=hgb l d r hg;obtain⟨a',xs',e1',h2',t'⟩:=R'.lstAny hl;rw[e1]at e1';cases e1'
    cases sh with
    |cons h1 hn=>
     cases hn;exact⟨a,xs',l,w',d,_,n,rfl,rfl,rfl,h2',t',h1.top R',hg,q _ w' R' F' (.int _)⟩
 ·rw[hb]at q;exact q.elim
end
noncomputable def zkn(g:Str->Str->Option Bool)(C:Str):D->Option D
 |.exc c=>(g c C).map .bl|_=>none
noncomputable def zrj(cl:Cf)(C:Str):Value:=if C="ValueError"then .type "ValueError"else .ref (cl C)
section
variable{X:Cx}{cl:Cf}{E:St->XK}{own:Bool}{e:Expr}{f fe:Fe}{pos pos':Pos}
def Shd.excI{w:Wd}{v:V}{c:Str}(h:Shd cl w v (.exc c)):∃a ob,v=.ref a/\w.H a=some (.frz ob (.own a))/\ob.cls=.ref (cl c):=by
 cases h with
 |exc h1 _ h2=>exact⟨_,_,rfl,h1,h2⟩
theorem TopV.excI{w:Wd}{v:V}{c:Str}(h:TopV cl w v (.exc c)):∃a ob,v=.ref a/\w.H a=some (.frz ob (.own a))/\ob.cls=.ref (cl c):=by
 cases h with
 |sh h=>exact h.excI|ow _ t=>cases t
theorem zi7:bootBuiltins "ValueError"=some (.type "ValueError"):=by decide +kernel
def zmH{g:Str->Str->Option Bool}{C:Str}{vC:V}{p p2:Pos}(hg:Gl X "isinstance")(hm:X.mg "isinstance"=none)(hC:PE X (.Name C p2) (tC vC))(hv:∀u,zbs vC u->u=zrj cl C)
  (hk:∀c b,g c C=some b->PySem.W.ExcCls X.K (cl c)/\PySem.W.kitOne X.K (.ref (cl c)) (zrj cl C)=some b) (hp:zb2 e=true) (he:PE X e (tH cl E f)):
  PE X (.Call (.Name "isinstance" p) [e,.Name C p2] [] pos) (tE cl E (eUn (zkn g C) f)):=by
 refine PE.imp (zdo zi6 hg hm zgO (zb7 he (zb7 hC zdX rfl) (zbr hp)) (he:=zbr hp) (hpl:=rfl)) ?_;rintro σ H Q ⟨B,w,ρ,S,rfl,R,q⟩;refine⟨B,w,ρ,S,rfl,R,?_⟩;unfold eUn at q
 cases hf:f ρ S with
 |bad=>rwa[hf]at q|exc c S1=>rwa[hf]at q|ok d S1=>
  rw[hf]at q;intro v w1 R1 F1 h1;dsimp only[Out.bind]at q
  cases d with
  |exc c=>
   dsimp only[zkn]at q
   cases hb:g c C with
   |none=>rw[hb]at q;exact q.elim|some b=>
    rw[hb]at q;obtain⟨k1,k2⟩:=hk c b hb;obtain⟨a,ob,rfl,h2,h3⟩:=(h1.top R1).excI;exact⟨a,_,ob,vC,_,b,rfl,h2,h3,k1,hv,k2,q _ w1 R1 F1 (.bl _)⟩
  |_=>exact q.elim
noncomputable def zsV:D->D->Option D
 |.lst a,.int j=>if decide (0<=j/\j<=1000/\a.length<=1000)then some (.lst (List.replicate j.toNat a).flatten)else none
 |_,_=>none
def zpO(i:Nat)(fi fe:Fe):Fs:=fun ρ S=>match ρ[i]? with
 |some (some (true,.lst l))=>(match fe ρ S with
  |.ok d S1=>(match fi ρ S1 with
   |.ok (.int n) S2=>(match ixN l.length n with|some k=>.nx (ρ.set i (some (true,.lst (l.set k d)))) S2|none=>.bad)
   |.ok _ _=>.bad|.exc c S2=>.ex c ρ S2|.bad=>.bad)
  |.exc c S1=>.ex c ρ S1|.bad=>.bad)
 |_=>.bad
end
end S2
namespace PySem.F
end PySem.F
namespace L2
open PySem PySem.Spec PyProof.Rows
end L2
namespace PySem.F
end PySem.F
namespace L2
open PySem PySem.Spec PyProof.Rows
end L2
namespace S2
open PySem PySem.Spec PyProof.Rows L2
noncomputable def zaB(f:Str)(o:Bool)(d:D):List (Str×Bool×D)->List (Str×Bool×D)
 |[]=>[(f,o,d)]|(g,x)::r=>if g=f then(g,o,d)::r else(g,x)::zaB f o d r
def Ob.put(ob:Ob)(f:Str)(o:Bool)(d:D):Ob:=⟨ob.cls,zaB f o d ob.fs⟩
section
variable{cl:Cf}{w:Wd}{n:Nat}
def zc0.len{fs:List (Str×V)}{gs:List (Str×Bool×D)}(h:zc0 cl w n fs gs):fs.length=gs.length:=Paired.length h
def zc0.look{fs:List (Str×V)}{gs:List (Str×Bool×D)}(h:zc0 cl w n fs gs){f:Str}{o:Bool}{d:D}(e:gs.lookup f=some (o,d)):∃v,fs.lookup f=some v/\zhH cl w (.fld n f) o v d:=by
 induction h with
 |nil=>cases e| @cons p q l1 l2 h t ih=>
  obtain⟨h1,h2⟩:=h;obtain⟨g,v⟩:=p;obtain⟨g',o',d'⟩:=q;have h1':g=g':=h1;subst h1';rw[yax]at e ⊢
  cases hb:f==g with
  |true=>
   rw[hb]at e;cases e;have:=eq_of_beq hb;subst this;exact⟨v,rfl,h2⟩
  |false=>
   rw[hb]at e;exact ih e
def zc0.miss{fs:List (Str×V)}{gs:List (Str×Bool×D)}(h:zc0 cl w n fs gs){f:Str}(e:gs.lookup f=none):fs.lookup f=none:=by
 induction h with
 |nil=>rfl| @cons p q l1 l2 h t ih=>
  obtain⟨h1,h2⟩:=h;obtain⟨g,v⟩:=p;obtain⟨g',o',d'⟩:=q;have h1':g=g':=h1;subst h1';rw[yax]at e ⊢
  cases hb:f==g with
  |true=>rw[hb]at e;cases e|false=>rw[hb]at e;exact ih e
def zc0.put{fs:List (Str×V)}{gs:List (Str×Bool×D)}{f:Str}{o:Bool}{d:D}{y:V}(h:zc0 cl w n fs gs)(hy:zhH cl w (.fld n f) o y d):zc0 cl w n (zc8 f y fs) (zaB f o d gs):=by
 induction h with
 |nil=>exact .cons ⟨rfl,hy⟩ .nil| @cons p q l1 l2 h t ih=>
  obtain⟨h1,h2⟩:=h;obtain⟨g,v⟩:=p;obtain⟨g',o',d'⟩:=q;have h1':g=g':=h1;subst h1';show zc0 cl w n (if g=f then(g,y)::l1 else(g,v)::zc8 f y l1) (if g=f then(g,o,d)::l2 else(g,o',d')::zaB f o d l2)
  by_cases hg:g=f
  ·subst hg;rw[if_pos rfl,if_pos rfl];exact .cons ⟨rfl,hy⟩ t
  ·rw[if_neg hg,if_neg hg];exact .cons ⟨rfl,h2⟩ ih
def zc0.keepBut{w':Wd}(f:Fut w w'){x:Str}(k:∀a o g,g≠x->w.H a=some o->w.ow a=some (.fld n g)->w'.H a=some o/\w'.ow a=some (.fld n g)){fs:List (Str×V)}{gs:List (Str×Bool×D)}(h:zc0 cl w n fs gs)(hn:∀q∈gs,q.1=x->q.2.1=false):zc0 cl w' n fs gs:=by
 induction h with
 |nil=>exact .nil| @cons p q l1 l2 h t ih=>
  obtain⟨h1,h2⟩:=h;refine .cons ⟨h1,?_⟩ (ih fun q hq=>hn q (yas _ hq))
  by_cases hx:q.1=x
  ·have ho:=hn q yaz hx;rw[ho]at h2 ⊢
   rcases h2 with⟨_,h2⟩|⟨e,_⟩
   ·exact .inl ⟨rfl,Shd.up f h2⟩
   ·cases e
  ·exact h2.keep f fun a o ha hr=>k a o q.1 hx ha hr
def zc0.keepF{w':Wd}(f:Fut w w')(k:∀a o g,w.H a=some o->w.ow a=some (.fld n g)->w'.H a=some o/\w'.ow a=some (.fld n g)){fs:List (Str×V)}{gs:List (Str×Bool×D)}(h:zc0 cl w n fs gs):zc0 cl w' n fs gs:=by
 induction h with
 |nil=>exact .nil| @cons p q l1 l2 h t ih=>exact .cons ⟨h.1,h.2.keep f fun a o ha hr=>k a o q.1 ha hr⟩ ih
variable{B:Base}{σ:St}{ρ:Env}{S:Sto}
def World'.atObj(W:World' cl B w S){ob:Ob}(h:S[n]?=some ob){a:Addr}(e:w.mu[n]?=some a):zrz cl w n a ob:=by
 obtain⟨a',e',x⟩:=W.obj n ob h;rw[e]at e';cases e';exact x
def zhp{S:Sto}{n m:Nat}{ob ob':Ob}(h:(S.set n ob)[m]?=some ob'):(m=n/\ob'=ob)\/(m≠n/\S[m]?=some ob'):=by
 by_cases e:n=m
 ·subst e
  have hlt:n<S.length:=by
   have:=(yaj.mp h).1;rwa[yaw]at this
  rw[yap hlt]at h;cases h;exact .inl ⟨rfl,rfl⟩
 ·rw[yaE e]at h;exact .inr ⟨fun z=>e z.symm,h⟩
def Rel.setf{a dx:Addr}{ob:Ob}{fs:List (Str×V)}{f:Str}{y:V}{d:D}(R:Rel cl B σ w ρ S)(hn:S[n]?=some ob)(hmu:w.mu[n]?=some a)(how:w.ow a=some (.obj n))(hH:w.H a=some (.ins (cl ob.cls) dx fs))(hF:zc0 cl w n fs ob.fs)(hy:Shd cl w y d):
  Rel cl B σ (w.mut a (.ins (cl ob.cls) dx (zc8 f y fs))) ρ (S.set n (ob.put f false d))/\Fut w (w.mut a (.ins (cl ob.cls) dx (zc8 f y fs))):=by
 have ff:=zdc (w:=w) (p:=a) (o:=.ins (cl ob.cls) dx (zc8 f y fs)) (by rw[how];exact yaI _)
 have kp:∀b u,w.H b=some u->w.ow b≠some (.obj n)->(w.mut a (.ins (cl ob.cls) dx (zc8 f y fs))).H b=some u/\(w.mut a (.ins (cl ob.cls) dx (zc8 f y fs))).ow b=w.ow b:=fun b u hb hne=>⟨by
  show upd w.H a _ b=_
  rw[zah (fun z=>hne (by rw[z];exact how))];exact hb,rfl⟩
 have hB:B.Fr a=none:=(R.wd.own a _ how).elim (fun z=>by cases z) fun z=>z
 refine⟨⟨⟨fun b u h=>?_,R.wd.own,by rw[yaw];exact R.wd.len,fun m ob' h=>?_⟩,R.len,fun i o e h=>?_⟩,ff⟩
 ·refine⟨?_,(R.wd.fr b u h).2⟩;show upd w.H a _ b=_;rw[zah (fun z=>by rw[z,hB]at h;cases h)];exact(R.wd.fr b u h).1
 ·rcases zhp h with⟨rfl,rfl⟩|⟨hne,h⟩
  ·refine⟨a,hmu,how,dx,_,zau,?_⟩;exact zc0.put (hF.keepF ff fun b u g hb hg=>⟨(kp b u hb (by rw[hg];exact fun z=>by cases z)).1,hg⟩) (.inl ⟨rfl,hy.up ff⟩)
  ·obtain⟨b,e,x⟩:=R.wd.obj m ob' h;exact⟨b,e,x.keep ff fun b u hb hm=>kp b u hb fun z=>by rw[z]at hm;exact hne hm.symm⟩
 ·obtain⟨v,e1,x⟩:=R.slots i o e h;exact⟨v,e1,x.keep ff fun b u hb hr=>⟨(kp b u hb (by rw[hr];exact fun z=>by cases z)).1,hr⟩⟩
def Wd.addF(w:Wd)(p:Addr)(o:HO)(n:Nat)(f:Str):Wd:=⟨upd w.H p o,fun b=>if b=p then some (.fld n f)else w.ow b,w.mu⟩
def Rel.newf{a dx p:Addr}{ob:Ob}{fs:List (Str×V)}{f:Str}(R:Rel cl B σ w ρ S)(hn:S[n]?=some ob)(hmu:w.mu[n]?=some a)(how:w.ow a=some (.obj n))(hH:w.H a=some (.ins (cl ob.cls) dx fs))(hF:zc0 cl w n fs ob.fs)(hp:w.H p=none):
  Rel cl B σ ((w.addF p (.ext (DN cl.P cl.wo p [])) n f).mut a (.ins (cl ob.cls) dx (zc8 f (.ref p) fs))) ρ (S.set n (ob.put f true (.dic [])))/\Fut w ((w.addF p (.ext (DN cl.P cl.wo p [])) n f).mut a (.ins (cl ob.cls) dx (zc8 f (.ref p) fs))):=by
 have hap:a≠p:=zao hH hp
 have kp:∀b u,w.H b=some u->w.ow b≠some (.obj n)->((w.addF p (.ext (DN cl.P cl.wo p [])) n f).mut a (.ins (cl ob.cls) dx (zc8 f (.ref p) fs))).H b=some u/\((w.addF p (.ext (DN cl.P cl.wo p [])) n f).mut a (.ins (cl ob.cls) dx (zc8 f (.ref p) fs))).ow b=w.ow b:=fun b u hb hne=>by
  have hbp:b≠p:=zao hb hp;refine⟨?_,?_⟩
  ·show upd (upd w.H p _) a _ b=_;rw[zah (fun z=>hne (by rw[z];exact how)),zah hbp];exact hb
  ·show(if b=p then _ else w.ow b)=_;rw[if_neg hbp]
 have ff:Fut w ((w.addF p (.ext (DN cl.P cl.wo p [])) n f).mut a (.ins (cl ob.cls) dx (zc8 f (.ref p) fs))):=⟨fun b u hb hk=>by
  have:=kp b u hb (by rw[hk];exact fun z=>by cases z)
  exact⟨this.1,this.2.trans hk⟩,fun _ _ h=>h⟩
 have hB:B.Fr a=none:=(R.wd.own a _ how).elim (fun z=>by cases z) fun z=>z
 have hBp:B.Fr p=none:=by
  cases z:B.Fr p with
  |none=>rfl|some u=>have:=(R.wd.fr p u z).1;rw[hp]at this;cases this
 have Hp:((w.addF p (.ext (DN cl.P cl.wo p [])) n f).mut a (.ins (cl ob.cls) dx (zc8 f (.ref p) fs))).H p=some (.ext (DN cl.P cl.wo p [])):=by
  show upd (upd w.H p _) a _ p=_;rw[zah hap.symm,zau]
 have owp:((w.addF p (.ext (DN cl.P cl.wo p [])) n f).mut a (.ins (cl ob.cls) dx (zc8 f (.ref p) fs))).ow p=some (.fld n f):=if_pos rfl
 have owa:((w.addF p (.ext (DN cl.P cl.wo p [])) n f).mut a (.ins (cl ob.cls) dx (zc8 f (.ref p) fs))).ow a=some (.obj n):=by
  show(if a=p then _ else w.ow a)=_;rw[if_neg hap];exact how
 refine⟨⟨⟨fun b u h=>?_,fun b r h=>?_,by rw[yaw];exact R.wd.len,fun m ob' h=>?_⟩,R.len,fun i o e h=>?_⟩,ff⟩
 ·have:=kp b u (R.wd.fr b u h).1 fun z=>by
   rcases R.wd.own b _ z with y|y
   ·cases y
   ·rw[h]at y;cases y
  exact⟨this.1,this.2.trans (R.wd.fr b u h).2⟩
 ·have h':(if b=p then some (Root.fld n f)else w.ow b)=some r:=h;split at h'
  ·rename_i z;rw[z];exact .inr hBp
  ·exact R.wd.own b r h'
 ·rcases zhp h with⟨rfl,rfl⟩|⟨hne,h⟩
  ·refine⟨a,hmu,owa,dx,_,zau,?_⟩;refine zc0.put (hF.keepF ff fun b u g hb hg=>?_) (.inr ⟨rfl,p,[],[],[],rfl,owp,Hp,.nil,.nil,rfl⟩);have:=kp b u hb (by rw[hg];exact fun z=>by cases z);exact⟨this.1,this.2.trans hg⟩
  ·obtain⟨b,e,x⟩:=R.wd.obj m ob' h;exact⟨b,e,x.keep ff fun b u hb hm=>kp b u hb fun z=>by rw[z]at hm;exact hne hm.symm⟩
 ·obtain⟨v,e1,x⟩:=R.slots i o e h
  exact⟨v,e1,x.keep ff fun b u hb hr=>by
   have:=kp b u hb (by rw[hr];exact fun z=>by cases z)
   exact⟨this.1,this.2.trans hr⟩⟩
noncomputable def zfc(ob:Ob):Bool:=decide (ob.fs.map (·.1)).Nodup
def zc0.dic{w':Wd}{a:Addr}{f:Str}{d:D}(ff:Fut w w')(k:∀b o g,g≠f->w.H b=some o->w.ow b=some (.fld n g)->w'.H b=some o/\w'.ow b=some (.fld n g))(hy:zhH cl w' (.fld n f) true (.ref a) d):∀{fs:List (Str×V)}{gs:List (Str×Bool×D)},zc0 cl w n fs gs->(gs.map (·.1)).Nodup->fs.lookup f=some (.ref a)->zc0 cl w' n fs (zaB f true d gs):=by
 intro fs gs h
 induction h with
 |nil=>intro _ e;cases e| @cons p q l1 l2 h t ih=>
  intro nd e;obtain⟨h1,h2⟩:=h;obtain⟨g,v⟩:=p;obtain⟨g',o',d'⟩:=q;have h1':g=g':=h1;subst h1';rw[yaA,ya7]at nd;show zc0 cl w' n ((g,v)::l1) (if g=f then(g,true,d)::l2 else(g,o',d')::zaB f true d l2);rw[yax]at e
  by_cases hg:g=f
  ·subst hg;rw[if_pos rfl];simp only[ybt]at e;cases e;refine .cons ⟨rfl,hy⟩ ?_;have t':zc0 cl w n l1 l2:=t;exact t'.keepBut ff k fun q hq hx=>absurd (yay.mpr ⟨q,hq,hx⟩) nd.1
  ·rw[if_neg hg];have hb:(f==g)=false:=yaY.mpr fun z=>hg z.symm
   rw[hb]at e;exact .cons ⟨rfl,h2.keep ff fun b o hb hr=>k b o g hg hb hr⟩ (ih nd.2 e)
def Rel.setd{a dx c:Addr}{ob:Ob}{fs:List (Str×V)}{f:Str}{xs:List (NK×Addr×Value)}{m:List (NK×V)}{ds:List (D×D)}{k:NK}{kb:Addr}{u:Value}{v:V}{d:D}(R:Rel cl B σ w ρ S)(hn:S[n]?=some ob)(hmu:w.mu[n]?=some a)(how:w.ow a=some (.obj n))(hH:w.H a=some (.ins (cl ob.cls) dx fs))(hF:zc0 cl w n fs ob.fs)
  (hl:fs.lookup f=some (.ref c)) (hc:w.ow c=some (.fld n f)) (hcH:w.H c=some (.ext (DN cl.P cl.wo c xs))) (he:ziw w xs m) (hs:ShdN cl w m ds) (hk:zk8 w kb k) (rv:zbs v u) (hv:Shd cl w v d) (nd:zfc ob=true):
  Rel cl B σ (w.mut c (.ext (DN cl.P cl.wo c (xs++[(k,kb,u)])))) ρ (S.set n (ob.put f true (.dic (ds++[(nkD k,d)]))))/\Fut w (w.mut c (.ext (DN cl.P cl.wo c (xs++[(k,kb,u)])))):=by
 have ff:=zdc (w:=w) (p:=c) (o:=.ext (DN cl.P cl.wo c (xs++[(k,kb,u)]))) (by rw[hc];exact yaI _)
 have kp:∀b o,w.H b=some o->w.ow b≠some (.fld n f)->(w.mut c (.ext (DN cl.P cl.wo c (xs++[(k,kb,u)])))).H b=some o/\(w.mut c (.ext (DN cl.P cl.wo c (xs++[(k,kb,u)])))).ow b=w.ow b:=fun b o hb hne=>⟨by
  show upd w.H c _ b=_
  rw[zah (fun z=>hne (by rw[z];exact hc))];exact hb,rfl⟩
 have hB:B.Fr c=none:=(R.wd.own c _ hc).elim (fun z=>by cases z) fun z=>z
 refine⟨⟨⟨fun b o h=>?_,R.wd.own,by rw[yaw];exact R.wd.len,fun m' ob' h=>?_⟩,R.len,fun i o e h=>?_⟩,ff⟩
 ·refine⟨?_,(R.wd.fr b o h).2⟩;show upd w.H c _ b=_;rw[zah (fun z=>by rw[z,hB]at h;cases h)];exact(R.wd.fr b o h).1
 ·rcases zhp h with⟨rfl,rfl⟩|⟨hne,h⟩
  ·refine⟨a,hmu,how,dx,fs,?_,?_⟩
   ·exact(kp a _ hH (by rw[how];exact fun z=>by cases z)).1
   ·refine zc0.dic (a:=c) ff (fun b o g hg hb hr=>?_) (.inr ⟨rfl,c,_,m++[(k,v)],ds++[(nkD k,d)],rfl,hc,zau,?_,?_,rfl⟩) hF (yak nd) hl
    ·exact⟨(kp b o hb (by rw[hr];exact fun z=>hg (by cases z;rfl))).1,hr⟩
    ·exact(he.up ff).snoc ⟨rfl,hk.up ff,rv⟩
    ·exact(hs.up ff).snoc (hv.up ff)
  ·obtain⟨b,e,x⟩:=R.wd.obj m' ob' h;exact⟨b,e,x.keep ff fun b o hb hm=>kp b o hb fun z=>by rw[z]at hm;exact hne hm.symm⟩
 ·obtain⟨v',e1,x⟩:=R.slots i o e h;exact⟨v',e1,x.keep ff fun b o hb hr=>⟨(kp b o hb (by rw[hr];exact fun z=>by cases z)).1,hr⟩⟩
def Wd.addO(w:Wd)(x dx C:Addr)(n:Nat):Wd:=⟨upd (upd w.H dx (.own x)) x (.ins C dx []),fun b=>if b=x then some (.obj n)else if b=dx then none else w.ow b,w.mu++[x]⟩
theorem Rel.made{x dx:Addr}{c:Str}(R:Rel cl B σ w ρ S)(hx:w.H x=none)(hdx:w.H dx=none)(ne:dx≠x):Rel cl B σ (w.addO x dx (cl c) S.length) ρ (S++[⟨c,[]⟩])/\Fut w (w.addO x dx (cl c) S.length):=by
 have kp:∀b o,w.H b=some o->(w.addO x dx (cl c) S.length).H b=some o/\(w.addO x dx (cl c) S.length).ow b=w.ow b:=fun b o hb=>by
  have n1:b≠x:=zao hb hx;have n2:b≠dx:=zao hb hdx;refine⟨?_,?_⟩
  ·show upd (upd w.H dx _) x _ b=_;rw[zah n1,zah n2];exact hb
  ·show(if b=x then _ else if b=dx then _ else w.ow b)=_;rw[if_neg n1,if_neg n2]
 have ff:Fut w (w.addO x dx (cl c) S.length):=⟨fun b o hb hk=>⟨(kp b o hb).1,(kp b o hb).2.trans hk⟩,fun n a h=>by
  show(w.mu++[x])[n]?=some a
  rw[yaC (yaj.mp h).1];exact h⟩
 have hBx:B.Fr x=none:=by
  cases z:B.Fr x with
  |none=>rfl|some u=>have:=(R.wd.fr x u z).1;rw[hx]at this;cases this
 refine⟨⟨⟨fun b o h=>?_,fun b r h=>?_,by show(w.mu++[x]).length=_;rw[yao,yao,R.wd.len];rfl,fun m ob h=>?_⟩,R.len,fun i o e h=>?_⟩,ff⟩
 ·have:=kp b o (R.wd.fr b o h).1;exact⟨this.1,this.2.trans (R.wd.fr b o h).2⟩
 ·have h':(if b=x then some (Root.obj S.length)else if b=dx then none else w.ow b)=some r:=h;split at h'
  ·rename_i z;rw[z];exact .inr hBx
  ·split at h'
   ·cases h'
   ·exact R.wd.own b r h'
 ·by_cases hm:m<S.length
  ·rw[yaC hm]at h;obtain⟨b,e,y⟩:=R.wd.obj m ob h;exact⟨b,ff.mu _ _ e,y.keep ff fun b o hb _=>kp b o hb⟩
  ·have hm':m=S.length:=by
    have:=(yaj.mp h).1;rw[yao,yba]at this;omega
   subst hm';rw[yat (yal _),ybC]at h;cases h;refine⟨x,?_,if_pos rfl,dx,[],zau,.nil⟩;show(w.mu++[x])[S.length]?=some x;rw[yat (by rw[R.wd.len];exact yal _),R.wd.len,ybC];rfl
 ·obtain⟨v,e1,y⟩:=R.slots i o e h;exact⟨v,e1,y.keep ff fun b o hb hr=>⟨(kp b o hb).1,(kp b o hb).2.trans hr⟩⟩
end
noncomputable def zlM:D->Option (Option Int)|.non=>some none|.int i=>some (some i)|_=>none
def zdq:List D->Option (List (Option Int))
 |[]=>some []|d::r=>(zlM d).bind fun o=>(zdq r).map (o::·)
def zh6:D->Option NK
 |.tup [.int i,.tup l]=>(zdq l).map fun os=>(i,os)|_=>none
def zbg(k:NK):List (D×D)->Option D
 |[]=>none|(q,d)::r=>if zh6 q=some k then some d else zbg k r
def zjZ(o:Option Int):zlM (oDn o)=some o:=by cases o<;>rfl
theorem zfb:∀l:List (Option Int),zdq (l.map oDn)=some l
 |[]=>rfl|o::l=>by rw[yaA];unfold zdq;rw[zjZ,zfb l];rfl
def zds(k:NK):zh6 (nkD k)=some k:=by
 show(zdq (k.2.map oDn)).map (fun os=>(k.1,os))=some k;rw[zfb];rfl
section
variable{cl:Cf}{w:Wd}
theorem zjY:∀{xs:List V}{ds:List D}{os:Z4},Shds cl w xs ds->zdq ds=some os->xs=os.map oV
 |_,_,os,.nil,h=>by cases h;rfl
 |_,_,os,.cons (v:=v) (d:=d) (ds:=ds) r t,h=>by
  unfold zdq at h
  cases h1:zlM d with
  |none=>rw[h1]at h;cases h|some o=>
   rw[h1]at h
   cases h2:zdq ds with
   |none=>rw[h2]at h;cases h|some os'=>
    rw[h2]at h;cases h;rw[yaA,<-zjY t h2]
    cases d<;>simp[zlM]at h1<;>subst h1<;>cases r<;>rfl
def zmO{v:V}{d:D}{k:NK}(h:Shd cl w v d)(hk:zh6 d=some k):∃kb,v=.ref kb/\zk8 w kb k:=by
 unfold zh6 at hk;split at hk
 ·rename_i i l
  cases ho:zdq l with
  |none=>rw[ho]at hk;cases hk|some os=>
   rw[ho]at hk;cases hk
   cases h with
   |tup e o r=>
    cases r with
    |cons r1 t=>
     cases t with
     |cons r2 t=>
      cases t;cases r1
      cases r2 with
      |tup e2 o2 r2=>exact⟨_,rfl,_,⟨e,o⟩,by rw[<-zjY r2 ho];exact e2,o2⟩
 ·cases hk
theorem zml:∀{m:List (NK×V)}{ds:List (D×D)},ShdN cl w m ds->∀k:NK,(m.lookup k=none/\zbg k ds=none)\/∃v d,m.lookup k=some v/\zbg k ds=some d/\Shd cl w v d
 |_,_,.nil,k=>.inl ⟨rfl,rfl⟩|_,_,.cons (k:=k') (v:=v) (d:=d) r t,k=>by
  rw[yax];unfold zbg;rw[zds]
  by_cases e:k'=k
  ·subst e;rw[if_pos rfl,ybt];exact .inr ⟨v,d,rfl,rfl,r⟩
  ·rw[if_neg (fun z=>e (by cases z;rfl)),yaY.mpr (fun z=>e z.symm)];exact zml t k
theorem zmZ:∀{m:List (NK×V)}{ds:List (D×D)},ShdN cl w m ds->m.length=ds.length
 |_,_,.nil=>rfl|_,_,.cons r t=>by rw[yae,yae,zmZ t]
end
noncomputable def zij(cn f:Str)(d:D)(S:Sto):Option D:=match d with
 |.ref n=>(match S[n]? with
  |some ob=>if ob.cls=cn then(match ob.fs.lookup f with|some (false,d)=>some d|_=>none)else none
  |none=>none)
 |_=>none
def zeg(cn f:Str)(fe:Fe):Fe:=fun ρ S=>(fe ρ S).bind fun d S1=>match zij cn f d S1 with|some r=>.ok r S1|none=>.bad
noncomputable def zk3(cl:Cf)(cn f:Str):Prop:=Cls cl.K (cl cn)/\zc6 cl.K (cl cn) f
noncomputable def zf3(cn f:Str)(d:D)(S:Sto):Option (Nat×Ob×List (D×D)):=match d with
 |.ref n=>(match S[n]? with
  |some ob=>if ob.cls=cn then(match ob.fs.lookup f with|some (true,.dic ds)=>some (n,ob,ds)|_=>none)else none
  |none=>none)
 |_=>none
section
variable{cl:Cf}{cn:Str}{X:Cx}{E:St->XK}{e:Expr}{fe:Fe}{f:Str}{pos:Pos}{B:Base}{σ:St}{w:Wd}{ρ:Env}{S:Sto}
def zgV{v:V}{n:Nat}{ob:Ob}(R:Rel cl B σ w ρ S)(hv:Shd cl w v (.ref n))(hn:S[n]?=some ob):∃a dx fs,v=.ref a/\w.mu[n]?=some a/\w.ow a=some (.obj n)/\w.H a=some (.ins (cl ob.cls) dx fs)/\zc0 cl w n fs ob.fs:=by
 cases hv with
 |ref e=>
  obtain⟨h1,dx,fs,h2,h3⟩:=R.wd.atObj hn e;exact⟨_,dx,fs,rfl,e,h1,h2,h3⟩
def zrs{v:V}{d r:D}(hk:zk3 cl cn f)(R:Rel cl B σ w ρ S)(hv:Shd cl w v d)(hd:zij cn f d S=some r):∃a C dx fs y,v=.ref a/\w.H a=some (.ins C dx fs)/\Cls cl.K C/\zc6 cl.K C f/\fs.lookup f=some y/\Shd cl w y r:=by
 unfold zij at hd
 cases d with
 |ref n=>
  dsimp only at hd
  cases hS:S[n]? with
  |none=>rw[hS]at hd;cases hd|some ob=>
   rw[hS]at hd;dsimp only at hd;split at hd
   ·rename_i hfk;split at hd
    ·rename_i d hl;cases hd;obtain⟨a,dx,fs,rfl,_,_,hH,hF⟩:=zgV R hv hS;obtain⟨v,lv,fr⟩:=hF.look hl
     rcases fr with⟨_,fr⟩|⟨z,_⟩
     ·exact⟨a,_,dx,fs,v,rfl,hH,hfk ▸ hk.1,hfk ▸ hk.2,lv,fr⟩
     ·cases z
    ·cases hd
   ·cases hd
 |_=>cases hd
def zpH(hk:zk3 cl cn f)(kk:X.K=cl.K)(he:PE X e (tE cl E fe))(hb:attributeBase e f X.env (eval e X.env)=eval e X.env):PE X (.Attribute e f pos) (tE cl E (zeg cn f fe)):=by
 refine PE.imp (zgs he hb) ?_;rintro σ H Q ⟨B,w,ρ,S,rfl,R,q⟩;refine⟨B,w,ρ,S,rfl,R,?_⟩;unfold zeg at q
 cases hf:fe ρ S with
 |bad=>rwa[hf]at q|exc c S1=>rwa[hf]at q|ok d S1=>
  rw[hf]at q;intro v w1 R1 F1 h1;dsimp only[Out.bind]at q
  cases hd:zij cn f d S1 with
  |none=>rw[hd]at q;exact q.elim|some r=>
   rw[hd]at q;obtain⟨a,C,dx,fs,y,rfl,e1,e2,e3,e4,e5⟩:=zrs hk R1 h1 hd;rw[kk];exact⟨a,C,dx,fs,y,rfl,e1,e2,e3,e4,q y w1 R1 F1 e5⟩
def zkW{v:V}{d:D}{n:Nat}{ob:Ob}{ds:List (D×D)}(hk:zk3 cl cn f)(R:Rel cl B σ w ρ S)(hv:Shd cl w v d)(hd:zf3 cn f d S=some (n,ob,ds)):
  ∃a dx fs c xs m,v=.ref a/\S[n]?=some ob/\w.mu[n]?=some a/\w.ow a=some (.obj n)/\w.H a=some (.ins (cl ob.cls) dx fs)/\zc0 cl w n fs ob.fs/\Cls cl.K (cl ob.cls)/\zc6 cl.K (cl ob.cls) f/\fs.lookup f=some (.ref c)/\w.ow c=some (.fld n f)/\w.H c=some (.ext (DN cl.P cl.wo c xs))/\ziw w xs m/\ShdN cl w m ds:=by
 unfold zf3 at hd
 cases d with
 |ref n'=>
  dsimp only at hd
  cases hS:S[n']? with
  |none=>rw[hS]at hd;cases hd|some ob'=>
   rw[hS]at hd;dsimp only at hd;split at hd
   ·rename_i hfk;split at hd
    ·rename_i ds' hl;cases hd;obtain⟨a,dx,fs,rfl,hmu,how,hH,hF⟩:=zgV R hv hS;obtain⟨v,lv,fr⟩:=hF.look hl
     rcases fr with⟨z,_⟩|⟨_,c,xs,m,ds2,rfl,c1,c2,c3,c4,e⟩
     ·cases z
     ·cases e;exact⟨a,dx,fs,c,xs,m,rfl,hS,hmu,how,hH,hF,hfk ▸ hk.1,hfk ▸ hk.2,lv,c1,c2,c3,c4⟩
    ·cases hd
   ·cases hd
 |_=>cases hd
end
end S2
namespace L2
open PySem PySem.Spec PyProof.Rows
section
variable{X:Cx}
noncomputable def zwD(ta:TA):TE:=fun σ H Q=>ta σ H fun vs H1=>∃j:Int,vs=[.int j]/\0<=j/\j<=1000/\∀p,H1 p=none->Q (.ref p) (upd H1 p (.rng 0 j))
def zp1{a:Expr}{ta:TA}{p pos:Pos}(hg:Gl X "range")(hm:X.mg "range"=none)(ha:PA X [a] ta)(hs:autoParam (starEach [a] X.env=[(false,eval a X.env)]) yAW):PE X (.Call (.Name "range" p) [a] [] pos) (zwD ta):=by
 intro pins s σ H Q I h;refine Call_ (zdZ I hg hm boot_range (ya1 (thn (ha pos pins s σ H _ I h) fun us s1 ⟨vs,H1,I1,r1,q1⟩=>?_) hs rfl));obtain⟨j,e,j0,j1,q⟩:=q1;subst e
 cases r1 with
 |cons r rr=>
  cases rr;obtain⟨t,rfl⟩:=r;refine call_range_1 ⟨.ref s1.heap.objs.size,_,I1.laid (a:=s1.heap.objs.size) (o:=.rng 0 j) (fun _ _ q=>yag _ q) (yal _) ⟨_,_,_,yau _ rfl⟩,rfl,q _ (I1.hok.fresh (yal _))⟩
theorem ziy:∀(n:Nat) (its:List Value),its.length=n->(∀(i:Nat) (v:Value),its[i]?=some v->∃t,v=.int (i:Int) t)->Vals ((List.range n).map fun(i:Nat)=>V.int (i:Int)) its:=by
 intro n
 induction n with
 |zero=>
  intro its hl _;have:its=[]:=yaM hl;subst this;exact .nil
 |succ n ih=>
  intro its hl h
  have e:its=its.take n++[its[n]]:=by
   have:=List.take_append_drop n its
   have h2:its.drop n=[its[n]]:=by
    rw[yby (by omega),List.drop_of_length_le (by omega)]
   rw[h2]at this;exact this.symm
  rw[e,ybB,ybN];refine(ih (its.take n) (by rw[ybi];omega) fun i v hv=>?_).append (.cons ?_ .nil)
  ·have hi:i<n:=by
    have:=(yaj.mp hv).1;rw[ybi]at this;omega
   rw[List.getElem?_take,if_pos hi]at hv;exact h i v hv
  ·exact h n its[n] (yad (by omega))
theorem zfU(hc:X.calm=true):zdT X (.type "list") (fun xs H Q=>∃(p:Addr) (n:Nat),xs=[.ref p]/\H p=some (.rng 0 (n:Int))/\n<=1000/\∀l,H l=none->Q (.ref l) (upd H l (.lst ((List.range n).map fun(i:Nat)=>V.int (i:Int))))):=by
 intro pins s σ H xs us Q I r h;obtain⟨p,n,rfl,hp,hn,q⟩:=h;obtain⟨u,rfl,rx⟩:=ziz r;cases rx;obtain⟨t,u,v,hr⟩:=I.hok p _ hp;refine call_list_range (n:=n) (I.ok.hd hc) (show IsRange s.heap p 0 (n:Int) 1 t u v from hr) (small_one (by omega) (by omega) (by omega) (by omega)) (by rw[rangeSize_one];split<;>omega) (by omega) fun h' tk acc c' kp e hi=>?_
 refine⟨.ref s.heap.objs.size,_,I.laid (t':=tk) kp (yal _) (show zbx X.prog X.w _ h' _ (.lst _)from⟨?_,acc.toList,c',ziy n acc.toList ?_ ?_,by simpa using e⟩),rfl,q _ (I.hok.fresh (yal _))⟩
 ·rw[yaf,ybn];exact yan hn (by decide)
 ·have:=hi.1;simpa using this
 ·intro i v hv;have:=hi.2 i v (by simpa using hv);simpa using this
end
end L2
namespace S2
open PySem PySem.Spec PyProof.Rows L2
def zmi(cn f:Str)(fa fo:Fe):Fe:=fun ρ S=>(fa ρ S).bind fun dk S1=>(fo ρ S1).bind fun d S2=>match zh6 dk,zf3 cn f d S2 with
 |some k,some (_,_,ds)=>.ok (.bl (zbg k ds).isNone) S2|_,_=>.bad
noncomputable def zjd(ρ:Env)(i:Nat):Option NK:=match ρ[i]? with|some (some (false,dk))=>zh6 dk|_=>none
def zhy(cn f:Str)(fo:Fe)(i:Nat):Fe:=fun ρ S=>(fo ρ S).bind fun d S1=>match zjd ρ i,zf3 cn f d S1 with
 |some k,some (_,_,ds)=>(match zbg k ds with|some r=>.ok r S1|none=>.bad)
 |_,_=>.bad
def zg7(cn f:Str)(fo:Fe)(i:Nat)(fe:Fe):Fs:=fun ρ S=>match fe ρ S with
 |.bad=>.bad|.exc c S1=>.ex c ρ S1|.ok r S1=>(match fo ρ S1 with
  |.bad=>.bad|.exc c S2=>.ex c ρ S2|.ok d S2=>(match zjd ρ i,zf3 cn f d S2 with
   |some k,some (n,ob,ds)=>if(zbg k ds).isNone&&decide (ds.length<=1000000)&&zfc ob then .nx ρ (S2.set n (ob.put f true (.dic (ds++[(nkD k,r)]))))else .bad
   |_,_=>.bad))
def zfx(cn f:Str)(fo fe:Fe):Fs:=fun ρ S=>match fe ρ S with
 |.bad=>.bad|.exc c S1=>.ex c ρ S1|.ok r S1=>(match fo ρ S1 with
  |.bad=>.bad|.exc c S2=>.ex c ρ S2|.ok (.ref n) S2=>(match S2[n]? with
   |some ob=>if decide (ob.cls=cn)&&decide (ob.fs.length<1000)then .nx ρ (S2.set n (ob.put f false r))else .bad
   |none=>.bad)
  |.ok _ _=>.bad)
def ziI(cn f:Str)(i:Nat):Fs:=fun ρ S=>match ρ[i]? with
 |some (some (false,.ref n))=>(match S[n]? with
   |some ob=>if decide (ob.cls=cn)&&decide (ob.fs.length<1000)then .nx ρ (S.set n (ob.put f true (.dic [])))else .bad
   |none=>.bad)
 |_=>.bad
noncomputable def zcJ(c m:Str)(d:D)(S:Sto):Bool:=match d with
 |.ref n=>(match S[n]? with|some ob=>decide (ob.cls=c)&&(ob.fs.lookup m).isNone|none=>false)
 |_=>false
def zbp(c m:Str)(G:List D->Sto->Out D)(fo:Fe)(fs:List Fe):Fe:=fun ρ S=>(fo ρ S).bind fun d S1=>if zcJ c m d S1 then(zaj fs ρ S1).bind fun ds S2=>G (d::ds) S2 else .bad
def eMk(c:Str)(dds:List D)(G:List D->Sto->Out D)(fs:List Fe):Fe:=fun ρ S=>(zaj fs ρ S).bind fun ds S1=>(G (.ref S1.length::(ds++dds)) (S1++[⟨c,[]⟩])).bind fun r S2=>match r with|.non=>.ok (.ref S1.length) S2|_=>.bad
structure Same'(cl:Cf)(X:Cx):Prop where
 kk:X.K=cl.K
 pp:X.prog=cl.P
 ww:X.w=cl.wo
section
variable{cl:Cf}{cn:Str}{X:Cx}{E:St->XK}{a o e:Expr}{fa fo fe:Fe}{f:Str}{pos apos:Pos}{own:Bool}
def zqs(sm:Same' cl X)(hk:zk3 cl cn f)(σ:St)(H:Hp)(Q:VK)(q:tE cl E (zmi cn f fa fo) σ H Q):
  tOp (fun x y H Q=>∃kb a k xs m,x=.ref kb/\y=.ref a/\zhG H kb k/\H a=some (.ext (DN X.prog X.w a xs))/\zmy H xs m/\Q (.bl (m.lookup k).isNone) H) (tE cl E fa) (zuG X.K (tE cl E fo) f) σ H Q:=by
 obtain⟨B,w,ρ,S,rfl,R,q⟩:=q;refine⟨B,w,ρ,S,rfl,R,?_⟩;unfold zmi at q
 cases hf:fa ρ S with
 |bad=>rwa[hf]at q|exc c S1=>rwa[hf]at q|ok dk S1=>
  rw[hf]at q;intro v w1 R1 F1 h1;refine⟨B,w1,ρ,S1,rfl,R1,?_⟩;dsimp only[Out.bind]at q
  cases hh:fo ρ S1 with
  |bad=>rwa[hh]at q|exc c S2=>rw[hh]at q;exact fun w2 R2 F2=>q w2 R2 (F1.trans F2)|ok d S2=>
   rw[hh]at q;intro y w2 R2 F2 h2;dsimp only at q
   cases hn:zh6 dk with
   |none=>rw[hn]at q;exact q.elim|some k=>
    cases hd:zf3 cn f d S2 with
    |none=>rw[hn,hd]at q;exact q.elim|some t=>
     obtain⟨n,ob,ds⟩:=t;rw[hn,hd]at q;dsimp only at q;obtain⟨a,dx,fs,c,xs,m,rfl,_,_,_,hH,_,c1,c2,lv,_,hc,he,hs⟩:=zkW hk R2 h2 hd;obtain⟨kb,rfl,ks⟩:=zmO (h1.up F2) hn;rw[sm.kk];refine⟨a,_,dx,fs,_,rfl,hH,c1,c2,lv,kb,c,k,xs,m,rfl,rfl,ks.at,by rw[sm.pp,sm.ww];exact hc,he.ents,?_⟩
     have:(m.lookup k).isNone=(zbg k ds).isNone:=by
      rcases zml hs k with⟨e1,e2⟩|⟨_,_,e1,e2,_⟩<;>rw[e1,e2]<;>rfl
     rw[this];exact q _ w2 R2 (F1.trans F2) (.bl _)
def zpD(hu:X.A.units+16<cLine)(sm:Same' cl X)(hk:zk3 cl cn f)(ha:PE X a (tE cl E fa))(ho:PE X o (tE cl E fo))(hb:attributeBase o f X.env (eval o X.env)=eval o X.env)(hm:behindInMarks .NotIn (.Attribute o f apos)=false):PE X (.Compare a [.NotIn] [.Attribute o f apos] pos) (tE cl E (zmi cn f fa fo)):=
 PE.imp (zjT (zmN hu) ha (zgs ho hb) hm) (zqs sm hk)
def zph(hu:X.A.units+16<cLine)(sm:Same' cl X)(hk:zk3 cl cn f)(ha:PE X a (tE cl E fa))(ho:PE X o (tE cl E fo))(hb:attributeBase o f X.env (eval o X.env)=eval o X.env)(hm:behindInMarks .NotIn (.Attribute o f apos)=false):PT X (.Compare a [.NotIn] [.Attribute o f apos] pos) (tTr cl E (zmi cn f fa fo)):=
 PT.imp (zjG (zmN hu) ha (zgs ho hb) hm) fun _ _ _ q=>zqs sm hk _ _ _ (zhP q)
def zkh{B:Base}{σ:St}{w:Wd}{ρ:Env}{S:Sto}{i:Nat}{k:NK}(R:Rel cl B σ w ρ S)(h:zjd ρ i=some k):∃kb,σ[i]?=some (some (.ref kb))/\zk8 w kb k:=by
 unfold zjd at h;split at h
 ·rename_i dk hi;obtain⟨v,e,r⟩:=R.slots i false dk hi;obtain⟨kb,rfl,ks⟩:=zmO r h;exact⟨kb,e,ks⟩
 ·cases h
def znE{i:Nat}{x:Str}{p:Pos}(hN:X.N[i]?=some x)(hv:Vis X.env.scope x)(hd:(x==("__debug__":Str))=false)(hcd:(x==("__classdict__":Str))=false)(hu:X.A.units+16<cLine)(sm:Same' cl X)(hk:zk3 cl cn f)(ho:PE X o (tE cl E fo))(hb:attributeBase o f X.env (eval o X.env)=eval o X.env)(hs:zfZ (.Name x p)):PE X (.Subscript (.Attribute o f apos) (.Name x p) pos) (tE cl E (zhy cn f fo i)):=by
 refine PE.imp (zjQ (zqQ hu) (zgs ho hb) (zbQ hN hv hd hcd) hs) ?_;rintro σ H Q ⟨B,w,ρ,S,rfl,R,q⟩;refine⟨B,w,ρ,S,rfl,R,?_⟩;unfold zhy at q
 cases hf:fo ρ S with
 |bad=>rwa[hf]at q|exc c S1=>rwa[hf]at q|ok d S1=>
  rw[hf]at q;intro v w1 R1 F1 h1;dsimp only[Out.bind]at q
  cases hn:zjd ρ i with
  |none=>rw[hn]at q;exact q.elim|some k=>
   cases hd:zf3 cn f d S1 with
   |none=>rw[hn,hd]at q;exact q.elim|some t=>
    obtain⟨n,ob,ds⟩:=t;rw[hn,hd]at q;dsimp only at q;obtain⟨a,dx,fs,c,xs,m,rfl,_,_,_,hH,_,c1,c2,lv,_,hc,he,hs⟩:=zkW hk R1 h1 hd;obtain⟨kb,eσ,ks⟩:=zkh R1 hn
    cases hl:zbg k ds with
    |none=>rw[hl]at q;exact q.elim|some r=>
     rw[hl]at q
     rcases zml hs k with⟨_,e2⟩|⟨y,r',e1,e2,sh⟩
     ·rw[hl]at e2;cases e2
     ·rw[hl]at e2;cases e2;rw[sm.kk];exact⟨a,_,dx,fs,_,rfl,hH,c1,c2,lv,_,eσ,c,kb,k,xs,m,y,rfl,rfl,ks.at,by rw[sm.pp,sm.ww];exact hc,he.ents,e1,q _ w1 R1 F1 sh⟩
def zno{i:Nat}{x:Str}{p p3:Pos}(hN:X.N[i]?=some x)(hv:Vis X.env.scope x)(hd:(x==("__debug__":Str))=false)(hcd:(x==("__classdict__":Str))=false)(hu:X.A.units+16<cLine)(sm:Same' cl X)(hk:zk3 cl cn f)(ho:PE X o (tE cl E fo))(hb:attributeBase o f X.env (eval o X.env)=eval o X.env)(he:PE X e (tE cl E fe))
  (sw1:swapsWithSole [.Subscript (.Attribute o f apos) (.Name x p) p3] e pos.line X.env=pure false) (sw2:swappedStores [.Subscript (.Attribute o f apos) (.Name x p) p3] e X.env=pure none)
  (ha:∀v,assign (.Subscript (.Attribute o f apos) (.Name x p) p3) X.env v=(do
   let ov ← holding [v] (eval (.Attribute o f apos) X.env)
   let iv ← holding [v,ov] (eval (.Name x p) X.env)
   standAt p3
   holding [v,ov,iv] (setItem ov iv v)
   release [v,ov,iv] [])):PS X (.Assign [.Subscript (.Attribute o f apos) (.Name x p) p3] e pos) (tS cl E own (zg7 cn f fo i fe)):=by
 refine PS.imp (zhY he (zjN (zgs ho hb) (zbQ hN hv hd hcd) (znz hu) ha) sw1 sw2 rfl) ?_;rintro De σ H ⟨B,w,ρ,S,rfl,R,q⟩;refine⟨B,w,ρ,S,rfl,R,?_⟩;unfold zg7 at q
 cases hf:fe ρ S with
 |bad=>rwa[hf]at q|exc c S1=>rw[hf]at q;exact fun w' R' F'=>q σ w' R' F'|ok r S1=>
  rw[hf]at q;intro v w1 R1 F1 h1;dsimp only at q;refine⟨B,w1,ρ,S1,rfl,R1,?_⟩
  cases hfo:fo ρ S1 with
  |bad=>rwa[hfo]at q|exc c S2=>rw[hfo]at q;exact fun w' R' F'=>q σ w' R' (F1.trans F')|ok d S2=>
   rw[hfo]at q;intro y w2 R2 F2 h2;dsimp only at q
   cases hn:zjd ρ i with
   |none=>rw[hn]at q;exact q.elim|some k=>
    cases hd:zf3 cn f d S2 with
    |none=>rw[hn,hd]at q;exact q.elim|some t=>
     obtain⟨n,ob,ds⟩:=t;rw[hn,hd]at q;dsimp only at q;split at q
     ·rename_i hc0;rw[yac,yac]at hc0;obtain⟨⟨z1,z2⟩,z3⟩:=hc0;obtain⟨a,dx,fs,c,xs,m,rfl,hS,hmu,how,hH,hF,c1,c2,lv,oc,hc,he,hs⟩:=zkW hk R2 h2 hd;obtain⟨kb,eσ,ks⟩:=zkh R2 hn
      have hno:m.lookup k=none:=by
       rcases zml hs k with⟨e1,_⟩|⟨_,_,_,e2,_⟩
       ·exact e1
       ·rw[e2]at z1;cases z1
      rw[sm.kk];refine⟨a,_,dx,fs,_,rfl,hH,c1,c2,lv,_,eσ,c,kb,k,xs,m,rfl,rfl,ks.at,by rw[sm.pp,sm.ww];exact hc,he.ents,hno,by rw[zmZ hs];exact yak z2,fun u ru=>?_⟩;obtain⟨R3,F3⟩:=R2.setd hS hmu how hH hF lv oc hc he hs ks ru (h1.up F2) z3;rw[sm.pp,sm.ww];exact q σ _ R3 (F1.trans (F2.trans F3))
     ·exact q.elim
def znp(sm:Same' cl X)(hk:zk3 cl cn f)(ho:PE X o (tE cl E fo))(he:PE X e (tE cl E fe))(hs:swapsWith e (some (.Attribute o f apos)) pos.line X.env=pure false):PS X (.Assign [.Attribute o f apos] e pos) (tS cl E own (zfx cn f fo fe)):=by
 refine PS.imp (zmK ho he hs) ?_;rintro De σ H ⟨B,w,ρ,S,rfl,R,q⟩;refine⟨B,w,ρ,S,rfl,R,?_⟩;unfold zfx at q
 cases hf:fe ρ S with
 |bad=>rwa[hf]at q|exc c S1=>rw[hf]at q;exact fun w' R' F'=>q σ w' R' F'|ok r S1=>
  rw[hf]at q;intro v w1 R1 F1 h1;dsimp only at q;refine⟨B,w1,ρ,S1,rfl,R1,?_⟩
  cases hfo:fo ρ S1 with
  |bad=>rwa[hfo]at q|exc c S2=>rw[hfo]at q;exact fun w' R' F'=>q σ w' R' (F1.trans F')|ok d S2=>
   rw[hfo]at q;intro y w2 R2 F2 h2
   cases d with
   |ref n=>
    dsimp only at q
    cases hS:S2[n]? with
    |none=>rw[hS]at q;exact q.elim|some ob=>
     rw[hS]at q;dsimp only at q;split at q
     ·rename_i hc0;rw[yac]at hc0;obtain⟨a,dx,fs,rfl,hmu,how,hH,hF⟩:=zgV R2 h2 hS;rw[sm.kk];refine⟨a,_,dx,fs,rfl,hH,yak hc0.1 ▸ hk.1,yak hc0.1 ▸ hk.2,by rw[hF.len];exact yak hc0.2,?_⟩;obtain⟨R3,F3⟩:=R2.setf (f:=f) hS hmu how hH hF (h1.up F2);exact q σ _ R3 (F1.trans (F2.trans F3))
     ·exact q.elim
   |_=>exact q.elim
def znq{i:Nat}{x:Str}{p p2:Pos}(hN:X.N[i]?=some x)(hv:Vis X.env.scope x)(hd:(x==("__debug__":Str))=false)(hcd:(x==("__classdict__":Str))=false)(sm:Same' cl X)(hk:zk3 cl cn f)(hs:swapsWith (.Dict [] [] p) (some (.Attribute (.Name x p2) f apos)) pos.line X.env=pure false):PS X (.Assign [.Attribute (.Name x p2) f apos] (.Dict [] [] p) pos) (tS cl E own (ziI cn f i)):=by
 refine PS.imp (zmK (zbQ hN hv hd hcd) znZ hs) ?_;rintro De σ H ⟨B,w,ρ,S,rfl,R,q⟩;intro pd hpd;unfold ziI at q;split at q
 ·rename_i n hi;obtain⟨v,ev,rv⟩:=R.slots i false _ hi
  cases hS:S[n]? with
  |none=>rw[hS]at q;exact q.elim|some ob=>
   rw[hS]at q;dsimp only at q;split at q
   ·rename_i hc0;rw[yac]at hc0;obtain⟨a,dx,fs,rfl,hmu,how,hH,hF⟩:=zgV R rv hS;rw[sm.kk];refine⟨_,ev,a,_,dx,fs,rfl,?_,yak hc0.1 ▸ hk.1,yak hc0.1 ▸ hk.2,by rw[hF.len];exact yak hc0.2,?_⟩
    ·rw[zah (zao hH hpd)];exact hH
    ·obtain⟨R3,F3⟩:=R.newf (f:=f) hS hmu how hH hF hpd;rw[sm.pp,sm.ww];exact q σ _ R3 F3
   ·exact q.elim
 ·exact q.elim
end
noncomputable def zf8(C:Addr)(m:Str)(sp:Sp)(dvs:List V)(E:St->XK)(ta:TE)(t:TA):TE:=fun σ H Q=>ta σ H fun x H1=>∃a dx fs,x=.ref a/\H1 a=some (.ins C dx fs)/\fs.lookup m=none ∧
 t σ H1 fun vs H2=>sp (x::(vs++dvs)) H2 Q (E σ)
noncomputable def zmA(C:Addr)(sp:Sp)(dvs:List V)(E:St->XK)(t:TA):TE:=fun σ H Q=>t σ H fun vs H1=>∀x dx,H1 x=none->H1 dx=none->dx≠x →
 sp (.ref x::(vs++dvs)) (upd (upd H1 dx (.own x)) x (.ins C dx [])) (fun v H2=>v=.non/\Q (.ref x) H2) (E σ)
section
variable{X:Cx}{CX:CXT}{k:Nat}{f C:Addr}{fd:FuncData}{ps:List Str}{sp:Sp}{dvs:List V}{ds:List Value}{E:St->XK}{x m:Str}{p pos apos:Pos}{e o:Expr}{es:List Expr}{ta:TE}{t:TA}
def zlG{pl:Sem Bool}(he:PE X o ta)(c:Cls X.K C)(hm:Meth X.K C m f)(F:FnOk X.prog X.w X.K X.mg X.base CX k f fd ps sp)(hr:Room k X.A)(hb:zbZ X.K fd ps ds)(hd:Vals dvs ds)(hx:zcU CX X E)(ha:PA X (e::es) t)
  (hst:starEach (e::es) X.env=(false,eval e X.env)::starEach es X.env) (hpl:(backTo pos (starEach es X.env)).any (·.1)=false)
  (ht:eval (.Call (.Attribute o m apos) (e::es) [] pos) X.env=(do
   let ov ← eval o X.env
   standAt apos.atName
   let (f,first) ← holding [ov] (getMethod ov m pl)
   callWith pos f first (backTo pos (starEach (e::es) X.env)) (backToKw pos (keywordEach [] X.env)))):
  PE X (.Call (.Attribute o m apos) (e::es) [] pos) (zf8 C m sp dvs E ta t):=by
 intro pins s σ H Q I h;refine PySem.W.methodCall_KW (pl:=pl) (thn (he pins s σ H _ I h) fun u s1 ⟨x,H1,I1,rx,a,dx,fs,ex,ea,l,q⟩=>?_) ht;subst ex;obtain rfl:u=Value.ref a:=rx;refine zfh I1 ea c hm l ?_;refine ycF (first:=[.ref a]) (h₀:=X.base) I.ok.mod.kin hm.kp (thn (ha pos pins s1 σ H1 _ I1 q) fun us s2 ⟨vs,H2,I2,r,q2⟩=>⟨I2.kIn,?_⟩) hst hpl;exact zfA (us:=.ref a::us) (vs:=.ref a::vs) F hr hb hd hx I2 (.cons rfl r) q2
def zjP{pl:Sem Bool}(he:PE X o ta)(c:Cls X.K C)(hm:Meth X.K C m f)(F:FnOk X.prog X.w X.K X.mg X.base CX k f fd ps sp)(hr:Room k X.A)(hb:zbZ X.K fd ps ds)(hd:Vals dvs ds)(hx:zcU CX X E)
  (ht:eval (.Call (.Attribute o m apos) [] [] pos) X.env=(do
   let ov ← eval o X.env
   standAt apos.atName
   let (f,first) ← holding [ov] (getMethod ov m pl)
   callWith pos f first (backTo pos (starEach [] X.env)) (backToKw pos (keywordEach [] X.env)))):
  PE X (.Call (.Attribute o m apos) [] [] pos) (zf8 C m sp dvs E ta zsh):=by
 intro pins s σ H Q I h;refine PySem.W.methodCall_KW (pl:=pl) (thn (he pins s σ H _ I h) fun u s1 ⟨x,H1,I1,rx,a,dx,fs,ex,ea,l,q⟩=>?_) ht;subst ex;obtain rfl:u=Value.ref a:=rx;refine zfh I1 ea c hm l ?_;exact PySem.W.callWith_K0 (first:=[.ref a]) I1.kIn hm.kp (zfA (us:=[.ref a]) (vs:=[.ref a]) F hr hb hd hx I1 (.cons rfl .nil) q)
def zjz{pins:Z3}{σ:St}{H:Hp}{s:Shared}{Q:VK}{us:List Value}{vs:List V}(M:Mk X.K C f)(F:FnOk X.prog X.w X.K X.mg X.base CX k f fd ps sp)(hr:Room (k+1) X.A)(hb:zbZ X.K fd ps ds)(hd:Vals dvs ds)
  (hx:zcU CX X E) (I:Inv X pins σ H s) (r:Vals vs us)
  (h:∀x dx,H x=none->H dx=none->dx≠x->sp (.ref x::(vs++dvs)) (upd (upd H dx (.own x)) x (.ins C dx [])) (fun v H2=>v=.non/\Q (.ref x) H2) (E σ)):
  wpAny (model X.prog X.w) X.A (call (.ref C) us) (EP X pins σ Q) X.xe s:=by
 have hq:=h (s.heap.objs.size+1) s.heap.objs.size (I.hok.fresh (ycd _)) (I.hok.fresh (yal _)) (yaD (ybW _));have I2:=Inv.made (C:=C) I;have r2:Vals (V.ref (s.heap.objs.size+1)::(vs++dvs)) (Value.ref (s.heap.objs.size+1)::(us++ds)):=.cons rfl (r.append hd)
 have hl:(Value.ref (s.heap.objs.size+1)::us++ds).length=ps.length:=by
  have e:=r2.length;rw[F.len _ _ _ _ hq]at e;exact e.symm
 refine wpAny_call (zlT (f:=f) I.kIn M.makes M.init (ybQ.mp M.fn) (codeAny_mono (F.run _ X.stack _ _ ⟨Value.ref (s.heap.objs.size+1)::us,[]⟩ (Value.ref (s.heap.objs.size+1)::(us++ds)) _ _ (E σ) (hr.make C us [])
  (I2.env0.make C us []) (hb _ (Value.ref (s.heap.objs.size+1)::us) I2.kIn hl) r2 hq) fun r s' hq'=>?_))
 cases r with
 |error e=>exact hx pins σ _ _ e s' I2 hq'|ok fl=>
  cases fl with
  |ret u=>
   obtain⟨v,H',I3,rv,ev,q3⟩:=I2.after hq';subst ev;exact⟨rv,⟨V.ref (s.heap.objs.size+1),H',I3,rfl,q3⟩⟩
  |next=>exact False.elim hq'|brk=>exact False.elim hq'|cont=>exact False.elim hq'
def zlH(M:Mk X.K C f)(F:FnOk X.prog X.w X.K X.mg X.base CX k f fd ps sp)(hr:Room (k+1) X.A)(hg:Gl X x)(hm:X.mg x=some (.ref C))(hb:zbZ X.K fd ps ds)(hd:Vals dvs ds)(hx:zcU CX X E)
  (ha:PA X (e::es) t) (hdb:(x==("__debug__":Str))=false) (he:starEach (e::es) X.env=(false,eval e X.env)::starEach es X.env) (hpl:(backTo pos (starEach es X.env)).any (·.1)=false):
  PE X (.Call (.Name x p) (e::es) [] pos) (zmA C sp dvs E t):=by
 intro pins s σ H Q I h;refine ybI (zdN I hg hm ?_ hdb);refine ycF (h₀:=X.base) I.ok.mod.kin M.kp (thn (ha pos pins s σ H _ I h) fun us s1 ⟨vs,H1,I1,r,q⟩=>⟨I1.kIn,?_⟩) he hpl;exact zjz M F hr hb hd hx I1 r q
end
section
variable{cl:Cf}{E:St->XK}{fs:List Fe}{fo:Fe}{G:List D->Sto->Out D}{σ:St}{H:Hp}{Q:VK}{n:Nat}{c m:Str}{ρ:Env}
theorem zdB:∀{fs:List Fe}{S S1:Sto}{ds:List D},zaj fs ρ S=.ok ds S1->ds.length=fs.length
 |[],S,S1,ds,h=>by cases h;rfl
 |f::fs,S,S1,ds,h=>by
  unfold zaj at h
  cases h1:f ρ S with
  |bad=>rw[h1]at h;cases h|exc c S2=>rw[h1]at h;cases h|ok d S2=>
   rw[h1]at h;dsimp only[Out.bind]at h
   cases h2:zaj fs ρ S2 with
   |bad=>rw[h2]at h;cases h|exc c S3=>rw[h2]at h;cases h|ok es S3=>rw[h2]at h;cases h;rw[yae,yae,zdB h2]
def zkb{B:Base}{w:Wd}{S:Sto}{v:V}{d:D}(R:Rel cl B σ w ρ S)(hv:Shd cl w v d)(h:zcJ c m d S=true):∃a dx fs,v=.ref a/\w.H a=some (.ins (cl c) dx fs)/\fs.lookup m=none:=by
 unfold zcJ at h
 cases d with
 |ref n=>
  dsimp only at h
  cases hS:S[n]? with
  |none=>rw[hS]at h;cases h|some ob=>
   rw[hS]at h;dsimp only at h;rw[yac]at h;obtain⟨a,dx,fs,rfl,_,_,hH,hF⟩:=zgV R hv hS;have e:=yak h.1;subst e;exact⟨a,dx,fs,rfl,hH,hF.miss (by simpa using h.2)⟩
 |_=>cases h
def zqz(q:tE cl E (zbp c m G fo fs) σ H Q)(hn:fs.length+1=n):zf8 (cl c) m (zf0 cl n false G) [] E (tE cl E fo) (tAs cl E fs) σ H Q:=by
 obtain⟨B,w,ρ,S,rfl,R,q⟩:=q;refine⟨B,w,ρ,S,rfl,R,?_⟩;unfold zbp at q
 cases hfo:fo ρ S with
 |bad=>rwa[hfo]at q|exc c S1=>rwa[hfo]at q|ok d S0=>
 rw[hfo]at q;intro v w0 R0 F0 h0;dsimp only[Out.bind]at q
 cases hok:zcJ c m d S0 with
 |false=>rw[hok]at q;exact q.elim|true=>
 rw[hok,if_pos rfl]at q;obtain⟨a,dx,fs',rfl,hH,hm⟩:=zkb R0 h0 hok;refine⟨a,dx,fs',rfl,hH,hm,B,w0,ρ,S0,rfl,R0,?_⟩
 cases hf:zaj fs ρ S0 with
 |bad=>rwa[hf]at q|exc c S1=>rw[hf]at q;exact fun w1 R1 F1=>q w1 R1 (F0.trans F1)|ok ds S1=>
  rw[hf]at q;intro vs w1 R1 F1 h1;dsimp only at q;refine⟨?_,w1.base,w1.inn,d::ds,S1,rfl,R1.wd.enter,?_,?_⟩
  ·rw[yaU,yae,h1.length,zdB hf];exact hn
  ·rw[yaU];exact .cons ((h0.up F1).up (zbS w1)) (h1.up (zbS w1))
  cases hg:G (d::ds) S1 with
  |bad=>rwa[hg]at q|exc c S2=>
   rw[hg]at q;intro w2 W2 F2;obtain⟨R3,F3⟩:=R1.leave W2 F2;exact q (w1.back w2) R3 (F0.trans (F1.trans F3))
  |ok r S2=>
   rw[hg]at q;intro v w2 W2 F2 r2;obtain⟨R3,F3⟩:=R1.leave W2 F2;exact q v (w1.back w2) R3 (F0.trans (F1.trans F3)) (Shd.up (zcn W2) r2)
def zqy(q:tN cl E (zbp c m G fo fs) σ H Q)(hn:fs.length+1=n):zf8 (cl c) m (zf0 cl n true G) [] E (tE cl E fo) (tAs cl E fs) σ H Q:=by
 obtain⟨B,w,ρ,S,rfl,R,q⟩:=q;refine⟨B,w,ρ,S,rfl,R,?_⟩;unfold zbp at q
 cases hfo:fo ρ S with
 |bad=>rwa[hfo]at q|exc c S1=>rwa[hfo]at q|ok d S0=>
 rw[hfo]at q;intro v w0 R0 F0 h0;dsimp only[Out.bind]at q
 cases hok:zcJ c m d S0 with
 |false=>rw[hok]at q;exact q.elim|true=>
 rw[hok,if_pos rfl]at q;obtain⟨a,dx,fs',rfl,hH,hm⟩:=zkb R0 h0 hok;refine⟨a,dx,fs',rfl,hH,hm,B,w0,ρ,S0,rfl,R0,?_⟩
 cases hf:zaj fs ρ S0 with
 |bad=>rwa[hf]at q|exc c S1=>rw[hf]at q;exact fun w1 R1 F1=>q w1 R1 (F0.trans F1)|ok ds S1=>
  rw[hf]at q;intro vs w1 R1 F1 h1;dsimp only at q;refine⟨?_,w1.base,w1.inn,d::ds,S1,rfl,R1.wd.enter,?_,?_⟩
  ·rw[yaU,yae,h1.length,zdB hf];exact hn
  ·rw[yaU];exact .cons ((h0.up F1).up (zbS w1)) (h1.up (zbS w1))
  cases hg:G (d::ds) S1 with
  |bad=>rwa[hg]at q|exc c S2=>
   rw[hg]at q;intro w2 W2 F2;obtain⟨R3,F3⟩:=R1.leave W2 F2;exact q (w1.back w2) R3 (F0.trans (F1.trans F3))
  |ok r S2=>
   rw[hg]at q;intro v w2 W2 F2 r2;obtain⟨R3,F3⟩:=R1.leave W2 F2;obtain⟨a,o,i,rfl,k1,k2,t⟩:=r2;have hfr:w1.base.Fr a=none:=(W2.own a _ k1).elim (fun z=>by cases z) fun z=>z
   have k3:(w1.back w2).ow a=some .far:=by
    show(if(w1.base.Fr a).isSome=true then w1.ow a else Root.out (w2.ow a))=_;rw[hfr,k1];rfl
   have hb:B.Fr a=none:=by
    cases z:B.Fr a with
    |none=>rfl|some u=>rw[zcT R1.wd z]at hfr;cases hfr
   have hd:=zhr (w:=w1.back w2) (a:=a) (by rw[k3];exact yaI _);have:=q a o ((w1.back w2).del a) (R3.del k3 hb) (F0.trans (F1.trans (F3.trans hd))) (if_pos rfl) ((t.up (zcn W2)).up hd);rwa[zjg (w:=w1.back w2) k2]at this
def zw1{dds:List D}{dvs:List V}(hdv:∀w,Shds cl w dvs dds)(q:tE cl E (eMk c dds G fs) σ H Q)(hn:fs.length+dds.length+1=n):zmA (cl c) (zf0 cl n false G) dvs E (tAs cl E fs) σ H Q:=by
 obtain⟨B,w,ρ,S,rfl,R,q⟩:=q;refine⟨B,w,ρ,S,rfl,R,?_⟩;unfold eMk at q
 cases hf:zaj fs ρ S with
 |bad=>rwa[hf]at q|exc c S1=>rwa[hf]at q|ok ds S1=>
  rw[hf]at q;intro vs w1 R1 F1 h1;dsimp only[Out.bind]at q;intro x dx hx hdx ne;obtain⟨R2,F2⟩:=R1.made (c:=c) hx hdx ne
  have hmu:(w1.addO x dx (cl c) S1.length).mu[S1.length]?=some x:=by
   show(w1.mu++[x])[S1.length]?=some x;rw[yat (by rw[R1.wd.len];exact yal _),R1.wd.len,ybC];rfl
  refine⟨?_,(w1.addO x dx (cl c) S1.length).base,(w1.addO x dx (cl c) S1.length).inn,.ref S1.length::(ds++dds),S1++[⟨c,[]⟩],rfl,R2.wd.enter,?_,?_⟩
  ·rw[yae,yao,h1.length,zdB hf,(hdv w1).length];exact hn
  ·exact .cons (.ref hmu) (((h1.up F2).up (zbS _)).append (hdv _))
  cases hg:G (.ref S1.length::(ds++dds)) (S1++[⟨c,[]⟩])with
  |bad=>rwa[hg]at q|exc c S2=>
   rw[hg]at q;intro w2 W2 F3;obtain⟨R3,F4⟩:=R2.leave W2 F3;exact q ((w1.addO x dx _ S1.length).back w2) R3 (F1.trans (F2.trans F4))
  |ok r S2=>
   rw[hg]at q;intro v w2 W2 F3 r2
   cases r with
   |non=>
    obtain⟨R3,F4⟩:=R2.leave W2 F3;refine⟨by cases r2;rfl,q (.ref x) ((w1.addO x dx _ S1.length).back w2) R3 (F1.trans (F2.trans F4)) (.ref (F4.mu _ _ hmu))⟩
   |_=>exact q.elim
end
end S2
namespace L2
open PySem PySem.Spec PyProof.Rows
section
variable{X:Cx}
noncomputable def ztD(ns:List Int):Nat:=argBest (fun i j=>decide (ns.getD i 0<ns.getD j 0)) (ns.length-1)
def zw2(ns:List Int):Int:=ns.getD (ztD ns) 0
end
end L2
namespace S2
open PySem PySem.Spec PyProof.Rows L2
noncomputable def lrD:D->Option D|.int n=>if decide (0<=n/\n<=1000)then some (.lst ((List.range n.toNat).map fun(i:Nat)=>D.int (i:Int)))else none|_=>none
section
variable{cl:Cf}{X:Cx}{E:St->XK}{e:Expr}{fe f:Fe}{pos:Pos}{own:Bool}
theorem zgz{w:Wd}:∀l:List Nat,Shds cl w (l.map fun(i:Nat)=>V.int (i:Int)) (l.map fun(i:Nat)=>D.int (i:Int))
 |[]=>.nil|a::l=>.cons (.int _) (zgz l)
theorem zi8:bootBuiltins "list"=some (.type "list"):=by decide +kernel
theorem zpG{p p2 pos2:Pos}(hc:X.calm=true)(hg:Gl X "list")(hm:X.mg "list"=none)(hg2:Gl X "range")(hm2:X.mg "range"=none)(he:PE X e (tE cl E f))(hs:starEach [e] X.env=[(false,eval e X.env)]):
  PE X (.Call (.Name "list" p) [.Call (.Name "range" p2) [e] [] pos2] [] pos) (tN cl E (eUn lrD f)):=by
 refine PE.imp (zer (zfU hc) hg hm zi8 (zb7 (zp1 hg2 hm2 (zdI he zgf hs) hs) zdX)) ?_;rintro σ H Q ⟨B,w,ρ,S,rfl,R,q⟩;refine⟨B,w,ρ,S,rfl,R,?_⟩;unfold eUn at q
 cases hf:f ρ S with
 |bad=>rw[hf]at q;exact q.elim|exc c S1=>rw[hf]at q;simp only[zaj,hf,Out.bind];exact q|ok d S1=>
  rw[hf]at q;simp only[zaj,hf,Out.bind];intro vs w1 R1 F1 sh;dsimp only[Out.bind]at q
  cases hl:lrD d with
  |none=>rw[hl]at q;exact q.elim|some r=>
   rw[hl]at q;unfold lrD at hl;split at hl
   ·rename_i n;split at hl
    ·rename_i hz;cases hl;have hz':=yak hz
     cases sh with
     |cons h1 hn=>
      cases hn;cases h1;refine⟨n,rfl,hz'.1,hz'.2,fun pr hpr=>⟨pr,n.toNat,rfl,?_,by omega,fun l hl=>?_⟩⟩
      ·rw[show((n.toNat:Nat):Int)=n by omega];exact zau
      ·exact q l _ (w1.add pr (.rng 0 n)) (R1.grow (zar hpr _)) (F1.trans (zar hpr _).fut) hl (.lst (zgz _))
    ·cases hl
   ·cases hl
noncomputable def zxG:D->D->Option D|.bl a,.bl b=>some (.bl (decide (a=b)))|_,_=>none
def zqx:List D->Option D
 |[.lst l]=>(zc5 l).bind fun ns=>if ns.isEmpty then none else some (.int (zw2 ns))
 |ds=>zuL ds
end
noncomputable abbrev IP:=Int×Int
noncomputable def pD(p:IP):D:=.tup [.int p.1,.int p.2]
noncomputable def zhi:D->Option IP|.tup [.int a,.int b]=>some (a,b)|_=>none
def zh2{d:D}{p:IP}(h:zhi d=some p):d=pD p:=by
 unfold zhi at h;split at h
 ·cases h;rfl
 ·cases h
def zd9(ps:List IP):D:=.dic ((.bl true,.non)::pdD ps)
def psX:List (D×D)->Option (List IP)
 |[]=>some []|(d,.bl true)::l=>(zhi d).bind fun p=>(psX l).bind fun ps=>some (p::ps)|_=>none
theorem zhZ:∀ps:List IP,psX (pdD ps)=some ps
 |[]=>rfl|p::ps=>by
  show(psX (pdD ps)).bind _=_;rw[zhZ ps];rfl
theorem zmL:∀{ds:List (D×D)}{ps:List IP},psX ds=some ps->ds=pdD ps
 |[],ps,h=>by cases h;rfl
 |(d,v)::l,ps,h=>by
  cases v with
  |bl b=>
   cases b with
   |true=>
    obtain⟨p,h1,h⟩:=Option.bind_eq_some_iff.mp (show((zhi d).bind fun p=>(psX l).bind fun ps=>some (p::ps))=some ps from h);obtain⟨qs,h2,h⟩:=Option.bind_eq_some_iff.mp h;cases h;rw[zmL h2,zh2 h1];rfl
   |false=>cases h
  |_=>cases h
noncomputable def ziX:D->Option (List IP)|.dic ((.bl true,.non)::ds)=>psX ds|_=>none
def zl7{d:D}{ps:List IP}(h:ziX d=some ps):d=zd9 ps:=by
 unfold ziX at h;split at h
 ·rw[zmL h];rfl
 ·cases h
noncomputable def zgc(i:Nat)(ρ:Env):Option (List IP):=match ρ[i]? with|some (some (true,d))=>ziX d|_=>none
def zfu{i:Nat}{ρ:Env}{ps:List IP}(h:zgc i ρ=some ps):ρ[i]?=some (some (true,zd9 ps)):=by
 unfold zgc at h;split at h
 ·rename_i d e;rw[e,zl7 h]
 ·cases h
noncomputable def zdb(ps:List IP)(p:IP):List IP:=if p∈ps then ps else ps++[p]
def zmj:Fe:=fun _ S=>.ok (zd9 []) S
def zgg(i:Nat)(fk:Fe):Fs:=fun ρ S=>match zgc i ρ with
 |some ps=>(match fk ρ S with
  |.ok d S1=>(match zhi d with
   |some p=>if ps.length<=100000 then .nx (ρ.set i (some (true,zd9 (zdb ps p)))) S1 else .bad
   |none=>.bad)
  |.exc c S1=>.ex c ρ S1|.bad=>.bad)
 |none=>.bad
def zkE(i:Nat):Fe:=fun ρ S=>match zgc i ρ with|some ps=>if ps.length<=100000 then .ok (.int ps.length) S else .bad|none=>.bad
section
variable{cl:Cf}{w:Wd}{X:Cx}{E:St->XK}{own:Bool}{i:Nat}{x:Str}{pos px:Pos}{a:Expr}{f:Fe}
def zq7{o:HO}{ps:List IP}(h:Exd cl w o (pdD ps)):∃a' xs,o=.ext (DP cl.P cl.wo a' xs)/\xs.map (·.1)=ps/\∀x∈xs,w.H x.2=some (.tup [.int x.1.1,.int x.1.2])/\w.ow x.2=none:=by
 generalize hq:pdD ps=ds at h
 cases h with
 | @pd a xs h=>
  have:=congrArg psX hq;rw[zhZ,zhZ]at this;exact⟨a,xs,rfl,(Option.some.inj this).symm,h⟩
def Rel.dcx{B:Base}{σ:St}{ρ:Env}{S:Sto}{i:Nat}{ps:List IP}(R:Rel cl B σ w ρ S)(h:ρ[i]?=some (some (true,zd9 ps))):∃a a' xs,σ[i]?=some (some (.ref a))/\w.ow a=some (.slot i)/\w.H a=some (.ext (DP cl.P cl.wo a' xs))/\xs.map (·.1)=ps/\∀x∈xs,w.H x.2=some (.tup [.int x.1.1,.int x.1.2])/\w.ow x.2=none:=by
 obtain⟨v,e1,r⟩:=R.slots i true _ h
 rcases r with⟨a,o,rfl,h1,h2,t⟩|r
 ·have t':Top cl w o (.dic ((.bl true,.non)::pdD ps)):=t;generalize hq:pdD ps=q at t'
  cases t' with
  |dicK z=>cases z|dicX x=>
   rw[<-hq]at x;obtain⟨a',xs,rfl,g1,g2⟩:=zq7 x;exact⟨a,a',xs,e1,h1,h2,g1,g2⟩
 ·obtain⟨_,_,_,_,e,_⟩:=r.ex;unfold zd9 zhj at e
  injection e with e
  injection e with e _
  injection e with e _
  cases e
def znF(sm:Same' cl X):PE X (.Dict [] [] pos) (tN cl E zmj):=by
 refine PE.imp zlJ ?_;rintro σ H Q ⟨B,w,ρ,S,rfl,R,q⟩ p hp;rw[sm.pp,sm.ww];exact q p _ w R (Fut.refl _) hp (.dicX (.pd (xs:=[]) fun x hx=>nomatch hx))
def znB(sm:Same' cl X){p:Pos}(hg:Gl X "len")(hm:X.mg "len"=none)(hN:X.N[i]?=some x)(hv:Vis X.env.scope x)(hd:(x==("__debug__":Str))=false)(hcd:(x==("__classdict__":Str))=false):PE X (.Call (.Name "len" p) [.Name x px] [] pos) (tE cl E (zkE i)):=by
 refine PE.imp (zdo zkQ hg hm PySem.boot_len (zb7 (zbQ hN hv hd hcd) zdX)) ?_;rintro σ H Q ⟨B,w,ρ,S,rfl,R,q⟩;unfold zkE at q
 cases hs:zgc i ρ with
 |none=>rw[hs]at q;exact q.elim|some ps=>
  rw[hs]at q;dsimp only at q
  by_cases hz:ps.length<=100000
  ·rw[if_pos hz]at q;obtain⟨a,a',xs,e1,h1,h2,h3,h4⟩:=R.dcx (zfu hs)
   have hl:xs.length=ps.length:=by rw[<-h3,yaf]
   exact⟨_,e1,a,a',xs,rfl,by rw[sm.pp,sm.ww];exact h2,by omega,by rw[hl];exact q _ w R (Fut.refl _) (.int _)⟩
  ·rw[if_neg hz]at q;exact q.elim
def znn{kk:Nat}{pc p3:Pos}(hu:X.A.units+1<cLine)(sm:Same' cl X)(hN:X.N[i]?=some x)(hv:Vis X.env.scope x)(hd:(x==("__debug__":Str))=false)(hcd:(x==("__classdict__":Str))=false)(hk:PE X a (tE cl E f))
  (ha:∀v,assign (.Subscript (.Name x px) a p3) X.env v=(do
   let ov ← holding [v] (eval (.Name x px) X.env)
   let iv ← holding [v,ov] (eval a X.env)
   standAt p3
   holding [v,ov,iv] (setItem ov iv v)
   release [v,ov,iv] [])):
  PS X (.Assign [.Subscript (.Name x px) a p3] (.Constant (.bool true) kk pc) pos) (tS cl E own (zgg i f)):=by
 refine PS.imp (zhY (zp6 (b:=true)) (zjN (zbQ hN hv hd hcd) hk (zlm hu) ha) rfl rfl rfl) ?_;rintro De σ H ⟨B,w,ρ,S,rfl,R,q⟩;unfold zgg at q
 cases hs:zgc i ρ with
 |none=>rw[hs]at q;exact q.elim|some ps=>
  rw[hs]at q;obtain⟨a0,a',xs,e1,h1,h2,h3,h4⟩:=R.dcx (zfu hs);refine⟨_,e1,B,w,ρ,S,rfl,R,?_⟩
  cases hf:f ρ S with
  |bad=>rwa[hf]at q|exc c S1=>rw[hf]at q;exact fun w' R' F'=>q σ w' R' F'|ok d S1=>
   rw[hf]at q;dsimp only at q
   cases hp:zhi d with
   |none=>rw[hp]at q;exact q.elim|some p=>
    rw[hp]at q;dsimp only at q
    by_cases hz:ps.length<=100000
    ·rw[if_pos hz]at q;intro v w' R' F' sh;obtain⟨b0,b',ys,f1,g1,g2,g3,g4⟩:=R'.dcx (zfu hs);rw[e1]at f1;cases f1;rw[zh2 hp]at sh
     obtain⟨kb,rfl,hkb,ko⟩:∃kb,v=.ref kb/\w'.H kb=some (.tup [.int p.1,.int p.2])/\w'.ow kb=none:=by
      have sh':Shd cl w' v (.tup [.int p.1,.int p.2]):=sh
      cases sh' with
      |tup e k r=>
       cases r with
       |cons r1 t=>
        cases t with
        |cons r2 t2=>
         cases t2;cases r1;cases r2;exact⟨_,rfl,e,k⟩
     have hl:ys.length=ps.length:=by rw[<-g3,yaf]
     refine⟨a0,b',kb,p,ys,rfl,rfl,rfl,hkb,by rw[sm.pp,sm.ww];exact g2,fun y hy=>(g4 y hy).1,by omega,?_⟩;rw[sm.pp,sm.ww];have ff:Fut w' (w'.mut a0 (.ext (DP cl.P cl.wo b' (zjF ys p kb)))):=zdc (by rw[g1];exact yaI _)
     have em:(zjF ys p kb).map (·.1)=zdb ps p:=by
      unfold zjF zdb;rw[g3];split
      ·exact g3
      ·rw[ybN,g3];rfl
     have ex:Exd cl w' (.ext (DP cl.P cl.wo b' (zjF ys p kb))) (pdD (zdb ps p)):=by
      have:=Exd.pd (cl:=cl) (w:=w') (a:=b') (xs:=zjF ys p kb) fun y hy=>by
       unfold zjF at hy;split at hy
       ·exact g4 y hy
       ·rcases ybK.mp hy with hy|hy
        ·exact g4 y hy
        ·rcases yaO.mp hy with rfl
         exact⟨hkb,ko⟩
      rwa[em]at this
     exact q σ _ (R'.mut (d0:=.non) e1 g1 (.dicX ex)) (F'.trans ff)
    ·rw[if_neg hz]at q;exact q.elim
end
noncomputable def zox:D->Bool|.lst _=>true|_=>false
def zow{d:D}(h:zox d=true):∃l,d=.lst l:=by cases d<;>first|exact⟨_,rfl⟩|cases h
noncomputable def Base.ext(B:Base)(w:Wd)(bs:List Addr):Base:=⟨fun a=>if a∈bs then w.H a else B.Fr a,fun a=>if a∈bs then some .far else B.fw a⟩
noncomputable def Far(cl:Cf)(B:Base)(w:Wd):List Addr->List (List D)->Prop:=Paired fun b row=>(w.ow b=some .far/\B.Fr b=none)/\∃xs,w.H b=some (.lst xs)/\Shds cl w xs row
section
variable{cl:Cf}{B:Base}{w w':Wd}{S:Sto}
theorem Far.mem:∀{bs:List Addr}{rows:List (List D)},Far cl B w bs rows->∀b∈bs,w.ow b=some .far/\B.Fr b=none/\∃xs,w.H b=some (.lst xs)
 |_,_,.nil,_,h=>by cases h
 |_,_,.cons h t,b,hb=>by
  rcases yav.mp hb with rfl|hb
  ·obtain⟨xs,e,_⟩:=h.2;exact⟨h.1.1,h.1.2,xs,e⟩
  ·exact Far.mem t b hb
theorem Far.move{B':Base}:∀{bs:List Addr}{rows:List (List D)},Far cl B w bs rows->(F:Fut w w')->(∀b∈bs,w'.ow b=some .far/\B'.Fr b=none/\w'.H b=w.H b)->Far cl B' w' bs rows
 |_,_,.nil,_,_=>.nil|_,_,.cons h t,F,k=>by
  obtain⟨xs,e,r⟩:=h.2;obtain⟨k1,k2,k3⟩:=k _ (.head _);exact .cons ⟨⟨k1,k2⟩,xs,k3.trans e,r.up F⟩ (Far.move t F fun b hb=>k b (.tail _ hb))
theorem Far.snoc{b:Addr}{row:List D}(h:(w.ow b=some .far/\B.Fr b=none)/\∃xs,w.H b=some (.lst xs)/\Shds cl w xs row):∀{bs:List Addr}{rows:List (List D)},Far cl B w bs rows->Far cl B w (bs++[b]) (rows++[row])
 |_,_,.nil=>.cons h .nil|_,_,.cons h' t=>.cons h' (Far.snoc h t)
theorem Far.length:∀{bs:List Addr}{rows:List (List D)},Far cl B w bs rows->bs.length=rows.length
 |_,_,.nil=>rfl|_,_,.cons _ t=>by rw[yae,yae,Far.length t]
theorem World'.ext(W:World' cl B w S){bs:List Addr}(h:∀b∈bs,w.ow b=some .far):World' cl (B.ext w bs) w S where
 fr:=fun a o e=>by
  have e':(if a∈bs then w.H a else B.Fr a)=some o:=e;show w.H a=some o/\w.ow a=(if a∈bs then some .far else B.fw a);split at e'
  ·rename_i ha;rw[if_pos ha];exact⟨e',h a ha⟩
  ·rename_i ha;rw[if_neg ha];exact W.fr a o e'
 own:=fun a r e=>by
  show r=.far\/(if a∈bs then w.H a else B.Fr a)=none
  by_cases ha:a∈bs
  ·rw[h a ha]at e;cases e;exact .inl rfl
  ·rw[if_neg ha];exact W.own a r e
 len:=W.len
 obj:=W.obj
def World'.unext{bs:List Addr}{w0:Wd}(W:World' cl (B.ext w0 bs) w S)(h:∀b∈bs,B.Fr b=none):World' cl B w S where
 fr:=fun a o e=>by
  by_cases ha:a∈bs
  ·rw[h a ha]at e;cases e
  ·have:=W.fr a o (by show(if a∈bs then w0.H a else B.Fr a)=_;rw[if_neg ha];exact e);refine⟨this.1,this.2.trans ?_⟩;show(if a∈bs then some .far else B.fw a)=_;rw[if_neg ha]
 own:=fun a r e=>by
  by_cases ha:a∈bs
  ·exact .inr (h a ha)
  ·rcases W.own a r e with z|z
   ·exact .inl z
   ·have z':(if a∈bs then w0.H a else B.Fr a)=none:=z;rw[if_neg ha]at z';exact .inr z'
 len:=W.len
 obj:=W.obj
def World'.extAt{bs:List Addr}{w0:Wd}(W:World' cl (B.ext w0 bs) w S){b:Addr}(hb:b∈bs){o:HO}(h:w0.H b=some o):w.H b=some o/\w.ow b=some .far:=by
 have:=W.fr b o (by show(if b∈bs then w0.H b else B.Fr b)=_;rw[if_pos hb];exact h);refine⟨this.1,this.2.trans ?_⟩;show(if b∈bs then some .far else B.fw b)=_;rw[if_pos hb]
def Wd.addFar(w:Wd)(p:Addr)(o:HO):Wd:=⟨upd w.H p o,fun a=>if a=p then some .far else w.ow a,w.mu⟩
def zma{p:Addr}(h:w.H p=none)(o:HO):Grow w (w.addFar p o)where
 keep:=fun a u ha=>by
  have n:a≠p:=zao ha h;refine⟨?_,?_⟩
  ·show upd w.H p o a=_;rw[zah n];exact ha
  ·show(if a=p then some .far else w.ow a)=_;rw[if_neg n]
 new:=fun a r h1 h2=>by
  have h1':(if a=p then some .far else w.ow a)=some r:=h1;split at h1'
  ·cases h1';exact .inr rfl
  ·exact .inl h1'
 mu:=rfl
end
noncomputable def tM(cl:Cf)(E:St->XK)(f:Fe):TE:=fun σ H Q=>∃B w ρ S,w.H=H/\Rel cl B σ w ρ S/\match f ρ S with
 |.ok d S'=>∀p bs rows w',d=.lst (rows.map D.lst)->Rel cl B σ w' ρ S'->Fut w w'->w'.H p=none->bs.Nodup->Far cl B w' bs rows->Q (.ref p) (upd w'.H p (.lst (bs.map V.ref)))|.exc c S'=>∀w',Rel cl B σ w' ρ S'->Fut w w'->E σ (.ref (cl c)) none w'.H|.bad=>False
def zfj(n:Nat)(tg:Tg)(it:Fi)(c elt:Fe)(caps:List Nat):Fe:=fun ρ S=>(it ρ S).bind fun ds S1=>match zaS tg c elt (zat n caps ρ) ds S1 with
 |.ok ys S2=>if zaL ys.length&&ys.all zox then .ok (.lst ys) S2 else .bad
 |_=>.bad
section
variable{X:Cx}{cl:Cf}{E:St->XK}
def zm5{fi:Fi}{t:Tg}{fc fe:Fe}{n:Nat}{caps:List (Str×Nat)}{σ:St}{H:Hp}{Q:VK}(q:tM cl E (zfj n t fi fc fe (caps.map (·.2))) σ H Q):
  zf9 (tI cl E fi) (tG cl n t) (tTr cl noE fc) (tN cl noE fe) n caps σ H Q:=by
 obtain⟨B,w,ρ,S,rfl,R,q⟩:=q;refine⟨B,w,ρ,S,rfl,R,?_⟩;unfold zfj at q
 cases hf:fi ρ S with
 |bad=>rwa[hf]at q|exc c S1=>rwa[hf]at q|ok ds S1=>
  rw[hf]at q;dsimp only[Out.bind]at q;intro J w0 R0 F0 hJ
  cases hcd:zaS t fc fe (zat n (caps.map (·.2)) ρ) ds S1 with
  |bad=>rw[hcd]at q;exact q.elim|exc _ _=>rw[hcd]at q;exact q.elim|ok all Sf=>
   rw[hcd]at q;dsimp only at q
   cases hz:(zaL all.length&&all.all zox)with
   |false=>rw[hz,if_neg (by decide)]at q;exact q.elim
   |true=>
    rw[hz,if_pos rfl]at q;rw[yac]at hz;obtain⟨hz,hlst⟩:=hz;dsimp only at q
    refine⟨fun i m ys σ' H'=>m=ds.length-i/\i<=ds.length/\σ'.length=n+caps.length/\σ'.drop n=(caps.map fun p=>(σ[p.2]?).join)/\∃w1 S2 bs rows zbF,w1.H=H'/\Fut w0.inn w1/\World' cl w0.base w1 S2/\ys=bs.map V.ref/\bs.Nodup/\Far cl w0.base w1 bs rows/\zaS t fc fe (zat n (caps.map (·.2)) ρ) (ds.drop i) S2=.ok zbF Sf/\rows.map D.lst++zbF=all,
     ⟨ds.length,by simp,ybh _,by simp[capσ],by simp[capσ],w0.inn,S1,[],[],all,rfl,Fut.refl _,R0.wd.enter,rfl,ycH,.nil,by rw[ycI];exact hcd,rfl⟩,?_⟩
    rintro i m ys σ1 H1 ⟨rfl,hi,hl1,hd1,w1,S2,bs,rows,zbF,rfl,F1,W1,rfl,nd,fa,hrest,hall⟩;refine⟨?_,?_⟩
    ·rw[yaf,fa.length];refine yan ?_ (zaO hz);rw[<-hall,yao,yaf];omega
    have F1':Fut w0 w1:=(zbS w0).trans F1
    by_cases hlt:i<ds.length
    ·obtain⟨d,hdi⟩:∃d,ds[i]?=some d:=⟨ds[i],yad hlt⟩
     have hdr:ds.drop i=d::ds.drop (i+1):=by
      rw[yby hlt];rw[yad hlt]at hdi;cases hdi;rfl
     rw[hdr]at hrest;unfold zaS at hrest;refine .inr ⟨hJ.go w1 F1' i hlt,fun x H' y=>?_⟩;obtain⟨w2,rfl,g2,s2⟩:=hJ.yld w1 F1' i d x H' hdi y;have fm:=fa.mem;have WB:World' cl (w0.base.ext w1 bs) w1 S2:=W1.ext fun b hb=>(fm b hb).1
     have R1:Rel cl (w0.base.ext w1 bs) σ1 w2 (zat n (caps.map (·.2)) ρ) S2:=zgA R0 (WB.grow g2) (F1'.trans g2.fut) hl1 hd1
     have late:∀{w4:Wd}{S4:Sto},World' cl (w0.base.ext w1 bs) w4 S4->Fut w1 w4->World' cl w0.base w4 S4/\Far cl w0.base w4 bs rows:=fun {w4 S4} W4 F4=>
      ⟨W4.unext fun b hb=>(fm b hb).2.1,fa.move F4 fun b hb=>by
       obtain⟨_,h2,xs,h3⟩:=fm b hb;obtain⟨k1,k2⟩:=W4.extAt hb h3
       exact⟨k2,h2,k1.trans h3.symm⟩⟩
     cases hp:t.put (zat n (caps.map (·.2)) ρ) d with
     |none=>rw[hp]at hrest;cases hrest|some ρ1=>
      rw[hp]at hrest;dsimp only at hrest;refine⟨w0.base.ext w1 bs,w2,_,S2,d,ρ1,rfl,R1,s2,hp,fun σ2 hk1 hk2 R2=>⟨w0.base.ext w1 bs,w2,ρ1,S2,rfl,R2,?_⟩⟩
      cases hc:fc ρ1 S2 with
      |bad=>rw[hc]at hrest;cases hrest|exc _ _=>rw[hc]at hrest;cases hrest|ok b S3=>
       rw[hc]at hrest;dsimp only[Out.bind]at hrest ⊢
       cases hb:isB b with
       |none=>rw[hb]at hrest;cases hrest|some bb=>
        rw[hb]at hrest;intro w3 R3 F3
        cases bb with
        |false=>
         obtain⟨W3,fa3⟩:=late R3.wd (g2.fut.trans F3);exact zl5 ⟨ds.length-(i+1),by omega,rfl,hlt,hk1.trans hl1,hk2.trans hd1,w3,S3,bs,rows,zbF,rfl,F1.trans (g2.fut.trans F3),W3,rfl,nd,fa3,hrest,hall⟩
        |true=>
         refine zl4 ⟨w0.base.ext w1 bs,w3,ρ1,S3,rfl,R3,?_⟩;dsimp only at hrest
         cases he:fe ρ1 S3 with
         |bad=>rw[he]at hrest;cases hrest|exc _ _=>rw[he]at hrest;cases hrest|ok yv S4=>
          rw[he]at hrest;dsimp only at hrest
          cases hr:zaS t fc fe (zat n (caps.map (·.2)) ρ) (ds.drop (i+1)) S4 with
          |bad=>rw[hr]at hrest;cases hrest|exc _ _=>rw[hr]at hrest;cases hrest|ok zs S5=>
           rw[hr]at hrest;cases hrest;intro p o w4 R4 F4 hp4 top4;have ff:=g2.fut.trans (F3.trans F4);obtain⟨W4,fa4⟩:=late R4.wd ff;have hyl:zox yv=true:=ybj.mp hlst yv (by rw[<-hall];exact yaF _ (.head _));obtain⟨row,rfl⟩:=zow hyl
           cases top4 with
           |lst rs=>
           rename_i xs;have gf:=zma (w:=w4) hp4 (.lst xs)
           have hpB:w0.base.Fr p=none:=by
            cases z:w0.base.Fr p with
            |none=>rfl|some u=>have:=(W4.fr p u z).1;rw[hp4]at this;cases this
           have fm4:=fa4.mem
           have hpn:p ∉ bs:=fun z=>by obtain⟨_,_,xs',e⟩:=fm4 p z;rw[hp4]at e;cases e
           refine⟨ds.length-(i+1),by omega,rfl,hlt,hk1.trans hl1,hk2.trans hd1,w4.addFar p (.lst xs),S4,bs++[p],rows++[row],zs,rfl,F1.trans (ff.trans gf.fut),W4.grow gf,?_,?_,?_,hr,?_⟩
           ·rw[ybN];rfl
           ·rw[ycf];refine⟨nd,by simp,fun a ha b hb=>?_⟩;rw[yaO.mp hb];exact fun z=>hpn (z ▸ ha)
           ·refine Far.snoc ⟨⟨if_pos rfl,hpB⟩,xs,zau,rs.up gf.fut⟩ (fa4.move gf.fut fun b hb=>?_);obtain⟨h1,h2,xs',h3⟩:=fm4 b hb;have:=gf.keep b _ h3;exact⟨this.2.trans h1,h2,this.1.trans h3.symm⟩
           ·rw[ybN,ycb];exact hall
    ·have e:i=ds.length:=by omega
     subst e;rw[List.drop_length]at hrest;cases hrest;rw[yaU]at hall;subst hall;refine .inl ⟨hJ.stop w1 F1',fun p hp=>?_⟩;obtain⟨Rb,Fb⟩:=R0.leave W1 F1;have fm:=fa.mem;refine q p bs rows (w0.back w1) rfl Rb (F0.trans Fb) hp nd (fa.move (zcn W1) fun b hb=>?_);obtain⟨h1,h2,_⟩:=fm b hb;refine⟨?_,?_,rfl⟩
     ·show(if(w0.base.Fr b).isSome=true then w0.ow b else Root.out (w1.ow b))=_;rw[h2,h1];rfl
     ·cases z:B.Fr b with
      |none=>rfl|some u=>have:=zcT R0.wd z;rw[h2]at this;cases this
end
def Wd.addNst(w:Wd)(p:Addr)(bs:List Addr)(r:Root):Wd:=⟨upd w.H p (.lst (bs.map V.ref)),fun a=>if a=p\/a∈bs then some r else if w.ow a=some r then some .far else w.ow a,w.mu⟩
section
variable{cl:Cf}{B:Base}{σ:St}{w:Wd}{ρ:Env}{S:Sto}
def Rel.own2{i:Nat}{p:Addr}{bs:List Addr}{rows:List (List D)}(R:Rel cl B σ w ρ S)(hp:w.H p=none)(nd:bs.Nodup)(fa:Far cl B w bs rows):Rel cl B (σ.set i (some (.ref p))) (w.addNst p bs (.slot i)) (ρ.set i (some (true,zhj (rows.map D.lst)))) S/\Fut w (w.addNst p bs (.slot i)):=by
 have fm:=fa.mem
 have kp:∀a u,w.H a=some u->w.ow a≠some (.slot i)->w.ow a≠some .far->(w.addNst p bs (.slot i)).H a=some u/\(w.addNst p bs (.slot i)).ow a=w.ow a:=fun a u ha hk hf=>by
  have n:a≠p:=zao ha hp;have n2:¬ (a=p\/a∈bs):=fun z=>z.elim n fun z=>hf (fm a z).1
  refine⟨?_,?_⟩
  ·show upd w.H p _ a=_;rw[zah n];exact ha
  ·show(if a=p\/a∈bs then _ else if w.ow a=some (Root.slot i)then some Root.far else w.ow a)=_;rw[if_neg n2,if_neg hk]
 have ff:Fut w (w.addNst p bs (.slot i)):=⟨fun a u ha hk=>by
  have:=kp a u ha (by rw[hk];exact fun z=>by cases z) (by rw[hk];exact fun z=>by cases z)
  exact⟨this.1,this.2.trans hk⟩,fun _ _ h=>h⟩
 have hBp:B.Fr p=none:=by
  cases z:B.Fr p with
  |none=>rfl|some u=>have:=(R.wd.fr p u z).1;rw[hp]at this;cases this
 refine⟨⟨⟨fun a u h=>?_,fun a r h=>?_,R.wd.len,fun n ob h=>?_⟩,by rw[yaw,yaw];exact R.len,fun j b e hj=>?_⟩,ff⟩
 ·have hne:w.ow a≠some (.slot i):=fun z=>by
   rcases R.wd.own a _ z with y|y
   ·cases y
   ·rw[h]at y;cases y
  have h0:=R.wd.fr a u h;have n:a≠p:=zao h0.1 hp
  have n2:¬ (a=p\/a∈bs):=fun z=>z.elim n fun z=>by rw[(fm a z).2.1]at h;cases h
  refine⟨?_,?_⟩
  ·show upd w.H p _ a=_;rw[zah n];exact h0.1
  ·show(if a=p\/a∈bs then _ else if w.ow a=some (Root.slot i)then some Root.far else w.ow a)=_;rw[if_neg n2,if_neg hne];exact h0.2
 ·have h':(if a=p\/a∈bs then some (Root.slot i)else if w.ow a=some (Root.slot i)then some Root.far else w.ow a)=some r:=h;split at h'
  ·rename_i e
   rcases e with e|e
   ·rw[e];exact .inr hBp
   ·exact .inr (fm a e).2.1
  ·split at h'
   ·cases h';exact .inl rfl
   ·exact R.wd.own a r h'
 ·obtain⟨a,e,x⟩:=R.wd.obj n ob h;exact⟨a,e,x.keep ff fun b u hb hn=>kp b u hb (fun z=>by rwa[z]at hn) fun z=>by rwa[z]at hn⟩
 ·by_cases hij:i=j
  ·subst hij
   have hlt:i<ρ.length:=by
    have:=(yaj.mp hj).1;rwa[yaw]at this
   rw[yap hlt]at hj;cases hj
   have hpn:p ∉ bs:=fun z=>by obtain⟨_,_,xs,e⟩:=fm p z;rw[hp]at e;cases e
   have rowsOk:∀{cs:List Addr}{rs:List (List D)},(∀b∈cs,b∈bs)->Far cl B w cs rs->zeV cl (w.addNst p bs (.slot i)) (.slot i) cs rs:=by
    intro cs rs hsub h
    induction h with
    |nil=>exact .nil|cons h t ih=>
     rename_i b row cs rs;obtain⟨xs,e,r⟩:=h.2;have hb:=hsub b (.head _);refine .cons ⟨if_pos (.inr hb),xs,?_,r.up ff⟩ (ih fun b hb=>hsub b (.tail _ hb));show upd w.H p _ b=_;rw[zah (by rintro rfl;exact hpn hb)];exact e
   exact⟨.ref p,by rw[yap (by rw[R.len];exact hlt)],.inr ⟨p,bs,rows,rfl,rfl,if_pos (.inl rfl),zau,hpn,nd,rowsOk (fun _ h=>h) fa⟩⟩
  ·rw[yaE hij]at hj ⊢;obtain⟨v,e1,x⟩:=R.slots j b e hj;refine⟨v,e1,x.keep ff fun a u ha hr=>?_⟩;have:=kp a u ha (by rw[hr];exact fun z=>hij (by cases z;rfl)) (by rw[hr];exact fun z=>by cases z);exact⟨this.1,this.2.trans hr⟩
theorem zeV.mem{r:Root}:∀{bs:List Addr}{rows:List (List D)},zeV cl w r bs rows->∀{k:Nat}{b:Addr},bs[k]?=some b->∃row,rows[k]?=some row/\w.ow b=some r/\∃xs,w.H b=some (.lst xs)/\Shds cl w xs row
 |_,_,.nil,k,b,h=>by cases h
 |_,_,.cons h t,0,b,e=>by cases e;exact⟨_,rfl,h⟩
 |_,_,.cons h t,k+1,b,e=>zeV.mem t (k:=k) e
theorem zeV.len{r:Root}:∀{bs:List Addr}{rows:List (List D)},zeV cl w r bs rows->bs.length=rows.length
 |_,_,.nil=>rfl|_,_,.cons _ t=>by rw[yae,yae,zeV.len t]
theorem zeV.set{r:Root}{w':Wd}(F:Fut w w'):∀{bs:List Addr}{rows:List (List D)},zeV cl w r bs rows->bs.Nodup->∀{k:Nat}{b:Addr}{row:List D},bs[k]?=some b->(∀a,a≠b->w'.H a=w.H a)->w'.ow=w.ow->(∃xs,w'.H b=some (.lst xs)/\Shds cl w' xs row)->zeV cl w' r bs (rows.set k row)
 |[],[],.nil,_,k,b,row,h,_,_,_=>by cases h
 |a0::bs,r0::rows,.cons h t,nd,0,b,row,e,k1,k2,k3=>by
  cases e;rw[ya7]at nd;refine .cons ⟨by rw[k2];exact h.1,k3⟩ ?_
  have go:∀{bs:List Addr}{rows:List (List D)},zeV cl w r bs rows->a0 ∉ bs->zeV cl w' r bs rows:=by
   intro bs rows h
   induction h with
   |nil=>intro _;exact .nil|cons h t ih=>
    rename_i c row' cs rs;intro hb;obtain⟨xs,e,r⟩:=h.2;refine .cons ⟨by rw[k2];exact h.1,xs,?_,r.up F⟩ (ih fun z=>hb (.tail _ z));rw[k1 c (by rintro rfl;exact hb (.head _))];exact e
  exact go t nd.1
 |a0::bs,r0::rows,.cons h t,nd,k+1,b,row,e,k1,k2,k3=>by
  rw[ya7]at nd;have e':bs[k]?=some b:=e;have hm:b∈bs:=ybl e';obtain⟨xs,e2,r⟩:=h.2;refine .cons ⟨by rw[k2];exact h.1,xs,?_,r.up F⟩ (zeV.set F t nd.2 (k:=k) e' k1 k2 k3);rw[k1 a0 (by rintro rfl;exact nd.1 hm)];exact e2
def Rel.mut2{i k:Nat}{a b:Addr}{bs:List Addr}{rows:List (List D)}{xs:List V}{row:List D}(R:Rel cl B σ w ρ S)(hs:σ[i]?=some (some (.ref a)))(ha:w.ow a=some (.slot i))(hH:w.H a=some (.lst (bs.map V.ref)))(hn:a ∉ bs)(nd:bs.Nodup)(nr:zeV cl w (.slot i) bs rows)(hb:bs[k]?=some b)(sh:Shds cl w xs row):
  Rel cl B σ (w.mut b (.lst xs)) (ρ.set i (some (true,zhj ((rows.set k row).map D.lst)))) S/\Fut w (w.mut b (.lst xs)):=by
 obtain⟨_,_,hk,_⟩:=nr.mem hb;have ff:=zdc (w:=w) (p:=b) (o:=.lst xs) (by rw[hk];exact yaI _)
 have kp:∀a u,w.H a=some u->w.ow a≠some (.slot i)->(w.mut b (.lst xs)).H a=some u/\(w.mut b (.lst xs)).ow a=w.ow a:=fun a u ha hn=>⟨by
  show upd w.H b _ a=_
  rw[zah (fun z=>hn (by rw[z];exact hk))];exact ha,rfl⟩
 refine⟨⟨⟨fun a u h=>?_,R.wd.own,R.wd.len,fun n ob h=>?_⟩,by rw[yaw];exact R.len,fun j o e hj=>?_⟩,ff⟩
 ·have hne:w.ow a≠some (.slot i):=fun z=>by
   rcases R.wd.own a _ z with y|y
   ·cases y
   ·rw[h]at y;cases y
  have:=kp a u (R.wd.fr a u h).1 hne;exact⟨this.1,(R.wd.fr a u h).2⟩
 ·obtain⟨a,e,x⟩:=R.wd.obj n ob h;exact⟨a,e,x.keep ff fun b u hb hn=>kp b u hb fun z=>by rwa[z]at hn⟩
 ·by_cases hij:i=j
  ·subst hij
   have hlt:i<ρ.length:=by
    have:=(yaj.mp hj).1;rwa[yaw]at this
   rw[yap hlt]at hj;cases hj;have hab:a≠b:=fun z=>hn (z ▸ ybl hb)
   refine⟨.ref a,hs,.inr ⟨a,bs,rows.set k row,rfl,rfl,ha,?_,hn,nd,nr.set ff nd hb (fun c hc=>zah hc) rfl ⟨xs,zau,sh.up ff⟩⟩⟩;show upd w.H b _ a=_;rw[zah hab];exact hH
  ·rw[yaE hij]at hj;obtain⟨v,e1,x⟩:=R.slots j o e hj;refine⟨v,e1,x.keep ff fun a u ha hr=>?_⟩;have:=kp a u ha (by rw[hr];exact fun z=>hij (by cases z;rfl));exact⟨this.1,this.2.trans hr⟩
end
def zg9(i:Nat)(f:Fe):Fs:=fun ρ S=>match f ρ S with|.ok (.lst l) S'=>.nx (ρ.set i (some (true,zhj l))) S'|.ok _ _=>.bad|.exc c S'=>.ex c ρ S'|.bad=>.bad
section
variable{X:Cx}{cl:Cf}{E:St->XK}{own:Bool}{e:Expr}{fe:Fe}{pos pos':Pos}
def zrv{i:Nat}{De:Ends}{σ:St}{H:Hp}(q:tS cl E own (zg9 i fe) De σ H):zmB (tM cl E fe) (zhq i) De σ H:=by
 obtain⟨B,w,ρ,S,rfl,R,q⟩:=q;refine⟨B,w,ρ,S,rfl,R,?_⟩;unfold zg9 at q
 cases hf:fe ρ S with
 |bad=>rwa[hf]at q|exc c S1=>rw[hf]at q;exact fun w' R' F'=>q σ w' R' F'|ok d S1=>
  rw[hf]at q;intro p bs rows w' ed R' F' hp nd fa;subst ed;obtain⟨R2,F2⟩:=R'.own2 (i:=i) hp nd fa;exact q _ _ R2 (F'.trans F2)
def pkI(l:List D)(c:Int):Option Int:=match atI l c with|some (.int n)=>some n|_=>none
def zqR{n k:Nat}{i:Int}(h:ixN n i=some k):k<n:=(zho h).2.1
def zmM{l:List D}{c n:Int}(h:pkI l c=some n):atI l c=some (.int n):=by
 unfold pkI at h;split at h
 ·rename_i e;cases h;exact e
 ·cases h
def zg6(i j:Nat)(c1 c2:Int)(fe:Fe):Fs:=fun ρ S=>match fe ρ S with
 |.ok d S1=>(match ρ[i]?,ρ[j]? with
  |some (some (true,.dic [(.exc _,.lst l)])),some (some (false,.tup y))=>(match pkI y c1,pkI y c2 with
   |some n,some m=>(match ixN l.length n with
    |some k=>(match l[k]? with
     |some (.lst row)=>(match ixN row.length m with
      |some k2=>.nx (ρ.set i (some (true,zhj (l.set k (.lst (row.set k2 d)))))) S1|none=>.bad)
     |_=>.bad)
    |none=>.bad)
   |_,_=>.bad)
  |_,_=>.bad)
 |.exc c S1=>.ex c ρ S1|.bad=>.bad
def znk{i j:Nat}{x y:Str}{c1 c2:Int}{k1 k2:Nat}{p2 p3 p4 p5 p6 p7 p8 p9 p10:Pos}(hN:X.N[i]?=some x)(hv:Vis X.env.scope x)(hd:(x==("__debug__":Str))=false)(hcd:(x==("__classdict__":Str))=false)
  (hN':X.N[j]?=some y) (hv':Vis X.env.scope y) (hd':(y==("__debug__":Str))=false) (hcd':(y==("__classdict__":Str))=false) (he:PE X e (tE cl E fe))
  (sw1:swapsWithSole [.Subscript (.Subscript (.Name x p2) (.Subscript (.Name y p4) (.Constant (.int c1) k1 p5) p6) p7) (.Subscript (.Name y p8) (.Constant (.int c2) k2 p9) p10) p3] e pos.line X.env=pure false)
  (sw2:swappedStores [.Subscript (.Subscript (.Name x p2) (.Subscript (.Name y p4) (.Constant (.int c1) k1 p5) p6) p7) (.Subscript (.Name y p8) (.Constant (.int c2) k2 p9) p10) p3] e X.env=pure none):
  PS X (.Assign [.Subscript (.Subscript (.Name x p2) (.Subscript (.Name y p4) (.Constant (.int c1) k1 p5) p6) p7) (.Subscript (.Name y p8) (.Constant (.int c2) k2 p9) p10) p3] e pos) (tS cl E own (zg6 i j c1 c2 fe)):=by
 refine PS.imp (zhY he (zjN (zjQ zhn (zbQ hN hv hd hcd) (zjQ zkl (zbQ hN' hv' hd' hcd') zjR fun _ _=>rfl) fun _ _=>rfl) (zjQ zkl (zbQ hN' hv' hd' hcd') zjR fun _ _=>rfl) zln) sw1 sw2 rfl) ?_;rintro De σ H ⟨B,w,ρ,S,rfl,R,q⟩;refine⟨B,w,ρ,S,rfl,R,?_⟩;unfold zg6 at q
 cases hf:fe ρ S with
 |bad=>rwa[hf]at q|exc c S1=>rw[hf]at q;exact fun w' R' F'=>q σ w' R' F'|ok d S1=>
  rw[hf]at q;intro v w1 R1 F1 h1;dsimp only at q;split at q
  ·rename_i s l ys hi hj;split at q
   ·rename_i n m hn hm;split at q
    ·rename_i k hk;split at q
     ·rename_i row hrow;split at q
      ·rename_i k2' hk2;obtain⟨vx,ex,z|hx⟩:=R1.slots i true _ hi
       ·obtain⟨a,o,_,_,_,t⟩:=z
        cases t with
        |dicK h=>cases h
       obtain⟨a,bs,rows,rfl,ed,ha,hH,hna,nd,nr⟩:=hx.ex
       have el:l=rows.map D.lst/\s="":=by
        unfold zhj at ed
        injection ed with ed
        injection ed with ed _
        injection ed with e1 e2
        injection e1 with e1
        injection e2 with e2
        exact⟨e2,e1⟩
       obtain⟨rfl,rfl⟩:=el;obtain⟨vy,ey,hy⟩:=R1.slots j false _ hj
       obtain⟨t,zs,rfl,et,kt,rz⟩:∃t zs,vy=.ref t/\w1.H t=some (.tup zs)/\w1.ow t=none/\Shds cl w1 zs ys:=by
        cases hy with
        |tup e k r=>exact⟨_,_,rfl,e,k,r⟩
       obtain⟨v1,av1,sv1⟩:=zed rz (zmM hn);obtain⟨v2,av2,sv2⟩:=zed rz (zmM hm);cases sv1;cases sv2;rw[yaf]at hk;have hlen:=nr.len
       have hkb:k<bs.length:=by rw[hlen];exact zqR hk
       have hb:bs[k]?=some bs[k]:=yad hkb;obtain⟨row',hr',hob,xs,hxs,shr⟩:=nr.mem hb
       have err:row'=row:=by
        rw[yar,hr']at hrow;cases hrow;rfl
       subst err
       have hat:atI (bs.map V.ref) n=some (.ref bs[k]):=by
        unfold atI;rw[yaf,hlen,hk];show(bs.map V.ref)[k]?=_;rw[yar,hb];rfl
       refine⟨_,ex,_,ey,t,zs,_,_,rfl,rfl,SqT.of et,av1,a,_,n,_,rfl,rfl,SqL.of hH,hat,?_⟩;refine⟨_,ey,t,zs,_,_,rfl,rfl,SqT.of et,av2,?_⟩;obtain⟨R2,F2⟩:=R1.mut2 ex ha hH hna nd nr hb (shr.set h1 k2');refine⟨bs[k],xs,m,k2',rfl,rfl,hxs,by rw[shr.length];exact hk2,?_⟩
       have em:(rows.set k (row'.set k2' d)).map D.lst=(rows.map D.lst).set k (.lst (row'.set k2' d)):=by rw[List.map_set]
       rw[em]at R2;exact q σ _ R2 (F1.trans F2)
      ·exact q.elim
     ·exact q.elim
    ·exact q.elim
   ·exact q.elim
  ·exact q.elim
end
structure FnI where
 ar:Nat
 own:Bool
 run:List D->Sto->Out D
structure ObE where
 cur:Str
 fk:Str->Str->Bool
 df:Str->Bool
 mt:Str->Option (Str×FnI)
 mks:Str->Option (List D×FnI)
structure Genv where
 con:Str->Option D
 fn:Str->Option FnI
 blt:Str->Bool
 exc:Str->Bool
 und:Str->Str->Bool
 isx:Str->Str->Option Bool
 ob:ObE
 ns:Str->Bool
 ds:Str->Bool
abbrev bmV:List Value:=[.type "ValueError",.type "Exception",.type "BaseException",.type "object"]
structure GOk(cl:Cf)(G:Genv)(P:Program)(wo:PySem.World)(K:PySem.W.Frag)(mg:Z6)(base:Heap)(k:Nat):Prop where
 con:∀x d,G.con x=some d->∃v u,mg x=some u/\zbs v u/\∀w,Shd cl w v d
 fn:∀x fi,G.fn x=some fi->∃f fd ps,mg x=some (.ref f)/\PySem.W.keepIn K (.ref f)=true/\zbZ K fd ps []/\FnOk P wo K mg base (CXE P wo) k f fd ps (zf0 cl fi.ar fi.own fi.run)
 blt:∀x,G.blt x=true->mg x=none
 exc:∀c,G.exc c=true->mg c=some (.ref (cl c))/\PySem.W.excIn K (cl c) bmV "ValueError.__new__"=true
 und:∀c C,G.und c C=true->L2.zmx K (cl c) (cl C)
 isx:∀c C b,G.isx c C=some b->PySem.W.ExcCls K (cl c)/\PySem.W.kitOne K (.ref (cl c)) (zrj cl C)=some b
 fk:∀c f,G.ob.fk c f=true->zk3 cl c f
 mt:∀m c fi,G.ob.mt m=some (c,fi)->∃f fd ps,Cls K (cl c)/\Meth K (cl c) m f/\zbZ K fd ps []/\FnOk P wo K mg base (CXE P wo) k f fd ps (zf0 cl fi.ar fi.own fi.run)
 mks:∀c dds fi,G.ob.mks c=some (dds,fi)->∃f fd ps dvs ds k',k'+1<=k/\mg c=some (.ref (cl c))/\Mk K (cl c) f/\zbZ K fd ps []/\zbZ K fd ps ds/\Vals dvs ds/\(∀w,Shds cl w dvs dds)/\FnOk P wo K mg base (CXE P wo) k' f fd ps (zf0 cl fi.ar false fi.run)
noncomputable abbrev Names:=List (Str×NameKind)
structure Gx(cl:Cf)(G:Genv)(k:Nat)(X:Cx)(nm:Names)(N:List Str)(E:St->XK):Prop where
 gok:GOk cl G X.prog X.w X.K X.mg X.base k
 room:Room k X.A
 calm:X.calm=true
 pass:zcU (CXE X.prog X.w) X E
 eN:X.N=N
 kk:X.K=cl.K
 pp:X.prog=cl.P
 ww:X.w=cl.wo
 nd:N.Nodup
 vis:∀x kd,nm.lookup x=some kd->∃kd',X.env.scope.names.lookup x=some kd'/\(kd'=kd\/(kd=.free/\kd'=.cell))
 fnx:∀x,nm.lookup x=some .local->X.env.scope.names.lookup x=some .local
 fnc:∀x,nm.lookup x=some .cell->X.fn x=true
noncomputable def idx:List Str->Str->Option Nat
 |[],_=>none|y::l,x=>if y=x then some 0 else(idx l x).map (·+1)
theorem zeH:∀{N:List Str}{x:Str}{i:Nat},idx N x=some i->N[i]?=some x
 |y::l,x,i,h=>by
  unfold idx at h;split at h
  ·rename_i e;cases h;rw[e];rfl
  ·cases hr:idx l x with
   |none=>rw[hr]at h;cases h|some j=>rw[hr]at h;cases h;simpa using zeH hr
noncomputable def zgu(x:Str):Bool:=!(x==("__debug__":Str))&&!(x==("__classdict__":Str))&&!decide (x="__name__")
def zet{x:Str}(h:zgu x=true):(x==("__debug__":Str))=false/\(x==("__classdict__":Str))=false/\x ≠ "__name__":=by
 unfold zgu at h;simp only[yac,yaW,yb7]at h;exact⟨h.1.1,h.1.2,h.2⟩
noncomputable def zth:Option NameKind->Bool|some .local=>true|some .cell=>true|some .free=>true|_=>false
def zhT(nm:Names)(N:List Str)(x:Str):Option Nat:=if zth (nm.lookup x)&&zgu x then idx N x else none
noncomputable def zbb(nm:Names)(x:Str):Bool:=decide (nm.lookup x=some .globalImplicit)&&zgu x
section
variable{cl:Cf}{G:Genv}{k:Nat}{X:Cx}{nm:Names}{N:List Str}{E:St->XK}
def Gx.slot(g:Gx cl G k X nm N E){x:Str}{i:Nat}(h:zhT nm N x=some i):X.N[i]?=some x/\Vis X.env.scope x/\(x==("__debug__":Str))=false/\(x==("__classdict__":Str))=false:=by
 unfold zhT at h;split at h
 ·rename_i hv;rw[yac]at hv;obtain⟨h1,h2,_⟩:=zet hv.2;refine⟨by rw[g.eN];exact zeH h,?_,h1,h2⟩
  cases hk:nm.lookup x with
  |none=>rw[hk]at hv;exact absurd hv.1 (by decide)
  |some kd=>
   obtain⟨kd',e,z⟩:=g.vis x kd hk;rw[hk]at hv;unfold Vis;rw[e]
   rcases z with rfl|⟨_,rfl⟩
   ·cases kd'<;>first|exact .inl rfl|exact .inr (.inl rfl)|exact .inr (.inr rfl)|exact absurd hv.1 (by decide)
   ·exact .inr (.inl rfl)
 ·cases h
def Gx.glob(g:Gx cl G k X nm N E){x:Str}(h:zbb nm x=true):Gl X x/\(x==("__debug__":Str))=false/\x ≠ "__name__":=by
 unfold zbb at h;rw[yac]at h;obtain⟨h1,_,h3⟩:=zet h.2;obtain⟨kd',e,z⟩:=g.vis x _ (yak h.1)
 rcases z with rfl|⟨z,_⟩
 ·exact⟨e,h1,h3⟩
 ·cases z
end
noncomputable def okE:Expr->Bool|.Starred _ _=>false|.Set _ _ _=>false|_=>true
def zan{e:Expr}(h:okE e=true):zb2 e=true:=by cases e<;>first|rfl|cases h
def zeu{e:Expr}{op:CmpOp}(h:okE e=true):behindInMarks op e=false:=by cases e<;>first|rfl|cases h
def zdr{e:Expr}{env:PySem.Env}(h:okE e=true)(v:Value):foldedSetIterable e env v=pure v:=by cases e<;>first|rfl|cases h
noncomputable def zch:Expr->Bool|.IfExp _ _ _ _=>false|_=>true
def ltD:=zoX fun i j=>decide (i<j)
def leD:=zoX fun i j=>decide (i<=j)
def gtD:=zoX fun i j=>decide (j<i)
def geD:=zoX fun i j=>decide (j<=i)
section
variable{cl:Cf}{G:Genv}{k:Nat}{X:Cx}{nm:Names}{N:List Str}{E:St->XK}
theorem Gx.units(g:Gx cl G k X nm N E):X.A.units+64<cLine:=g.room.units
def Gx.un(g:Gx cl G k X nm N E){n:Nat}(h:n<=64):X.A.units+n<cLine:=Nat.lt_of_le_of_lt (Nat.add_le_add_left h _) g.units
def Gx.same(g:Gx cl G k X nm N E):Same' cl X:=⟨g.kk,g.pp,g.ww⟩
def zxR{pos:Pos}{env:PySem.Env}{args:List Expr}(hp:args.all zb2=true)(hl:args.length<30):methodCallForm (args.length+0) (backTo pos (starEach args env)) (backToKw pos (keywordEach [] env))=true:=by
 have h:=zbB (pos:=pos) (env:=env) hp;unfold methodCallForm
 have h1:(backTo pos (starEach args env)).all (!·.1)=true:=by
  rw[List.all_eq_not_any_not];simpa using h
 rw[h1];show(true&&true&&decide (args.length+0+0<30))=true;rw[yaK (by omega)];rfl
def zka{o:Expr}{m:Str}{ap pos:Pos}{env:PySem.Env}{args:List Expr}(hb:attributeBase o m env (eval o env)=eval o env)(hf:methodCallForm (args.length+0) (backTo pos (starEach args env)) (backToKw pos (keywordEach [] env))=true)(hp:(ap.endLine==pos.line)=true):
  eval (.Call (.Attribute o m ap) args [] pos) env=(do
   let ov ← eval o env
   standAt ap.atName
   let (f,first) ← holding [ov] (getMethod ov m (do return (← importBound o env).getD true))
   callWith pos f first (backTo pos (starEach args env)) (backToKw pos (keywordEach [] env))):=by
 show(do
  let ov ← attributeBase o m env (eval o env)
  standAt ap.atName
  methodCall o m ap pos env ov (args.length+0) (backTo pos (starEach args env)) (backToKw pos (keywordEach [] env)))=_
 rw[hb]
 have e:∀ov,methodCall o m ap pos env ov (args.length+0) (backTo pos (starEach args env)) (backToKw pos (keywordEach [] env))=(do
   let (f,first) ← holding [ov] (getMethod ov m (do return (← importBound o env).getD true))
   callWith pos f first (backTo pos (starEach args env)) (backToKw pos (keywordEach [] env))):=fun ov=>by
  unfold methodCall calleeOf methodCallPos;rw[hf,hp];rfl
 simp only[e]
end
theorem zfl:bootBuiltins "tuple"=some (.type "tuple"):=by decide +kernel
theorem zkR:bootBuiltins "list"=some (.type "list"):=by decide +kernel
theorem zmu:bootBuiltins "int"=some (.type "int"):=by decide +kernel
theorem zkS:bootBuiltins "bool"=some (.type "bool"):=by decide +kernel
theorem zmt:bootBuiltins "str"=some (.type "str"):=by decide +kernel
def zkI:∀(l:List D) (d r:D),zeQ l d=some r->∃n,r=.int n:=by
 intro l d r h;unfold zeQ at h;split at h
 ·cases h;exact⟨_,rfl⟩
 ·cases h
def zkt:∀(l:List D) (d r:D),zeG l d=some r->∃n,r=.int n:=by
 intro l d r h;unfold zeG at h;split at h
 ·cases h;exact⟨_,rfl⟩
 ·cases h
noncomputable def gd{α:Type}:(b:Bool)->(b=true->Option α)->Option α|true,k=>k rfl|false,_=>none
structure Dn(G:Genv)(nm:Names)(N:List Str)(e:Expr)where
 o:Bool
 f:Fe
 q:okE e=true
 ok:∀{cl k X E},Gx cl G k X nm N E->(o=true->PE X e (tN cl E f))/\PE X e (tE cl E f)/\(zch e=true->PT X e (tTr cl E f))
noncomputable abbrev Rec(G:Genv):=∀nm N e,Option (Dn G nm N e)
structure Do(G:Genv)(nm:Names)(N:List Str)(e:Expr)where
 f:Fe
 q:okE e=true
 ok:∀{cl k X E},Gx cl G k X nm N E->PE X e (tH cl E f)
structure DL(G:Genv)(nm:Names)(N:List Str)(es:List Expr)where
 fs:List Fe
 q:es.all zb2=true
 l:fs.length=es.length
 ok:∀{cl k X E},Gx cl G k X nm N E->PA X es (tAs cl E fs)
structure DH(G:Genv)(nm:Names)(N:List Str)(es:List Expr)where
 fs:List Fe
 q:es.all zb2=true
 ok:∀{cl k X E},Gx cl G k X nm N E->PA X es (tHs cl E fs)
structure Sl(G:Genv)(nm:Names)(N:List Str)(x:Str)where
 i:Nat
 ok:∀{cl k X E},Gx cl G k X nm N E->X.N[i]?=some x/\Vis X.env.scope x/\(x==("__debug__":Str))=false/\(x==("__classdict__":Str))=false
section
variable{G:Genv}(rc:Rec G){nm:Names}{N:List Str}{e:Expr}
noncomputable def ziA(f:Fe)(q:okE e=true)(hv:∀env whole,isTrue e env whole=(do let v ← whole;standAt e.pos;holding [v] (truthy v)))(p:∀{cl k X E},Gx cl G k X nm N E->PE X e (tE cl E f)):Option (Dn G nm N e):=some ⟨false,f,q,fun g=>⟨nofun,p g,fun _=>zhS (p g) (hv _)⟩⟩
noncomputable def zsT(f:Fe)(q:okE e=true)(hv:∀env whole,isTrue e env whole=(do let v ← whole;standAt e.pos;holding [v] (truthy v)))(p:∀{cl k X E},Gx cl G k X nm N E->PE X e (tN cl E f)):Option (Dn G nm N e):=some ⟨true,f,q,fun g=>⟨fun _=>p g,ze7 (p g),fun _=>zhS (ze7 (p g)) (hv _)⟩⟩
def slO(G:Genv)(nm:Names)(N:List Str)(x:Str):Option (Sl G nm N x):=match h:zhT nm N x with|some i=>some ⟨i,fun g=>g.slot h⟩|none=>none
noncomputable def hld(a:Dn G nm N e):Do G nm N e:=⟨a.f,a.q,fun g=>znD (a.ok g).2.1⟩
def Sl.v{x:Str}{p:Pos}(s:Sl G nm N x){cl k X E}(g:Gx cl G k X nm N E):PE X (.Name x p) (tE cl E (zad s.i))/\PE X (.Name x p) (tH cl E (zaf s.i)):=by
 obtain⟨s1,s2,s3,s4⟩:=s.ok g;exact⟨zpA s1 s2 s3 s4,zpJ s1 s2 s3 s4⟩
def opE(nm:Names)(N:List Str):∀e,Option (Do G nm N e)
 |.Name x p=>(match slO G nm N x with|some s=>some ⟨zaf s.i,rfl,fun g=>(s.v g).2⟩|none=>(rc nm N (.Name x p)).map hld)
 |e=>(rc nm N e).map hld
def shL(nm:Names)(N:List Str):∀es,Option (DL G nm N es)
 |[]=>some ⟨[],rfl,rfl,fun _=>zgf⟩|e::es=>(rc nm N e).bind fun a=>(shL nm N es).map fun b=>⟨a.f::b.fs,by rw[ybv,zan a.q,b.q];rfl,by rw[yae,yae,b.l],fun g=>zdI (a.ok g).2.1 (b.ok g) (zbr (zan a.q))⟩
def opL(nm:Names)(N:List Str):∀es,Option (DH G nm N es)
 |[]=>some ⟨[],rfl,fun _=>zmG⟩|e::es=>(opE rc nm N e).bind fun a=>(opL nm N es).map fun b=>⟨a.f::b.fs,by rw[ybv,zan a.q,b.q];rfl,fun g=>zjv (a.ok g) (b.ok g) (zbr (zan a.q))⟩
def zxV:∀op,Option {gg // ∀{cl X},OpD X cl (binaryOp op) gg}
 |.Add=>some ⟨zbC,zqo⟩|.Sub=>some ⟨zft,zqi⟩|.Mult=>some ⟨zdY,zqk⟩|.Mod=>some ⟨zh7,zql⟩|.FloorDiv=>some ⟨zm0,zqn⟩|_=>none
noncomputable def zov:Expr->Bool|.Constant .none _ _=>true|_=>false
def ztz(b:Expr):∀op,Option {gg // ∀{cl G k X nm N E},Gx cl G k X nm N E->OpD X cl (compareOp op) gg}
 |.Eq=>some ⟨eqD,fun g=>zsQ g.kk g.units⟩|.NotEq=>some ⟨neD,fun g=>zsO g.kk g.units⟩|.Lt=>some ⟨ltD,fun _=>zfF zsK⟩|.LtE=>some ⟨leD,fun _=>zfF zsL⟩|.Gt=>some ⟨gtD,fun _=>zfF zsM⟩|.GtE=>some ⟨geD,fun _=>zfF zsN⟩
 |.In=>some ⟨inD,fun g=>zsP g.kk g.units⟩|.NotIn=>some ⟨zsS,fun g=>zqj g.kk g.units⟩
 |.Is=>gd (zov b) fun _=>some ⟨zl6,fun _=>zqm⟩|_=>none
structure DB(G:Genv)(nm:Names)(N:List Str)(op:BoolOp)(es:List Expr)where
 f:Fe
 ok:∀{cl k X E p},Gx cl G k X nm N E->PE X (.BoolOp op es p) (tE cl E f)/\PW X (.BoolOp op es p) (tTr cl E f)
noncomputable def boE:BoolOp->Fe->Fe->Fe|.And=>zf2|.Or=>eOr
noncomputable def zrp(nm:Names)(N:List Str)(op:BoolOp):∀es,Option (DB G nm N op es)
 |[]=>none|[a]=>gd (zch a) fun ht=>(rc nm N a).map fun fa=>⟨fa.f,fun g=>⟨zp2 (fa.ok g).2.1,by
   cases op with
   |And=>exact znP ((fa.ok g).2.2 ht)|Or=>exact zpS ((fa.ok g).2.2 ht)⟩⟩
 |a::b::r=>gd (zch a) fun ht=>(rc nm N a).bind fun fa=>(zrp nm N op (b::r)).map fun fb=>⟨boE op fa.f fb.f,fun g=>by
   have h1:=fa.ok g;have h2:=fun p=>fb.ok (p:=p) g
   cases op with
   |And=>exact⟨zpL h1.2.1 (h2 _).1,zpe (h1.2.2 ht) (h2 _).2⟩|Or=>exact⟨zsv h1.2.1 (h2 _).1,zsq (h1.2.2 ht) (h2 _).2⟩⟩
noncomputable def zty(nm:Names)(N:List Str)(a:Expr)(p:Pos):∀ops bs,Option (Dn G nm N (.Compare a ops bs p))
 |[op],[b]=>(ztz b op).bind fun gg=>(opE rc nm N a).bind fun fa=>(opE rc nm N b).map fun fb=>⟨false,zac gg.1 fa.f fb.f,rfl,fun g=>⟨nofun,zpI (gg.2 g) (fa.ok g) (fb.ok g) (zeu fb.q),fun _=>zpi (gg.2 g) (fa.ok g) (fb.ok g) (zeu fb.q)⟩⟩|[op,op'],[b,c]=>(ztz b op).bind fun gg=>(ztz c op').bind fun gg'=>(opE rc nm N a).bind fun fa=>(opE rc nm N b).bind fun fb=>(opE rc nm N c).map fun fc=>⟨false,zb5 gg.1 gg'.1 fa.f fb.f fc.f,rfl,fun g=>
   have hm:lastMarks [op,op'] [b,c]=false:=zeu fc.q
   ⟨nofun,zlq (gg.2 g) (gg'.2 g) (fa.ok g) (fb.ok g) (fc.ok g) hm,fun _=>zlh (gg.2 g) (gg'.2 g) (fa.ok g) (fb.ok g) (fc.ok g) hm⟩⟩
 |_,_=>none
def zwZ(nm:Names)(N:List Str)(a:Expr)(p:Pos):∀ops bs,Option (Dn G nm N (.Compare a ops bs p))
 |[.NotIn],[.Attribute (.Name x px) f _]=>gd (G.ob.df f&&G.ob.fk G.ob.cur f) fun hc=>(rc nm N a).bind fun fa=>(rc nm N (.Name x px)).map fun fo=>⟨false,zmi G.ob.cur f fa.f fo.f,rfl,fun g=>by
   rw[yac]at hc
   exact⟨nofun,zpD (g.un (by decide)) g.same (g.gok.fk _ _ hc.2) (fa.ok g).2.1 (fo.ok g).2.1 rfl rfl,fun _=>zph (g.un (by decide)) g.same (g.gok.fk _ _ hc.2) (fa.ok g).2.1 (fo.ok g).2.1 rfl rfl⟩⟩
 |_,_=>none
structure BI(x:Str)where
 g:List D->Option D
 nw:Bool
 ok:∀{cl G k X nm N E},Gx cl G k X nm N E->∃v,bootBuiltins x=some v/\((∃id,v=.builtin id)\/∃T,v=.type T)/\(if nw then zoT X cl v g else zk4 X cl v g)
def zrr(x:Str):Option (BI x):=
 if h:x="len"then some ⟨ze0,false,fun g=>⟨_,h ▸ PySem.boot_len,.inl ⟨_,rfl⟩,zrl g.kk⟩⟩
 else if h:x="tuple"then some ⟨zcd,false,fun g=>⟨_,h ▸ zfl,.inr ⟨_,rfl⟩,zmq⟩⟩
 else if h:x="sum"then some ⟨zoU,false,fun g=>⟨_,h ▸ PyProof.Rows.boot_sum,.inl ⟨_,rfl⟩,zrk g.calm⟩⟩
 else if h:x="list"then some ⟨zhl,true,fun g=>⟨_,h ▸ zkR,.inr ⟨_,rfl⟩,zoJ⟩⟩
 else none
structure TI(x:Str)where
 T:String
 ok:bootBuiltins x=some (.type T)
noncomputable def zwx(x:Str):Option (TI x):=if h:x="int"then some ⟨"int",h ▸ zmu⟩else if h:x="bool"then some ⟨"bool",h ▸ zkS⟩else if h:x="tuple"then some ⟨"tuple",h ▸ zfl⟩else if h:x="str"then some ⟨"str",h ▸ zmt⟩else none
theorem zrq{cl k X E}{x:Str}(bi:BI x){e:Expr}{es:List Expr}{p pos:Pos}(g:Gx cl G k X nm N E)(hg:zbb nm x=true)(hb:G.blt x=true)(a:DH G nm N (e::es)):
  (bi.nw=true->PE X (.Call (.Name x p) (e::es) [] pos) (tN cl E (zaR bi.g a.fs)))/\PE X (.Call (.Name x p) (e::es) [] pos) (tE cl E (zaR bi.g a.fs)):=by
 obtain⟨g1,g2,g3⟩:=g.glob hg;have m:=g.gok.blt x hb;have hp:=a.q;rw[ybv,yac]at hp;have st:=zbr (es:=es) (env:=X.env) hp.1;have pl:=zbB (pos:=pos) (env:=X.env) hp.2;obtain⟨v,hv,hk,hc⟩:=bi.ok g
 cases hn:bi.nw with
 |false=>
  rw[hn]at hc;have hc:zk4 X cl v bi.g:=hc;refine⟨nofun,?_⟩
  rcases hk with⟨id,rfl⟩|⟨T,rfl⟩
  ·exact PE.imp (zdo hc g1 m hv (a.ok g) g3 g2 st pl) fun _ _ _ q=>zpc (fun _ _ _ z=>z) q
  ·exact PE.imp (zer hc g1 m hv (a.ok g) g3 g2 st pl) fun _ _ _ q=>zpc (fun _ _ _ z=>z) q
 |true=>
  rw[hn]at hc;have hc:zoT X cl v bi.g:=hc
  have n:PE X (.Call (.Name x p) (e::es) [] pos) (tN cl E (zaR bi.g a.fs)):=by
   rcases hk with⟨id,rfl⟩|⟨T,rfl⟩
   ·exact PE.imp (zdo hc g1 m hv (a.ok g) g3 g2 st pl) fun _ _ _ q=>zpb (fun _ _ _ z=>z) q
   ·exact PE.imp (zer hc g1 m hv (a.ok g) g3 g2 st pl) fun _ _ _ q=>zpb (fun _ _ _ z=>z) q
  exact⟨fun _=>n,ze7 n⟩
def zxQ{cl k X E}{x:Str}{args:List Expr}{p pos:Pos}{fi:FnI}(g:Gx cl G k X nm N E)(hg:zbb nm x=true)(hfi:G.fn x=some fi)(a:DL G nm N args)(hl:args.length=fi.ar):
  (fi.own=true->PE X (.Call (.Name x p) args [] pos) (tN cl E (eFn fi.run a.fs)))/\PE X (.Call (.Name x p) args [] pos) (tE cl E (eFn fi.run a.fs)):=by
 obtain⟨g1,g2,g3⟩:=g.glob hg;obtain⟨fa,fd,ps,m1,m2,m3,m4⟩:=g.gok.fn x fi hfi;have hlen:a.fs.length=fi.ar:=a.l.trans hl
 have main:PE X (.Call (.Name x p) args [] pos) (zga (zf0 cl fi.ar fi.own fi.run) [] E (tAs cl E a.fs)):=by
  cases args with
  |nil=>
   refine PE.imp (zjU m4 g.room g1 m1 m2 m3 .nil g.pass g2) ?_;have:a.fs=[]:=yaM a.l;rw[this];rintro σ H Q ⟨B,w,ρ,S,rfl,R,q⟩;exact q [] w R (Fut.refl _) .nil
  |cons e es=>
   have a2:=a.q;rw[ybv,yac]at a2;exact zlL m4 g.room g1 m1 m2 m3 .nil g.pass (a.ok g) g2 (zbr a2.1) (zbB a2.2)
 cases ho:fi.own with
 |false=>
  rw[ho]at main;exact⟨nofun,PE.imp main fun _ _ _ q=>zro q hlen⟩
 |true=>
  rw[ho]at main;have n:PE X (.Call (.Name x p) args [] pos) (tN cl E (eFn fi.run a.fs)):=PE.imp main fun _ _ _ q=>zrn q hlen
  exact⟨fun _=>n,ze7 n⟩
noncomputable def zhC{args:List Expr}{x:Str}{p pos:Pos}(o:Bool)(f:Fe)(h:∀{cl k X E},Gx cl G k X nm N E->(o=true->PE X (.Call (.Name x p) args [] pos) (tN cl E f))/\PE X (.Call (.Name x p) args [] pos) (tE cl E f)):Option (Dn G nm N (.Call (.Name x p) args [] pos)):=some ⟨o,f,rfl,fun g=>⟨(h g).1,(h g).2,fun _=>zhS (h g).2 fun _=>rfl⟩⟩
def ztB(nm:Names)(N:List Str)(x:Str)(p pos:Pos)(args:List Expr):Option (Dn G nm N (.Call (.Name x p) args [] pos)):=gd (zbb nm x) fun hg=>match hf:G.fn x with
 |some fi=>gd (decide (args.length=fi.ar)) fun hl=>(shL rc nm N args).bind fun a=>zhC fi.own (eFn fi.run a.fs) fun g=>zxQ g hg hf a (yak hl)|none=>gd (G.blt x) fun hb=>match args with
  |[]=>none|e::es=>(zrr x).bind fun bi=>(opL rc nm N (e::es)).bind fun a=>zhC bi.nw (zaR bi.g a.fs) fun g=>zrq bi g hg hb a
noncomputable def zxI(nm:Names)(N:List Str)(x:Str)(p pos:Pos):∀args,Option (Dn G nm N (.Call (.Name x p) args [] pos))
 |[a,.Name t _]=>gd (decide (x="isinstance")&&(zbb nm x&&G.blt x&&zbb nm t&&G.blt t)) fun hc=>(zwx t).bind fun T=>(opE rc nm N a).bind fun fa=>zhC false (eUn (zd7 T.T) fa.f) fun g=>⟨nofun,by
  simp only[yac]at hc;obtain⟨hx,⟨⟨h1,h2⟩,h3⟩,h4⟩:=hc;obtain rfl:=yak hx;obtain⟨t1,t2,t3⟩:=g.glob h3
  exact znC (g.glob h1).1 (g.gok.blt _ h2) t1 (g.gok.blt _ h4) T.ok t3 t2 (zan fa.q) (fa.ok g)⟩
 |_=>none
noncomputable def ztA(G:Genv)(t:Str):Bool:=if t="ValueError"then G.blt t else G.exc t
def zxF(nm:Names)(N:List Str)(x:Str)(p pos:Pos):∀args,Option (Dn G nm N (.Call (.Name x p) args [] pos))
 |[a,.Name t _]=>gd (decide (x="isinstance")&&(zbb nm x&&G.blt x&&zbb nm t&&ztA G t)) fun hc=>(opE rc nm N a).bind fun fa=>zhC false (eUn (zkn G.isx t) fa.f) fun {cl _ _ _} g=>⟨nofun,by
  simp only[yac]at hc;obtain⟨hx,⟨⟨h1,h2⟩,h3⟩,h4⟩:=hc;obtain rfl:=yak hx;obtain⟨t1,t2,t3⟩:=g.glob h3
  by_cases hv:t="ValueError"
  ·subst hv
   have ht2:G.blt "ValueError"=true:=by simpa[ztA]using h4
   exact zmH (vC:=.ty "ValueError") (g.glob h1).1 (g.gok.blt _ h2) (zjV t1 (g.gok.blt _ ht2) zi7 rfl t3 t2) (fun u r=>by rw[show u=Value.type "ValueError"from r];rfl) (fun c b hc=>g.gok.isx c _ b hc) (zan fa.q) (fa.ok g)
  ·have ht2:G.exc t=true:=by simpa[ztA,hv]using h4
   exact zmH (vC:=.ref (cl t)) (g.glob h1).1 (g.gok.blt _ h2) (zjS t1 (g.gok.exc t ht2).1 rfl t2) (fun u r=>by rw[show u=Value.ref (cl t)from r];unfold zrj;rw[if_neg hv]) (fun c b hc=>g.gok.isx c _ b hc) (zan fa.q) (fa.ok g)⟩
 |_=>none
def lrG(nm:Names)(N:List Str)(x:Str)(p pos:Pos):∀args,Option (Dn G nm N (.Call (.Name x p) args [] pos))
 |[.Call (.Name y _) [a] [] _]=>gd (decide (x="list")&&decide (y="range")&&(zbb nm x&&G.blt x&&zbb nm y&&G.blt y)) fun hc=>(rc nm N a).bind fun fa=>zhC true (eUn lrD fa.f) fun g=>by
  simp only[yac]at hc;obtain⟨⟨hx,hy⟩,⟨⟨h1,h2⟩,h3⟩,h4⟩:=hc;obtain rfl:=yak hx;obtain rfl:=yak hy;exact⟨fun _=>zpG g.calm (g.glob h1).1 (g.gok.blt _ h2) (g.glob h3).1 (g.gok.blt _ h4) (fa.ok g).2.1 (zbr (zan fa.q)),ze7 (zpG g.calm (g.glob h1).1 (g.gok.blt _ h2) (g.glob h3).1 (g.gok.blt _ h4) (fa.ok g).2.1 (zbr (zan fa.q)))⟩
 |[.Name y _]=>gd (decide (x="len")&&(zbb nm x&&G.blt x&&G.ds y)) fun hc=>(slO G nm N y).bind fun s=>zhC false (zkE s.i) fun g=>⟨nofun,by
  simp only[yac]at hc;obtain⟨hx,⟨h1,h2⟩,_⟩:=hc;obtain rfl:=yak hx;obtain⟨s1,s2,s3,s4⟩:=s.ok g
  exact znB g.same (g.glob h1).1 (g.gok.blt _ h2) s1 s2 s3 s4⟩
 |_=>none
def zsW{cl k X E}{x:Str}{args:List Expr}{p pos:Pos}{dds:List D}{fi:FnI}(g:Gx cl G k X nm N E)(hg:zbb nm x=true)(hm:G.ob.mks x=some (dds,fi))(hne:args.isEmpty=false)(a:DL G nm N args)(hl:args.length+dds.length+1=fi.ar):PE X (.Call (.Name x p) args [] pos) (tE cl E (eMk x dds fi.run a.fs)):=by
 obtain⟨f,fd,ps,dvs,ds,k',hk,mC,M,B0,BD,vd,sd,F⟩:=g.gok.mks x dds fi hm;obtain⟨g1,g2,g3⟩:=g.glob hg
 cases args with
 |nil=>cases hne|cons e es=>
  have a2:=a.q;rw[ybv,yac]at a2;exact PE.imp (zlH M F (g.room.mono hk) g1 mC BD vd g.pass (a.ok g) g2 (zbr a2.1) (zbB a2.2)) fun _ _ _ q=>zw1 sd q (by rw[a.l];exact hl)
def mkG(nm:Names)(N:List Str)(x:Str)(p pos:Pos)(args:List Expr):Option (Dn G nm N (.Call (.Name x p) args [] pos)):=match hm:G.ob.mks x with
 |some c=>gd (zbb nm x&&(!args.isEmpty&&decide (args.length+c.1.length+1=c.2.ar))) fun hc=>(shL rc nm N args).bind fun a=>zhC false (eMk x c.1 c.2.run a.fs) fun g=>⟨nofun,by
  simp only[yac,yaW,ybp]at hc
  exact zsW g hc.1 hm hc.2.1 a hc.2.2⟩
 |none=>none
noncomputable def zvV{o:Expr}{m:Str}{ap cp:Pos}{args:List Expr}(w:Bool)(f:Fe)(h:∀{cl k X E},Gx cl G k X nm N E->(w=true->PE X (.Call (.Attribute o m ap) args [] cp) (tN cl E f))/\PE X (.Call (.Attribute o m ap) args [] cp) (tE cl E f)):Option (Dn G nm N (.Call (.Attribute o m ap) args [] cp)):=some ⟨w,f,rfl,fun g=>⟨(h g).1,(h g).2,fun _=>zhS (h g).2 fun _=>rfl⟩⟩
noncomputable def znb(o:Expr):Prop:=∀m env,attributeBase o m env (eval o env)=eval o env
structure Bo(o:Expr):Type where
 ok:znb o
noncomputable def zwP:∀o,Option (Bo o)|.Name _ _=>some ⟨fun _ _=>rfl⟩|.Call (.Name _ _) (_::_) _ _=>some ⟨fun _ _=>rfl⟩|.Attribute (.Name _ _) _ _=>some ⟨fun _ _=>rfl⟩|_=>none
structure Mt(m:Str)where
 g:List D->D->Option D
 ok:∀{cl G k X nm N E},Gx cl G k X nm N E->∀{i x p a f ap cp},X.N[i]?=some x->Vis X.env.scope x->(x==("__debug__":Str))=false->(x==("__classdict__":Str))=false->PE X a (tH cl E f)->zb2 a=true->(ap.endLine==cp.line)=true->PE X (.Call (.Attribute (.Name x p) m ap) [a] [] cp) (tE cl E (eMt g i f))
def zw0(m:Str):Option (Mt m):=if h:m="count"then some ⟨zeQ,fun g=>by subst h;exact fun s1 s2 s3 s4 a1 a2 z=>zpE PySem.F.slot_list_count PySem.F.type_list_count (zlS g.kk g.units) zkI s1 s2 s3 s4 a1 a2 z⟩
 else if h:m="index"then some ⟨zeG,fun g=>by subst h;exact fun s1 s2 s3 s4 a1 a2 z=>zpE PySem.F.slot_list_index PySem.F.type_list_index (zlR g.kk g.units) zkt s1 s2 s3 s4 a1 a2 z⟩else none
noncomputable def mtG(nm:Names)(N:List Str)(m:Str)(ap cp:Pos):∀o args,Option (Dn G nm N (.Call (.Attribute o m ap) args [] cp))
 |.Name x _,[a]=>gd (ap.endLine==cp.line) fun hl=>(zw0 m).bind fun mm=>(slO G nm N x).bind fun s=>(opE rc nm N a).bind fun fa=>zvV false (eMt mm.g s.i fa.f) fun g=>⟨nofun,by
   obtain⟨s1,s2,s3,s4⟩:=s.ok g
   exact mm.ok g s1 s2 s3 s4 (fa.ok g) (zan fa.q) hl⟩
 |_,_=>none
def zob{cl k X E}{o:Expr}{m c:Str}{fi:FnI}{args:List Expr}{ap pos:Pos}(g:Gx cl G k X nm N E)(h1:G.ob.mt m=some (c,fi))(b:znb o)(z3:(ap.endLine==pos.line)=true)(z4:args.length<30)(hl:args.length+1=fi.ar)(fo:Dn G nm N o)(a:DL G nm N args):
  (fi.own=true->PE X (.Call (.Attribute o m ap) args [] pos) (tN cl E (zbp c m fi.run fo.f a.fs)))/\PE X (.Call (.Attribute o m ap) args [] pos) (tE cl E (zbp c m fi.run fo.f a.fs)):=by
 obtain⟨f,fd,ps,c1,c2,c3,c4⟩:=g.gok.mt m c fi h1
 have hlen:a.fs.length+1=fi.ar:=by rw[a.l];exact hl
 have ht:=zka (ap:=ap) (b m X.env) (zxR (pos:=pos) a.q z4) z3
 have main:PE X (.Call (.Attribute o m ap) args [] pos) (zf8 (cl c) m (zf0 cl fi.ar fi.own fi.run) [] E (tE cl E fo.f) (tAs cl E a.fs)):=by
  cases args with
  |nil=>
   have e0:a.fs=[]:=yaM a.l;rw[e0];refine PE.imp (zjP (fo.ok g).2.1 c1 c2 c4 g.room c3 .nil g.pass ht) ?_;rintro σ H Q ⟨B,w,ρ,S,rfl,R,q⟩;refine⟨B,w,ρ,S,rfl,R,?_⟩
   cases hfo:fo.f ρ S with
   |bad=>rwa[hfo]at q|exc c S1=>rwa[hfo]at q|ok d S1=>
    rw[hfo]at q;intro v w1 R1 F1 sh;obtain⟨a,dx,fs,e1,e2,e3,B',w',ρ',S',e4,R',q⟩:=q v w1 R1 F1 sh;refine⟨a,dx,fs,e1,e2,e3,?_⟩;have:=q [] w' R' (Fut.refl _) .nil;rwa[e4]at this
  |cons e es=>
   have a2:=a.q;rw[ybv,yac]at a2;exact zlG (fo.ok g).2.1 c1 c2 c4 g.room c3 .nil g.pass (a.ok g) (zbr a2.1) (zbB a2.2) ht
 cases ho:fi.own with
 |false=>
  rw[ho]at main;exact⟨nofun,PE.imp main fun _ _ _ q=>zqz q hlen⟩
 |true=>
  rw[ho]at main;have n:=PE.imp main fun _ _ _ q=>zqy q hlen
  exact⟨fun _=>n,ze7 n⟩
def zsX(nm:Names)(N:List Str)(o:Expr)(m:Str)(ap cp:Pos)(args:List Expr):Option (Dn G nm N (.Call (.Attribute o m ap) args [] cp)):=match hm:G.ob.mt m with
 |some c=>gd ((ap.endLine==cp.line)&&(decide (args.length<30)&&decide (args.length+1=c.2.ar))) fun hc=>(zwP o).bind fun b=>(rc nm N o).bind fun fo=>(shL rc nm N args).bind fun a=>zvV c.2.own (zbp c.1 m c.2.run fo.f a.fs) fun g=>by
  simp only[yac,ybp]at hc;exact zob g hm b.ok hc.1 hc.2.1 hc.2.2 fo a
 |none=>none
def ztw(nm:Names)(N:List Str)(args:List Expr)(cp:Pos):∀f kws,Option (Dn G nm N (.Call f args kws cp))
 |.Name x p,[]=>(zxI rc nm N x p cp args).or ((zxF rc nm N x p cp args).or ((lrG rc nm N x p cp args).or ((mkG rc nm N x p cp args).or (ztB rc nm N x p cp args))))|.Attribute o m ap,[]=>(mtG rc nm N m ap cp o args).or (zsX rc nm N o m ap cp args)|_,_=>none
end
noncomputable def zti:Option NameKind->Bool|some .local=>true|some .cell=>true|_=>false
structure Ti(G:Genv)(nm:Names)(N:List Str)(n:Nat)(x:Str)where
 i:Nat
 ok:∀{cl k X E},Gx cl G k X nm N E->i<n/\X.N.Nodup/\X.N[i]?=some x/\Loc X.env.scope x/\(X.fn x=true\/X.env.scope.names.lookup x=some .local)
structure Tgs(G:Genv)(nm:Names)(N:List Str)(n:Nat)(es:List Expr)where
 is:List Nat
 ok:∀{cl k X E},Gx cl G k X nm N E->PGs X es (tGs cl n is)/\(assignEach es X.env).length=is.length/\(assignEach es X.env).findIdx? (·.1)=none
structure Dt(G:Genv)(nm:Names)(N:List Str)(n:Nat)(tg:Expr)where
 t:Tg
 ok:∀{cl k X E},Gx cl G k X nm N E->PG X tg (tG cl n t)
section
variable{G:Genv}(rc:Rec G){nm:Names}{N:List Str}{e:Expr}
def tgI(G:Genv)(nm:Names)(N:List Str)(n:Nat)(x:Str):Option (Ti G nm N n x):=gd (zti (nm.lookup x)) fun hl=>match hi:idx N x with
 |some i=>gd (decide (i<n)) fun hn=>some ⟨i,fun g=>by
  refine⟨yak hn,by rw[g.eN];exact g.nd,by rw[g.eN];exact zeH hi,?_⟩
  cases hk:nm.lookup x with
  |none=>rw[hk]at hl;cases hl|some kd=>
   obtain⟨kd',e,z⟩:=g.vis x kd hk;rw[hk]at hl
   cases kd with
   |«local»=>
    rcases z with rfl|⟨z,_⟩
    ·exact⟨.inl e,.inr e⟩
    ·cases z
   |cell=>
    rcases z with rfl|⟨z,_⟩
    ·exact⟨.inr e,.inl (g.fnc x hk)⟩
    ·cases z
   |_=>cases hl⟩
 |none=>none
noncomputable def zuD(G:Genv)(nm:Names)(N:List Str)(n:Nat):∀es,Option (Tgs G nm N n es)
 |[]=>some ⟨[],fun _=>⟨znx,rfl,rfl⟩⟩|.Name x pos::es=>(tgI G nm N n x).bind fun a=>(zuD G nm N n es).map fun b=>⟨a.i::b.is,fun g=>by
   obtain⟨a1,a2,a3,a4,a5⟩:=a.ok g;obtain⟨b1,b2,b3⟩:=b.ok g;refine⟨zll a1 a2 a3 a4 a5 b1,congrArg (·+1) b2,?_⟩;show((false,assign (.Name x pos) _)::assignEach es _).findIdx? (·.1)=none;rw[List.findIdx?_cons]
   simp[b3]⟩
 |_::_=>none
def tgG(G:Genv)(nm:Names)(N:List Str)(n:Nat):∀tg,Option (Dt G nm N n tg)
 |.Name x _=>(tgI G nm N n x).map fun a=>⟨.one a.i,fun g=>by
   obtain⟨a1,a2,a3,a4,a5⟩:=a.ok g
   exact zpw a1 a2 a3 a4 a5⟩
 |.Tuple es _ _=>(zuD G nm N n es).map fun b=>⟨.tup b.is,fun g=>by
   obtain⟨b1,b2,b3⟩:=b.ok g
   exact zpv g.calm b1 b2 b3⟩
 |_=>none
structure Di(G:Genv)(nm:Names)(N:List Str)(tg e:Expr)where
 f:Fi
 q:okE e=true
 ok:∀{cl k X E},Gx cl G k X nm N E->PI X tg e (tI cl E f)
def ztI(tg:Expr)(a:Dn G nm N e):Di G nm N tg e:=⟨za6 a.f,a.q,fun g=>zpu g.kk (a.ok g).2.1⟩
noncomputable def zvY(nm:Names)(N:List Str)(x:Str)(p pos:Pos)(a b:Expr):∀tg,Option (Di G nm N tg (.Call (.Name x p) [a,b] [] pos))
 |.Tuple es kk tp=>gd (decide (x="zip")&&(zbb nm x&&G.blt x)) fun hc=>(rc nm N a).bind fun fa=>(rc nm N b).map fun fb=>⟨zq9 fa.f fb.f,rfl,fun g=>by
   simp only[yac]at hc;obtain rfl:=yak hc.1
   exact zpr (g.glob hc.2.1).1 (g.gok.blt _ hc.2.2) (zdI (fa.ok g).2.1 (zdI (fb.ok g).2.1 zgf (zbr (zan fb.q))) (zbr (zan fa.q))) (zbr (zan fa.q)) (zbB (by simp[zan fb.q]))⟩
 |_=>none
def zwN(nm:Names)(N:List Str)(tg:Expr)(x:Str)(p pos:Pos)(a:Expr):Option (Di G nm N tg (.Call (.Name x p) [a] [] pos)):=gd (decide (x="range")&&(zbb nm x&&G.blt x)) fun hc=>(rc nm N a).map fun fa=>⟨zd8 fa.f,rfl,fun g=>by
   simp only[yac]at hc;obtain rfl:=yak hc.1
   exact znv (g.glob hc.2.1).1 (g.gok.blt _ hc.2.2) (zdI (fa.ok g).2.1 zgf (zbr (zan fa.q))) (zbr (zan fa.q))⟩
noncomputable def ztv(nm:Names)(N:List Str)(x:Str)(p pos:Pos)(a:Expr):∀tg,Option (Di G nm N tg (.Call (.Name x p) [a] [] pos))
 |.Tuple es kk tp=>gd (decide (x="enumerate")&&(zbb nm x&&G.blt x)) fun hc=>(rc nm N a).map fun fa=>⟨zkF fa.f,rfl,fun g=>by
   simp only[yac]at hc;obtain rfl:=yak hc.1
   exact znw (g.glob hc.2.1).1 (g.gok.blt _ hc.2.2) (zdI (fa.ok g).2.1 zgf (zbr (zan fa.q))) (zbr (zan fa.q))⟩
 |_=>none
def zou(nm:Names)(N:List Str)(tg:Expr):∀e,Option (Di G nm N tg e)
 |.Call (.Name x p) [a] [] pos=>(zwN rc nm N tg x p pos a).or ((ztv rc nm N x p pos a tg).or ((rc nm N (.Call (.Name x p) [a] [] pos)).map (ztI tg)))|.Call (.Name x p) [a,b] [] pos=>(zvY rc nm N x p pos a b tg).or ((rc nm N (.Call (.Name x p) [a,b] [] pos)).map (ztI tg))|e=>(rc nm N e).map (ztI tg)
noncomputable def zqw:Expr->Option Str|.Name x _=>some x|_=>none
def zav:Expr->List Str
 |.Name x _=>[x]|.Tuple es _ _=>es.filterMap zqw|_=>[]
def zaF(names:Names)(N:List Str):List (Str×Nat):=names.filterMap fun p=>if p.2=.free then(idx N p.1).map fun i=>(p.1,i)else none
noncomputable def zxH:Option NameKind->Bool|some .cell=>true|some .free=>true|_=>false
def zgM(nm:Names)(scope:Scope)(xs:List Str)(caps:List (Str×Nat)):Bool:=
 decide (scope.kind=.function)&&decide ((scope.names.map (·.1)).Nodup)&&scope.names.all (fun y=>!decide (y.2=.local)||decide (scope.names.lookup y.1=some .local))
 && scope.names.all (fun y=>!decide (y.2=.free)||zxH (nm.lookup y.1))&&caps.all (fun p=>scope.names.all fun z=>!decide (z.1=p.1)||decide (z.2=.free))&&decide ((xs++caps.map (·.1)).Nodup)
def zhf{env:PySem.Env}{x:Str}{kd:NameKind}{names:Names}(h:names.lookup x=some kd):
  ∃kd',(names.map fun(n,k)=>if(k==NameKind.free&&env.scope.kind==.function&&env.kindOf n==some .cell)then(n,NameKind.cell)else(n,k)).lookup x=some kd'/\(kd'=kd\/(kd=.free/\kd'=.cell)):=by
 induction names with
 |nil=>cases h|cons p r ih=>
  obtain⟨n,k0⟩:=p;rw[yax]at h;rw[yaA];dsimp only
  by_cases hc:(k0==NameKind.free&&env.scope.kind==.function&&env.kindOf n==some .cell)=true
  ·rw[if_pos hc,yax]
   cases hx:x==n with
   |true=>
    rw[hx]at h;cases h;simp only[yac,ybQ]at hc;exact⟨_,rfl,.inr ⟨hc.1.1,rfl⟩⟩
   |false=>rw[hx]at h;exact ih h
  ·rw[if_neg hc,yax]
   cases hx:x==n with
   |true=>rw[hx]at h;cases h;exact⟨_,rfl,.inl rfl⟩|false=>rw[hx]at h;exact ih h
def zi2{cl k X E}(g:Gx cl G k X nm N E){scope:Scope}{xs:List Str}(h:zgM nm scope xs (zaF scope.names N)=true):CompScopeG X.env.scope scope X.N xs (zaF scope.names N)/\(xs++(zaF scope.names N).map (·.1)).Nodup:=by
 unfold zgM at h;simp only[yac,ybj,ybp,Bool.or_eq_true,yaW,yb7]at h;obtain⟨⟨⟨⟨⟨h1,h2⟩,h3⟩,h4⟩,h5⟩,h6⟩:=h
 have fr:∀y∈scope.names,y.2=.free->X.env.scope.names.lookup y.1=some .cell\/X.env.scope.names.lookup y.1=some .free:=fun y hy hf=>by
  rcases h4 y hy with z|z
  ·exact absurd hf z
  ·cases hk:nm.lookup y.1 with
   |none=>rw[hk]at z;cases z|some kd=>
    obtain⟨kd',e,zz⟩:=g.vis y.1 kd hk;rw[hk]at z;rw[e]
    rcases zz with rfl|⟨_,rfl⟩
    ·cases kd'<;>first|exact .inl rfl|exact .inr rfl|cases z
    ·exact .inl rfl
 refine⟨⟨h2,h1,fun y hy hl=>(h3 y hy).elim (fun z=>absurd hl z) fun z=>z,fr,fun p hp=>?_,fun p hp z hz e=>(h5 p hp z hz).elim (fun w=>absurd e w) fun w=>w⟩,h6⟩;unfold zaF at hp;obtain⟨q,hq,e⟩:=yb0.mp hp;split at e
 ·rename_i hf
  cases hi:idx N q.1 with
  |none=>rw[hi]at e;cases e|some i=>
   rw[hi]at e;have e':(q.1,i)=p:=Option.some.inj e;subst e';refine⟨by rw[g.eN];exact zeH hi,by rw[<-hf];exact hq,?_⟩
   rcases fr q hq hf with z|z<;>rw[z]<;>exact fun w=>by cases w
 ·cases e
def zfM{cl k X E}(g:Gx cl G k X nm N E){scope:Scope}{xs:List Str}(hn:(xs++(zaF scope.names N).map (·.1)).Nodup)(cl':List (Str×Addr))(C:Addr)(s:Shared)(H:Hp)(fp:List Addr):
  Gx cl G k (za8 X xs (zaF scope.names N) scope cl' C s H fp) scope.names (xs++(zaF scope.names N).map (·.1)) noE where
 gok:=g.gok
 room:=g.room
 calm:=g.calm
 pass:=fun pins σ H s e s' I q=>by
  obtain⟨a,cls,a0,H',B,_,_,_,_,_,_,_,_,_,z⟩:=q;exact z.elim
 eN:=rfl
 kk:=g.kk
 pp:=g.pp
 ww:=g.ww
 nd:=hn
 vis:=fun x kd h=>zhf h
 fnx:=fun x h=>lookup_relabel_local h
 fnc:=fun x h=>yaK h
structure Dif(G:Genv)(nm:Names)(N:List Str)(ifs:List Expr)where
 f:Fe
 ok:∀{cl k X},Gx cl G k X nm N noE->PIf X ifs (tTr cl noE f)
def zrh(nm:Names)(N:List Str):∀ifs,Option (Dif G nm N ifs)
 |[]=>some ⟨zeM,fun _ pins s σ H Q I q=>by
   obtain⟨B,w,ρ,S,rfl,R,q⟩:=q
   exact znX pins s σ w.H Q I (q w R (Fut.refl _))⟩
 |[c]=>gd (zch c) fun ht=>(rc nm N c).map fun a=>⟨a.f,fun g=>znW ((a.ok g).2.2 ht)⟩|_=>none
noncomputable def zoS(cl:Cf)(X:Cx)(E:St->XK)(N:List Str)(elt:Expr)(gg:Comprehension)(scope:Scope)(tr:Fe->TE)(mk:Nat->Tg->Fi->Fe->Fe->List Nat->Fe)(f:Fe):Prop:=∃it t c el,f=mk (zav gg.target).length t it c el ((zaF scope.names N).map (·.2))/\gg=⟨gg.target,gg.iter,gg.ifs,0⟩/\CompScopeG X.env.scope scope X.N (zav gg.target) (zaF scope.names N)/\PI X gg.target gg.iter (tI cl E it)/\okE gg.iter=true ∧
   (∀cl' C s H fp,PG (za8 X (zav gg.target) (zaF scope.names N) scope cl' C s H fp) gg.target (tG cl (zav gg.target).length t)) ∧
   (∀cl' C s H fp,PIf (za8 X (zav gg.target) (zaF scope.names N) scope cl' C s H fp) gg.ifs (tTr cl noE c)) ∧
   ∀cl' C s H fp,PE (za8 X (zav gg.target) (zaF scope.names N) scope cl' C s H fp) elt (tr el)
structure Dc(G:Genv)(nm:Names)(N:List Str)(elt:Expr)(gg:Comprehension)(scope:Scope)where
 f:Fe
 ok:∀{cl k X E},Gx cl G k X nm N E->zoS cl X E N elt gg scope (tE cl noE) zcQ f
structure DcM(G:Genv)(nm:Names)(N:List Str)(elt:Expr)(gg:Comprehension)(scope:Scope)where
 f:Fe
 ok:∀{cl k X E},Gx cl G k X nm N E->zoS cl X E N elt gg scope (tN cl noE) zfj f
def zm3{elt:Expr}{gg:Comprehension}{scope:Scope}{cl k X E}{tr:Fe->TE}{mk:Nat->Tg->Fi->Fe->Fe->List Nat->Fe}{el:Fe}(hc:(decide (gg.is_async=0)&&zgM nm scope (zav gg.target) (zaF scope.names N))=true)(it:Di G nm N gg.target gg.iter)(t:Dt G scope.names (zav gg.target++(zaF scope.names N).map (·.1)) (zav gg.target).length gg.target)(c:Dif G scope.names (zav gg.target++(zaF scope.names N).map (·.1)) gg.ifs)
  (he:∀{X},Gx cl G k X scope.names (zav gg.target++(zaF scope.names N).map (·.1)) noE->PE X elt (tr el)) (g:Gx cl G k X nm N E):zoS cl X E N elt gg scope tr mk (mk (zav gg.target).length t.t it.f c.f el ((zaF scope.names N).map (·.2))):=by
 rw[yac]at hc;obtain⟨S,hn⟩:=zi2 g hc.2;refine⟨_,_,_,_,rfl,?_,S,it.ok g,it.q,fun cl' C s H fp=>t.ok (zfM g hn cl' C s H fp),fun cl' C s H fp=>c.ok (zfM g hn cl' C s H fp),fun cl' C s H fp=>he (zfM g hn cl' C s H fp)⟩;have:=yak hc.1;clear it t c S hn g he;cases gg;simp only at this;rw[this]
def zri(nm:Names)(N:List Str)(elt:Expr)(gg:Comprehension)(scope:Scope):Option (Dc G nm N elt gg scope):=
 gd (decide (gg.is_async=0)&&zgM nm scope (zav gg.target) (zaF scope.names N)) fun hc=>
  (zou rc nm N gg.target gg.iter).bind fun it=>
  (tgG G scope.names (zav gg.target++(zaF scope.names N).map (·.1)) (zav gg.target).length gg.target).bind fun t=>
  (zrh rc scope.names (zav gg.target++(zaF scope.names N).map (·.1)) gg.ifs).bind fun c=>
  (rc scope.names (zav gg.target++(zaF scope.names N).map (·.1)) elt).map fun el=>⟨_,fun g=>zm3 hc it t c (fun g=>(el.ok g).2.1) g⟩
def ztx(nm:Names)(N:List Str)(elt:Expr)(gg:Comprehension)(scope:Scope):Option (DcM G nm N elt gg scope):=
 gd (decide (gg.is_async=0)&&zgM nm scope (zav gg.target) (zaF scope.names N)) fun hc=>
  (zou rc nm N gg.target gg.iter).bind fun it=>
  (tgG G scope.names (zav gg.target++(zaF scope.names N).map (·.1)) (zav gg.target).length gg.target).bind fun t=>
  (zrh rc scope.names (zav gg.target++(zaF scope.names N).map (·.1)) gg.ifs).bind fun c=>
  (rc scope.names (zav gg.target++(zaF scope.names N).map (·.1)) elt).bind fun el=>gd el.o fun ho=>some ⟨_,fun g=>zm3 hc it t c (fun g=>(el.ok g).1 ho) g⟩
def Dc.n{cl k X E}{elt:Expr}{gg:Comprehension}{scope:Scope}{pos:Pos}(c:Dc G nm N elt gg scope)(g:Gx cl G k X nm N E):PE X (.ListComp elt [gg] scope pos) (tN cl E c.f):=by
 obtain⟨it,t,c',el,e,eg,S,i1,i2,i3,i4,i5⟩:=c.ok g;rw[e,eg];exact PE.imp (zh1 g.calm S i1 i3 i4 i5 (zdr i2)) fun _ _ _ q=>zm4 q
structure Dop(G:Genv)(nm:Names)(N:List Str)(o:Option Expr)where
 f:Option Fe
 ok:∀{cl k X E},Gx cl G k X nm N E->PO X o (zrG cl E f)
def zuI(nm:Names)(N:List Str):∀o,Option (Dop G nm N o)
 |none=>some ⟨none,fun _=>znU⟩|some e=>(opE rc nm N e).map fun a=>⟨some a.f,fun g=>znT (a.ok g)⟩
structure Px(i:Expr):Type where
 ok:zfZ i
noncomputable def ixO:∀i,Option (Px i)|.Name _ _=>some ⟨fun _ _=>rfl⟩|.Constant _ _ _=>some ⟨fun _ _=>rfl⟩|.BinOp _ _ _ _=>some ⟨fun _ _=>rfl⟩|.Subscript _ _ _=>some ⟨fun _ _=>rfl⟩|.Call _ _ _ _=>some ⟨fun _ _=>rfl⟩|.UnaryOp _ _ _=>some ⟨fun _ _=>rfl⟩|_=>none
def zwJ(nm:Names)(N:List Str)(a:Expr)(pos:Pos):∀i,Option (Dn G nm N (.Subscript a i pos))
 |.Slice lo hi none _=>(opE rc nm N a).bind fun fa=>(zuI rc nm N lo).bind fun l=>(zuI rc nm N hi).bind fun u=>ziA (eSl fa.f l.f u.f) rfl (fun _ _=>rfl) fun g=>zsu (fa.ok g) (l.ok g) (u.ok g)|i=>(ixO i).bind fun h=>(opE rc nm N a).bind fun fa=>(opE rc nm N i).bind fun fi=>ziA (zac ixD fa.f fi.f) rfl (fun _ _=>rfl) fun g=>zsw (ztj g.kk) (fa.ok g) (fi.ok g) h.ok
def zxM(nm:Names)(N:List Str)(b:Expr)(pos:Pos):∀i,Option (Dn G nm N (.Subscript b i pos)):=match b with
 |.Attribute (.Name x px) f _=>fun i=>match i with
  |.Name y _=>gd (G.ob.df f&&G.ob.fk G.ob.cur f) fun hc=>(slO G nm N y).bind fun s=>(rc nm N (.Name x px)).bind fun fo=>ziA (zhy G.ob.cur f fo.f s.i) rfl (fun _ _=>rfl) fun g=>by
   rw[yac]at hc;obtain⟨s1,s2,s3,s4⟩:=s.ok g;exact znE s1 s2 s3 s4 (g.un (by decide)) g.same (g.gok.fk _ _ hc.2) (fo.ok g).2.1 rfl (fun _ _=>rfl)
  |_=>none
 |_=>fun _=>none
def zoG:Rec G:=fun nm N e=>match e with
 |.Constant c _ _=>(match c with
  |.int i=>ziA (zab (.int i)) rfl (fun _ _=>rfl) fun _=>zjx zjR fun w=>.int _|.bool b=>ziA (zab (.bl b)) rfl (fun _ _=>rfl) fun _=>zjx zp6 fun w=>.bl _|.none=>ziA (zab .non) rfl (fun _ _=>rfl) fun _=>zjx zp4 fun w=>.non|.str x=>ziA (zab (.str x)) rfl (fun _ _=>rfl) fun _=>zjx zp0 fun w=>.str _|_=>none)
 |.Name x _=>(match slO G nm N x with
  |some s=>ziA (zad s.i) rfl (fun _ _=>rfl) fun g=>(s.v g).1|none=>gd (zbb nm x) fun hg=>(match hc:G.con x with
   |some d=>ziA (zab d) rfl (fun _ _=>rfl) fun g=>by
    obtain⟨v,u,m,r,sh⟩:=g.gok.con x d hc;exact zjx (zjS (g.glob hg).1 m r (g.glob hg).2.1) sh
   |none=>none))
 |.Tuple es _ _=>(shL rc nm N es).bind fun a=>ziA (zcb a.fs) rfl (fun _ _=>rfl) fun g=>zpB (a.ok g)|.List es _=>(shL rc nm N es).bind fun a=>zsT (zgI a.fs) rfl (fun _ _=>rfl) fun g=>zpF (a.ok g)|.BinOp a op b _=>(zxV op).bind fun gg=>(opE rc nm N a).bind fun fa=>(opE rc nm N b).bind fun fb=>ziA (zac gg.1 fa.f fb.f) rfl (fun _ _=>rfl) fun g=>zpK gg.2 (fa.ok g) (fb.ok g)|.UnaryOp op a _=>(match op with
  |.Not=>gd (zch a) fun ht=>(rc nm N a).map fun fa=>⟨false,eUn zd6 fa.f,rfl,fun g=>⟨nofun,zpC (fa.ok g).2.1,fun _=>zpg ((fa.ok g).2.2 ht)⟩⟩|.USub=>(opE rc nm N a).bind fun fa=>ziA (eUn zn7 fa.f) rfl (fun _ _=>rfl) fun g=>zst zo2 (fa.ok g)|_=>none)
 |.BoolOp op es _=>(zrp rc nm N op es).map fun b=>⟨false,b.f,rfl,fun g=>⟨nofun,(b.ok g).1,fun _=>(b.ok g).2.pt⟩⟩|.Compare a ops bs p=>(zwZ rc nm N a p ops bs).or (zty rc nm N a p ops bs)|.IfExp c a b _=>gd (zch c) fun ht=>(rc nm N c).bind fun fc=>(rc nm N a).bind fun fa=>(rc nm N b).map fun fb=>⟨false,eIf fc.f fa.f fb.f,rfl,fun g=>⟨nofun,zsx ((fc.ok g).2.2 ht) (fa.ok g).2.1 (fb.ok g).2.1,nofun⟩⟩|.Subscript a i pos=>(zxM rc nm N a pos i).or (zwJ rc nm N a pos i)|.Attribute (.Name x p) f _=>gd (G.ob.fk G.ob.cur f) fun hf=>gd (!G.ob.df f) fun _=>(rc nm N (.Name x p)).bind fun fo=>ziA (zeg G.ob.cur f fo.f) rfl (fun _ _=>rfl) fun g=>zpH (g.gok.fk _ _ hf) g.kk (fo.ok g).2.1 rfl|.Call f args kws cp=>ztw rc nm N args cp f kws|.ListComp elt [gg] scope _=>(zri rc nm N elt gg scope).bind fun c=>zsT c.f rfl (fun _ _=>rfl) fun g=>c.n g|.Dict [] [] _=>zsT zmj rfl (fun _ _=>rfl) fun g=>znF g.same|_=>none
end
noncomputable def zvU(G:Genv):Nat->Rec G
 |0=>fun _ _ _=>none|n+1=>zoG (zvU G n)
noncomputable def zk1(X:Cx)(E:St->XK):Prop:=∀(C:Addr) (pins:Z3) (σ:St) (H:Hp) (s:Shared) (e:Addr) (h':Heap) (vs:List Value),Inv X pins σ H s->Heap.MadeExcOf s.heap h' e (.ref C) vs->E σ (.ref C) none H->X.xe (.ref e) {s with heap:=h'}
noncomputable def znj(C:Addr)(E:St->XK)(t:TA):TS:=fun _ σ H=>t σ H fun vs H1=>vs.length<=sizeLine/\E σ (.ref C) none H1
theorem zjI{X:Cx}{x:Str}{C:Addr}{E:St->XK}{np cpos pos:Pos}{e:Expr}{es:List Expr}{t:TA}(hr:zk1 X E)(hc:X.calm=true)(hg:Gl X x)(hm:X.mg x=some (.ref C))
  (z:PySem.W.excIn X.K C bmV "ValueError.__new__"=true) (ha:PA X (e::es) t)
  (he:starEach (e::es) X.env=(false,eval e X.env)::starEach es X.env) (hpl:(backTo cpos (starEach es X.env)).any (·.1)=false) (hdb:(x==("__debug__":Str))=false):
  PS X (.Raise (some (.Call (.Name x np) (e::es) [] cpos)) none pos) (znj C E t):=by
 intro pins s σ H D I h;obtain⟨bm,N,nm,qn,bs,hd,sn,sub,ab,col,dd,c0,c1,c2,c3,c5,mN,o1,o2,o3,o4⟩:=zhu I.mod.kin z
 refine wpAny_Raise_call_subU (C:=C) (nm:=nm) (q:=qn) (N:=N) (bs:=bs) (bm:=bm) (hdct:=hd) (sn:=sn) (sub:=sub) (ab:=ab) (col:=col) (dd:=dd) (k0:=c0) (k1:=c1) (k2:=c2) (k3:=c3) (k5:=c5)
  ybS (by decide +kernel) ybS (mN:=mN) (o4.hasType ybS.hasBase) (I.ok.hd hc) (by rw[he];show(false||(backTo cpos (starEach es X.env)).any (·.1))=false;rw[hpl];rfl) o3 (zdN I hg hm ⟨rfl,?_⟩ hdb)
 have go:=ha cpos pins s σ H _ I h;rw[he]at go ⊢;exact Calls.evalArgs_plain (thn go fun us s2 ⟨vs,H2,I2,r2,q1,q2⟩=>⟨rfl,by rw[<-r2.length];exact q1,I2.bk _ _ o1,o2.keeps I2.bk,o4.keeps I2.bk,fun h' a mk=>hr C pins σ H2 s2 a h' us I2 mk q2⟩)
def sRz(c:Str)(fs:List Fe):Fs:=fun ρ S=>match zaj fs ρ S with|.ok ds S'=>if zaL ds.length then .ex c ρ S' else .bad|.exc x S'=>.ex x ρ S'|.bad=>.bad
noncomputable def zmz(X:Cx)(pins:Z3)(E:St->XK):Cx:={X with pn:=X.pn++pins,xe:=fun e s'=>∃σ H1 s1,Inv X pins σ H1 s1/\CXE X.prog X.w X.stack H1 s1 (E σ) e s'}
section
variable{X:Cx}{pins:Z3}{σ:St}{H:Hp}{s:Shared}{E:St->XK}
def zqg(ok:X.Ok):(zmz X pins E).Ok:=
 ⟨ok.mod,ok.kind,ok.glob,ok.blt,ok.above,ok.inj,ok.has,ok.cab,ok.hd,ok.frames,ok.stk,ok.exf,ok.bs,ok.bsz,ok.noex,ok.exfs,ok.funs,ok.frf⟩
def zlO(ok:(zmz X pins E).Ok):X.Ok:=
 ⟨ok.mod,ok.kind,ok.glob,ok.blt,ok.above,ok.inj,ok.has,ok.cab,ok.hd,ok.frames,ok.stk,ok.exf,ok.bs,ok.bsz,ok.noex,ok.exfs,ok.funs,ok.frf⟩
def zoy(I:Inv X pins σ H s):Inv (zmz X pins E) [] σ H s:=
 ⟨zqg I.ok,I.os,I.bare,I.base,I.loc,I.cell,I.free,I.freeC,fun p hp=>I.pin p (by simpa[zmz]using hp),I.hok,I.len⟩
def zcL{pins':Z3}(I:Inv (zmz X pins E) pins' σ H s):Inv X pins σ H s:=
 ⟨zlO I.ok,I.os,I.bare,I.base,I.loc,I.cell,I.free,I.freeC,fun p hp=>I.pin p (ycn _ hp),I.hok,I.len⟩
def zli{De:Ends}{f:Flow}(h:SP (zmz X pins E) [] De f s):SP X pins De f s:=by
 cases f with
 |next=>obtain⟨σ',H',I,q⟩:=h;exact⟨σ',H',zcL I,q⟩|brk=>obtain⟨σ',H',I,q⟩:=h;exact⟨σ',H',zcL I,q⟩|cont=>obtain⟨σ',H',I,q⟩:=h;exact⟨σ',H',zcL I,q⟩|ret u=>obtain⟨v,σ',H',I,r,q⟩:=h;exact⟨v,σ',H',zcL I,r,q⟩
end
noncomputable def zsf(K:PySem.W.Frag)(C:Addr)(i:Nat)(th:TS)(De:Ends):St->XK:=fun σ cls _ H'=>∃C',cls=.ref C'/\zmx K C' C/\∀a ob,H' a=none->ob.cls=.ref C'->th (De.goes i) (σ.set i (some (.ref a))) (upd H' a (.frz ob (.own a)))
def znS{X:Cx}{body:List Stmt}{b0:Stmt}{suite:List Stmt}{c n:Str}{C:Addr}{i:Nat}{bD:List Value}{iD:String}{tb:(St->XK)->TS}{th:TS}{np hpos pos:Pos}(hs:X.stack=X.env::X.outer)(hf:X.env.frame=some X.env.locals)(hN:X.N.Nodup)(hi:X.N[i]?=some n)
  (hk:X.env.scope.names.lookup n=some .local) (hg:Gl X c) (hm:X.mg c=some (.ref C)) (z:PySem.W.excIn X.K C bD iD=true) (hb:bD.contains (.type "BaseException")=true) (h1:∀pins E,PSs (zmz X pins E) body (tb E)) (h2:∀a,PSs (X.inH a) (b0::suite) th) (hdb:(c==("__debug__":Str))=false):
  PS X (.Try body [.ExceptHandler (some (.Name c np)) (some n) (b0::suite) hpos] [] [] pos) (fun De σ H=>tb (zsf X.K C i th De) De σ H):=by
 intro pins s σ H D I h
 have hfr:X.A.frames=some (X.env::X.outer):=by rw[<-hs];exact I.ok.frames
 refine wpAny_Try_except (ybg (h1 pins (zsf X.K C i th D) [] s σ H D (zoy I) h) (fun f s1 q=>?_) fun e s1 q=>?_)
 ·have q':=zli q
  cases f with
  |next=>exact ycw q'|ret v=>exact q'|brk=>exact q'|cont=>exact q'
 ·obtain⟨σ1,H1,s2,I1,a,cls,a0,H',B,rfl,fl,c1,c2,c3,os,bare,un,hok,C',rfl,⟨⟨bC,iC,zC⟩,up⟩,q⟩:=q;have fl':=fl;rw[hs]at fl';refine wpAny_looks_onW hfr hf fl' fun h4 hd4 u4=>?_
  refine wpAny_landsW hd4 fun h5 fl5 u5=>?_
  rw[<-hs]at fl5;obtain⟨I5,ob5,oc5,og5,_,_⟩:=zfk (s':=s1) I1 fl5 (u4.trans u5) c1 c2 c3 os bare un hok;refine wpAny_handleBy_cons (codeAny_handlers_test ?_) (by intro q;cases q);refine zdN (I5.inH a) hg hm ?_ hdb;refine zfH I5.kIn zC z og5 oc5 hb up ?_;refine codeAny_handlers_suite_as ?_;refine lands_againW fl5 fun h6 fl6 u6=>?_
  obtain⟨_,ob,oc,og,na,I6⟩:=zfk (s':=s1) I1 fl6 ((u4.trans u5).trans u6) c1 c2 c3 os bare un hok;refine zec (v:=.ref a) I6 hN hi (.inl hk) rfl (fun s7 I7=>?_) (.inr hk);exact ybg (h2 a pins s7 _ _ (D.goes i) (I7.inH a) (q a ob na oc)) (fun f s8 q8=>zns I.ok hN hi hk q8) fun _ _ z=>z.elim
noncomputable def zpN(und:Str->Str->Bool)(C:Str)(i j:Nat)(fb:Fs):Fs:=fun ρ S=>match fb ρ S with
 |.ex c ρ' S'=>if und c C&&decide (i<ρ'.length)then .nx ((ρ'.set j (some (false,.exc c))).set i none) S' else .bad
 |o=>o
def Rel.clear{cl:Cf}{B:Base}{σ:St}{w:Wd}{ρ:Env}{S:Sto}(R:Rel cl B σ w ρ S)(i:Nat):Rel cl B (σ.set i none) w (ρ.set i none) S where
 wd:=R.wd
 len:=by rw[yaw,yaw];exact R.len
 slots:=fun j o e hj=>by
  by_cases hij:i=j
  ·subst hij
   have hlt:i<ρ.length:=by
    have:=(yaj.mp hj).1;rwa[yaw]at this
   rw[yap hlt]at hj;cases hj
  ·rw[yaE hij]at hj ⊢;exact R.slots j o e hj
section
variable{X:Cx}{cl:Cf}{E:St->XK}{own:Bool}
def zlf{K:PySem.W.Frag}{und:Str->Str->Bool}{C:Str}{i j:Nat}{fb:Fs}(hij:i≠j)(hu:∀c,und c C=true->zmx K (cl c) (cl C)){De:Ends}{σ:St}{H:Hp}(q:tS cl E own (zpN und C i j fb) De σ H):
  tS cl (zsf K (cl C) i (zmB (zuE i) (zhq j)) De) own fb De σ H:=by
 obtain⟨B,w,ρ,S,rfl,R,q⟩:=q;refine⟨B,w,ρ,S,rfl,R,?_⟩;unfold zpN at q;have hl:ρ.length=σ.length:=R.len.symm
 cases hf:fb ρ S with
 |nx ρ' S'=>rwa[hf]at q|bk ρ' S'=>rwa[hf]at q|ct ρ' S'=>rwa[hf]at q|rt d S'=>rwa[hf]at q|bad=>rwa[hf]at q|ex c ρ' S'=>
  rw[hf]at q;dsimp only at q
  cases hc:und c C&&decide (i<ρ'.length)with
  |false=>rw[hc,if_neg (by decide)]at q;exact q.elim
  |true=>
   rw[hc,if_pos rfl]at q;rw[yac]at hc;intro σ' w' R' F';refine⟨cl c,rfl,hu c hc.1,fun a ob ha hob=>?_⟩;have g:=zar (w:=w') ha (.frz ob (.own a));have sh:Shd cl (w'.add a (.frz ob (.own a))) (.ref a) (.exc c):=.exc zjb zfm hob
   have hi':i<σ'.length:=by rw[R'.len];exact yak hc.2
   refine⟨.ref a,yap hi',?_⟩;have R2:=((R'.grow g).put (i:=j) sh).clear i;refine q _ (w'.add a (.frz ob (.own a))) ?_ (F'.trans g.fut)
   have e:((σ'.set i (some (V.ref a))).set j (some (.ref a))).set i none=(σ'.set j (some (V.ref a))).set i none:=by
    rw[List.set_comm _ _ hij,List.set_set]
   show Rel cl B (((σ'.set i (some (V.ref a))).set j (some (.ref a))).set i none) _ _ _;rw[e];exact R2
end
noncomputable def zwL(i j:Nat)(o1:Bool)(f1:Fe)(o2:Bool)(f2:Fe):Fs:=fun ρ S=>match f1 ρ S with
 |.ok d1 S1=>(match f2 ρ S1 with
  |.ok d2 S2=>.nx ((ρ.set i (some (o1,d1))).set j (some (o2,d2))) S2|.exc c S'=>.ex c ρ S'|.bad=>.bad)
 |.exc c S'=>.ex c ρ S'|.bad=>.bad
noncomputable def zkq:Expr->Bool|.ListComp _ _ _ _=>true|.SetComp _ _ _ _=>true|.DictComp _ _ _ _ _=>true|_=>false
def zfr{e:Expr}{t:Option Expr}{l:Nat}{env:PySem.Env}(h:zkq e=false):swapsWith e t l env=pure false:=by
 cases e<;>first|rfl|cases h
structure Gd(cl:Cf)(G:Genv)(k:Nat)(X:Cx)(nm:Names)(N:List Str)(E:St->XK)(full:Bool):Prop where
 gx:Gx cl G k X nm N E
 kind:X.env.scope.kind=.function
 sc:X.env.scope.names=nm
 own:full=true->PassesOwn (model X.prog X.w) X.A X.env X.xe
 raises:full=true->zk1 X E
 stk:X.stack=X.env::X.outer
 frm:X.env.frame=some X.env.locals
def zcm:Nat->Names->List Str->Expr->List Nat
 |0,_,_,_=>[]|n+1,nm,N,e=>
  let rc:=zcm n nm N
  let op:=fun(e:Expr)=>match e with|.Name _ _=>[]|e=>rc e
  match e with
  |.Name x _=>(zhT nm N x).toList|.Tuple es _ _=>es.flatMap rc|.List es _=>es.flatMap rc|.BinOp a _ b _=>op a++op b|.UnaryOp _ a _=>rc a|.BoolOp _ es _=>es.flatMap rc|.Compare a _ bs _=>op a++bs.flatMap op|.IfExp c a b _=>rc c++rc a++rc b|.Subscript a (.Slice lo hi _ _) _=>op a++lo.toList.flatMap op++hi.toList.flatMap op|.Subscript a i _=>op a++op i|.Call (.Name f _) args [] _=>if(zrr f).isSome||decide (f="isinstance")then args.flatMap op else args.flatMap rc
  |.Call (.Attribute o _ _) args [] _=>op o++args.flatMap rc|.Attribute o _ _=>op o|.ListComp _ [g] scope _=>rc g.iter++(zaF scope.names N).map (·.2)|_=>[]
def ziJ(t:Tg)(f:Fe):Fs:=fun ρ S=>match f ρ S with
 |.ok d S'=>(match t.put ρ d with|some ρ'=>.nx ρ' S'|none=>.bad)
 |.exc c S'=>.ex c ρ S'|.bad=>.bad
def znV(n:Nat)(own:Bool)(nm:Names)(N:List Str):Stmt->List Nat
 |.Assign [_] e _=>zcm n nm N e|.Expr (.Call (.Attribute _ _ _) args [] _) _=>args.flatMap (zcm n nm N)|.Expr e _=>zcm n nm N e|.Return (some (.Name x p)) _=>if own then[]else zcm n nm N (.Name x p)
 |.Return (some e) _=>zcm n nm N e|.If c _ _ _=>zcm n nm N c|.For _ it _ _ _=>zcm n nm N it|.While c _ _ _=>zcm n nm N c|_=>[]
structure Ds(G:Genv)(nm:Names)(N:List Str)(own full:Bool)(st:Stmt)where
 f:Fs
 ok:∀{cl k X E},Gd cl G k X nm N E full->PS X st (tS cl E own f)
structure Dss(G:Genv)(nm:Names)(N:List Str)(own full:Bool)(b:List Stmt)where
 f:Fs
 ok:∀{cl k X E},Gd cl G k X nm N E full->PSs X b (tS cl E own f)
noncomputable def zqV:Expr->Bool|.Tuple _ _ _=>true|_=>false
section
variable{cl:Cf}{G:Genv}{k:Nat}{X:Cx}{nm:Names}{N:List Str}{E:St->XK}{own full:Bool}
def zkY{n:Nat}{t:Tg}{f:Fe}{De:Ends}{σ:St}{H:Hp}(q:tS cl E own (ziJ t f) De σ H):zmB (tE cl E f) (tG cl n t) De σ H:=by
 obtain⟨B,w,ρ,S,rfl,R,q⟩:=q;refine⟨B,w,ρ,S,rfl,R,?_⟩;unfold ziJ at q
 cases hf:f ρ S with
 |bad=>rwa[hf]at q|exc c S1=>rw[hf]at q;exact fun w' R' F'=>q σ w' R' F'|ok d S1=>
  rw[hf]at q;intro v w' R' F' h';dsimp only at q
  cases hp:t.put ρ d with
  |none=>rw[hp]at q;exact q.elim|some ρ'=>rw[hp]at q;exact⟨B,w',ρ,S1,d,ρ',rfl,R',h',hp,fun σ' _ _ R2=>q σ' w' R2 F'⟩
def zmC{a i e:Expr}{p:Pos}{l:Nat}{env:PySem.Env}:swapsWithSole [.Subscript a i p] e l env=pure false:=by cases e<;>rfl
def zmE{a i e:Expr}{p:Pos}{env:PySem.Env}:swappedStores [.Subscript a i p] e env=pure none:=by cases e<;>rfl
def zpd{es:List Expr}{kk l:Nat}{p:Pos}{e:Expr}{env:PySem.Env}:swapsWithSole [.Tuple es kk p] e l env=pure false:=by cases e<;>rfl
def zpf{es:List Expr}{kk:Nat}{p:Pos}{e:Expr}{env:PySem.Env}(h:zqV e=false):swappedStores [.Tuple es kk p] e env=pure none:=by cases e<;>first|rfl|cases h
def zmD{o e:Expr}{f:Str}{p:Pos}{l:Nat}{env:PySem.Env}:swapsWith e (some (.Attribute o f p)) l env=pure false:=by cases e<;>rfl
def zmo(g:Gd cl G k X nm N E full){elt:Expr}{gg:Comprehension}{scope:Scope}{x:Str}{p px pos:Pos}(i:Ti G nm N N.length x)(c:Dc G nm N elt gg scope):
  PS X (.Assign [.Name x px] (.ListComp elt [gg] scope p) pos) (tS cl E own (zbi i.i true c.f)):=by
 obtain⟨a1,a2,a3,a4,a5⟩:=i.ok g.gx;obtain⟨b,hb⟩:∃b,swapsWith (.ListComp elt [gg] scope p) (some (.Name x px)) pos.line X.env=pure b:=⟨_,rfl⟩
 cases b with
 |false=>exact zjs a2 a3 a4 (c.n g.gx) hb a5|true=>
  obtain⟨it,t,c',el,e,eg,S,i1,i2,i3,i4,i5⟩:=c.ok g.gx;rw[e];rw[eg]at hb ⊢;refine PS.imp (zhX g.gx.calm S a2 a3 a4 i1 i3 i4 i5 hb a5 (zdr i2)) ?_;intro De σ H q;exact zm4 (zru q)
def zkL(g:Gd cl G k X nm N E full){elt:Expr}{gg:Comprehension}{scope:Scope}{x:Str}{p px pos:Pos}(i:Ti G nm N N.length x)(c:DcM G nm N elt gg scope):
  PS X (.Assign [.Name x px] (.ListComp elt [gg] scope p) pos) (tS cl E own (zg9 i.i c.f)):=by
 obtain⟨a1,a2,a3,a4,a5⟩:=i.ok g.gx;obtain⟨b,hb⟩:∃b,swapsWith (.ListComp elt [gg] scope p) (some (.Name x px)) pos.line X.env=pure b:=⟨_,rfl⟩;obtain⟨it,t,c',el,e,eg,S,i1,i2,i3,i4,i5⟩:=c.ok g.gx;rw[e];rw[eg]at hb ⊢
 cases b with
 |false=>exact PS.imp (zhW a2 a3 a4 (PE.imp (zh1 g.gx.calm S i1 i3 i4 i5 (zdr i2)) fun _ _ _ q=>zm5 q) hb a5) fun _ _ _ q=>zrv q|true=>
  refine PS.imp (zhX g.gx.calm S a2 a3 a4 i1 i3 i4 i5 hb a5 (zdr i2)) ?_;intro De σ H q;exact zm5 (zrv q)
end
section
variable{G:Genv}(rc:Rec G){nm:Names}{N:List Str}{own full:Bool}
noncomputable def zxX(nm:Names)(N:List Str)(x:Str)(px pos:Pos):∀e,Option (Ds G nm N own full (.Assign [.Name x px] e pos))
 |.ListComp elt [gg] scope p=>(tgI G nm N N.length x).bind fun i=>if G.ns x then(ztx rc nm N elt gg scope).map fun c=>⟨zg9 i.i c.f,fun g=>zkL g i c⟩else(zri rc nm N elt gg scope).map fun c=>⟨zbi i.i true c.f,fun g=>zmo g i c⟩
 |e=>gd (!zkq e) fun hc=>(tgI G nm N N.length x).bind fun i=>(rc nm N e).map fun a=>⟨zbi i.i a.o a.f,fun g=>by
   obtain⟨a1,a2,a3,a4,a5⟩:=i.ok g.gx;have b:=a.ok g.gx
   cases ho:a.o with
   |false=>exact zpo a2 a3 a4 b.2.1 (zfr ((yaW _).mp hc)) a5|true=>exact zjs a2 a3 a4 (b.1 ho) (zfr ((yaW _).mp hc)) a5⟩
def ztH(nm:Names)(N:List Str)(es:List Expr)(kt:Nat)(pt pos:Pos)(e:Expr)(sw:∀{cl k X E},Gd cl G k X nm N E full->swappedStores [.Tuple es kt pt] e X.env=pure none):Option (Ds G nm N own full (.Assign [.Tuple es kt pt] e pos)):=(tgG G nm N N.length (.Tuple es kt pt)).bind fun t=>(rc nm N e).map fun a=>⟨ziJ t.t a.f,fun g=>PS.imp (zhY (a.ok g.gx).2.1 (t.ok g.gx) zpd (sw g) rfl) fun _ _ _ q=>zkY q⟩
noncomputable def zxW(nm:Names)(N:List Str)(es:List Expr)(kt:Nat)(pt pos:Pos):∀e,Option (Ds G nm N own full (.Assign [.Tuple es kt pt] e pos))
 |e=>gd (!zqV e) fun h=>ztH rc nm N es kt pt pos e fun _=>zpf ((yaW _).mp h)
def zxZ(nm:Names)(N:List Str)(x f:Str)(p ap pos:Pos):∀e,Option (Ds G nm N own full (.Assign [.Attribute (.Name x p) f ap] e pos))
 |.Dict [] [] _=>gd (G.ob.df f&&G.ob.fk G.ob.cur f) fun hf=>(slO G nm N x).map fun s=>⟨ziI G.ob.cur f s.i,fun g=>by
   obtain⟨s1,s2,s3,s4⟩:=s.ok g.gx
   exact znq s1 s2 s3 s4 g.gx.same (g.gx.gok.fk _ _ ((yac _ _).mp hf).2) zmD⟩
 |e=>gd (!G.ob.df f&&G.ob.fk G.ob.cur f) fun hf=>(rc nm N (.Name x p)).bind fun fo=>(rc nm N e).map fun a=>⟨zfx G.ob.cur f fo.f a.f,fun g=>znp g.gx.same (g.gx.gok.fk _ _ ((yac _ _).mp hf).2) (fo.ok g.gx).2.1 (a.ok g.gx).2.1 zmD⟩
structure Ix(ix:Expr):Type where
 ok:∀(env:PySem.Env) (x:Str) (p p3:Pos) (v:Value),assign (.Subscript (.Name x p) ix p3) env v=(do
   let ov ← holding [v] (eval (.Name x p) env)
   let iv ← holding [v,ov] (eval ix env)
   standAt p3
   holding [v,ov,iv] (setItem ov iv v)
   release [v,ov,iv] [])
noncomputable def ixA:∀ix,Option (Ix ix)|.Tuple _ _ _=>some ⟨fun _ _ _ _ _=>rfl⟩|_=>none
noncomputable def zwW(nm:Names)(N:List Str)(ix:Expr)(p3 pos:Pos):∀b e,Option (Ds G nm N own full (.Assign [.Subscript b ix p3] e pos))
 |.Name x _,.Constant (.bool true) _ _=>gd (G.ds x) fun _=>(ixA ix).bind fun h=>(slO G nm N x).bind fun s=>(rc nm N ix).map fun k=>⟨zgg s.i k.f,fun g=>by
   obtain⟨s1,s2,s3,s4⟩:=s.ok g.gx
   exact znn (g.gx.un (by decide)) g.gx.same s1 s2 s3 s4 (k.ok g.gx).2.1 (h.ok _ _ _ _)⟩
 |_,_=>none
noncomputable def zwX(nm:Names)(N:List Str)(e:Expr)(p3 pos:Pos):∀b ix,Option (Ds G nm N own full (.Assign [.Subscript b ix p3] e pos))
 |.Attribute (.Name x px) f _,.Name y _=>gd (G.ob.df f&&G.ob.fk G.ob.cur f) fun hc=>(slO G nm N y).bind fun s=>(rc nm N (.Name x px)).bind fun fo=>(rc nm N e).map fun a=>⟨zg7 G.ob.cur f fo.f s.i a.f,fun g=>by
   rw[yac]at hc;obtain⟨s1,s2,s3,s4⟩:=s.ok g.gx
   exact zno s1 s2 s3 s4 (g.gx.un (by decide)) g.gx.same (g.gx.gok.fk _ _ hc.2) (fo.ok g.gx).2.1 rfl (a.ok g.gx).2.1 zmC zmE (fun _=>rfl)⟩
 |_,_=>none
noncomputable def zwK(nm:Names)(N:List Str)(e:Expr)(p3 pos:Pos):∀b ix,Option (Ds G nm N own full (.Assign [.Subscript b ix p3] e pos))
 |.Subscript (.Name x _) (.Subscript (.Name y _) (.Constant (.int c) _ _) _) _,.Subscript (.Name y' _) (.Constant (.int d) _ _) _=>gd (decide (y'=y)) fun hy=>(slO G nm N x).bind fun s=>(slO G nm N y).bind fun s'=>(rc nm N e).map fun a=>⟨zg6 s.i s'.i c d a.f,fun g=>by
   obtain rfl:=yak hy;obtain⟨s1,s2,s3,s4⟩:=s.ok g.gx;obtain⟨t1,t2,t3,t4⟩:=s'.ok g.gx
   exact znk s1 s2 s3 s4 t1 t2 t3 t4 (a.ok g.gx).2.1 zmC zmE⟩
 |_,_=>none
def zxY(nm:Names)(N:List Str)(e:Expr)(pos:Pos):∀tg,Option (Ds G nm N own full (.Assign [tg] e pos))
 |.Name x px=>zxX rc nm N x px pos e|.Tuple es kt pt=>zxW rc nm N es kt pt pos e|.Attribute (.Name x p) f ap=>zxZ rc nm N x f p ap pos e|.Subscript b i p3=>(zwW rc nm N i p3 pos b e).or ((zwX rc nm N e p3 pos b i).or (zwK rc nm N e p3 pos b i))|_=>none
def zvT(nm:Names)(N:List Str)(pos:Pos)(e:Expr):Option (Ds G nm N own full (.Expr e pos)):=gd (!zkq e) fun hc=>(rc nm N e).map fun a=>⟨zoV a.f,fun g=>zpn (a.ok g.gx).2.1 (zfr ((yaW _).mp hc))⟩
noncomputable def zx0(nm:Names)(N:List Str)(m:Str)(ap cp pos:Pos)(a:Expr):∀o,Option (Ds G nm N own full (.Expr (.Call (.Attribute o m ap) [a] [] cp) pos))
 |.Name x _=>gd (decide (m="append")&&(ap.endLine==cp.line)) fun hc=>(slO G nm N x).bind fun s=>(rc nm N a).map fun fa=>⟨zmI s.i fa.f,fun g=>by
   rw[yac]at hc;obtain rfl:=yak hc.1;obtain⟨s1,s2,s3,s4⟩:=s.ok g.gx
   exact zpp s1 s2 s3 s4 (fa.ok g.gx).2.1 (zan fa.q) hc.2⟩
 |_=>none
noncomputable def ztt(nm:Names)(N:List Str)(m:Str)(ap cp pos:Pos)(a:Expr):∀o,Option (Ds G nm N own full (.Expr (.Call (.Attribute o m ap) [a] [] cp) pos))
 |.Name x _=>gd (decide (m="extend")&&(ap.endLine==cp.line)) fun hc=>(slO G nm N x).bind fun s=>(opE rc nm N a).map fun fa=>⟨zpQ s.i fa.f,fun g=>by
   rw[yac]at hc;obtain rfl:=yak hc.1;obtain⟨s1,s2,s3,s4⟩:=s.ok g.gx
   exact zpm s1 s2 s3 s4 (fa.ok g.gx) (zan fa.q) hc.2⟩
 |_=>none
def ztu(nm:Names)(N:List Str)(pos:Pos):∀e,Option (Ds G nm N own full (.Expr e pos))
 |.Call (.Attribute o m ap) [a] [] cp=>(zx0 rc nm N m ap cp pos a o).or ((ztt rc nm N m ap cp pos a o).or (zvT rc nm N pos _))|e=>zvT rc nm N pos e
def zwO(nm:Names)(N:List Str)(e:Expr)(pos:Pos):∀own,Option (Ds G nm N own full (.Return (some e) pos))
 |true=>(match e with
  |.Name x _=>(slO G nm N x).map fun s=>⟨ziH s.i,fun g=>by
    obtain⟨s1,s2,s3,s4⟩:=s.ok g.gx
    exact znl s1 s2 s3 s4⟩
  |e=>(rc nm N e).bind fun a=>gd a.o fun ho=>some ⟨za4 a.f,fun g=>znm ((a.ok g.gx).1 ho)⟩)
 |false=>(rc nm N e).map fun a=>⟨za4 a.f,fun g=>zpj (a.ok g.gx).2.1⟩
def zsA(hf:full=true){cl k X E}{c:Str}{args:List Expr}{p cp pos:Pos}(g:Gd cl G k X nm N E full)(h:zbb nm c=true)(hx:G.exc c=true)(hne:args.isEmpty=false)(a:DL G nm N args):PS X (.Raise (some (.Call (.Name c p) args [] cp)) none pos) (tS cl E own (sRz c a.fs)):=by
 cases args with
 |nil=>cases hne|cons e es=>
 obtain⟨m,z⟩:=g.gx.gok.exc c hx;have a2:=a.q;rw[ybv,yac]at a2;refine PS.imp (zjI (g.raises hf) g.gx.calm (g.gx.glob h).1 m z (a.ok g.gx) (zbr a2.1) (zbB a2.2) (g.gx.glob h).2.1) ?_;rintro De σ H ⟨B,w,ρ,S,rfl,R,q⟩;refine⟨B,w,ρ,S,rfl,R,?_⟩;unfold sRz at q
 cases hv:zaj a.fs ρ S with
 |bad=>rwa[hv]at q|exc c S1=>rw[hv]at q;exact fun w' R' F'=>q σ w' R' F'|ok ds S1=>
  rw[hv]at q;dsimp only at q
  cases hz:zaL ds.length with
  |false=>rw[hz,if_neg (by decide)]at q;exact q.elim
  |true=>
   rw[hz,if_pos rfl]at q;exact fun vs w' R' F' sh=>⟨by rw[sh.length];exact zaO hz,q σ w' R' F'⟩
def zo5{cl k X E}(g:Gd cl G k X nm N E full)(pins:Z3)(E':St->XK):Gd cl G k (zmz X pins E') nm N E' false where
 gx:=⟨g.gx.gok,g.gx.room,g.gx.calm,fun pins' σ H s e s' I q=>⟨σ,H,s,zcL I,q⟩,g.gx.eN,g.gx.kk,g.gx.pp,g.gx.ww,g.gx.nd,g.gx.vis,g.gx.fnx,fun x h=>g.gx.fnc x h⟩
 kind:=g.kind
 sc:=g.sc
 own:=nofun
 raises:=nofun
 stk:=g.stk
 frm:=g.frm
noncomputable def zwz(rs:∀b,Option (Dss G nm N own false b))(body:List Stmt)(pos:Pos):∀hs,Option (Ds G nm N own full (.Try body hs [] [] pos))
 |[.ExceptHandler (some (.Name C _)) (some n) [.Assign [.Name m _] (.Name n' _) _] _]=>gd (zbb nm C&&G.exc C&&decide (n=n')&&decide (nm.lookup n=some .local)&&zgu n) fun hc=>match hi:idx N n with
  |some i=>(tgI G nm N N.length m).bind fun j=>gd (!decide (i=j.i)) fun hij=>(rs body).map fun fb=>⟨zpN G.und C i j.i fb.f,fun g=>by
   simp only[yac,ybp]at hc;obtain⟨⟨⟨⟨c1,c2⟩,rfl⟩,c4⟩,c5⟩:=hc;have hij:=of_decide_eq_false ((yaW _).mp hij);obtain⟨mC,zC⟩:=g.gx.gok.exc C c2;obtain⟨o1,o2,_⟩:=zet c5;have hnl:_=some NameKind.local:=(congrArg (List.lookup n) g.sc).trans c4;have hNi:_=some n:=(congrArg (fun l:List Str=>l[i]?) g.gx.eN).trans (zeH hi);obtain⟨_,a2,a3,a4,a5⟩:=j.ok g.gx;refine PS.imp (znS (tb:=fun E'=>tS _ E' own fb.f) g.stk g.frm (by rw[g.gx.eN];exact g.gx.nd) hNi hnl (g.gx.glob c1).1 mC zC (by decide +kernel) (fun pins E'=>fb.ok (zo5 g pins E')) (fun a=>znQ (zhW a2 a3 a4 (zbQ hNi (.inl hnl) o1 o2) rfl a5)) (g.gx.glob c1).2.1) ?_;intro De σ H q
   exact zlf hij (fun c hc'=>g.gx.gok.und c C hc') q⟩
  |none=>none
 |_=>none
def stG(rs:∀fl b,Option (Dss G nm N own fl b)):∀full st,Option (Ds G nm N own full st)
 |_,.Assign [tg] e p=>zxY rc nm N e p tg|_,.Expr e p=>ztu rc nm N p e|_,.Return (some e) p=>zwO rc nm N e p own|fl,.If c a b _=>gd (zch c) fun ht=>(rc nm N c).bind fun fc=>(rs fl a).bind fun fa=>(rs fl b).map fun fb=>⟨sIf fc.f fa.f fb.f,fun g=>zsr ((fc.ok g.gx).2.2 ht) (fa.ok g) (fb.ok g)⟩|true,.For tg it body [] _=>(zou rc nm N tg it).bind fun i=>(tgG G nm N N.length tg).bind fun t=>(rs true body).map fun b=>⟨zjc t.t i.f b.f,fun g=>zpl (g.own rfl) g.gx.calm (i.ok g.gx) (t.ok g.gx) (b.ok g) (zdr i.q)⟩|true,.Raise (some (.Call (.Name c _) args [] _)) none _=>gd (zbb nm c&&G.exc c&&!args.isEmpty) fun hc=>(shL rc nm N args).map fun a=>⟨sRz c a.fs,fun g=>by
   simp only[yac,yaW]at hc
   exact zsA rfl g hc.1.1 hc.1.2 hc.2 a⟩
 |_,.Try body hs [] [] p=>zwz (rs false) body p hs|_,_=>none
end
def blk{G:Genv}{nm:Names}{N:List Str}{own full:Bool}(ds:∀st,Option (Ds G nm N own full st)):∀b,Option (Dss G nm N own full b)
 |[]=>some ⟨sNx,fun _=>zpk⟩|s::r=>(ds s).bind fun f=>(blk ds r).map fun h=>⟨zai f.f h.f,fun g=>znr (f.ok g) (h.ok g)⟩
def zre(G:Genv)(nm:Names)(N:List Str)(own:Bool):Nat->∀full st,Option (Ds G nm N own full st)
 |0=>fun _ _=>none|n+1=>fun full st=>(stG (zvU G n) (fun fl=>blk (zre G nm N own n fl)) full st).map fun a=>⟨sFz (znV n own nm N st) a.f,fun g=>zss _ (a.ok g)⟩
noncomputable def zbt(nN:Nat)(own:Bool)(fs:Fs)(ds:List D)(S:Sto):Out D:=match fs (ds.map (fun d=>some (false,d))++List.replicate (nN-ds.length) none) S with
 |.rt d S'=>.ok d S'|.nx _ S'=>if own then .bad else .ok .non S'
 |.ex c _ S'=>.exc c S'|_=>.bad
def zak(G:Genv)(own:Bool)(N:List Str)(st:Stmt):Option Fs:=(blk (zre G (zaa st).names N own 40 true) (za7 st)).map Dss.f
def zm1{cl k X E}{G:Genv}{own:Bool}{N:List Str}{st:Stmt}{f:Fs}(h:zak G own N st=some f)(g:Gd cl G k X (zaa st).names N E true):PSs X (za7 st) (tS cl E own f):=by
 obtain⟨a,_,rfl⟩:=Option.map_eq_some_iff.mp h;exact a.ok g
section
variable{cl:Cf}
theorem zkT{fs:Fs}{own:Bool}{n:Nat}{N:List Str}{vs:List V}{H:Hp}{Q:VK}{X:XK}(hsp:zf0 cl n own (zbt N.length own fs) vs H Q X):tS cl (fun _=>X) own fs {nx:=fun _ H'=>Q .non H',rt:=Q} (L2.zeW N vs) H:=by
 obtain⟨hl,B,w,ds,S0,rfl,W,sh,q⟩:=hsp;have hdl:ds.length=vs.length:=sh.length.symm;refine⟨B,w,ds.map (fun d=>some (false,d))++List.replicate (N.length-ds.length) none,S0,rfl,⟨W,?_,fun i o d hi=>?_⟩,?_⟩
 ·unfold L2.zeW;rw[yao,yao,yaf,yaf,yaH,yaH,hdl]
 ·by_cases hlt:i<ds.length
  ·rw[yaC (by rw[yaf];exact hlt),yar]at hi
   cases hdi:ds[i]? with
   |none=>rw[hdi]at hi;cases hi|some d'=>
    rw[hdi]at hi;cases hi;obtain⟨v,e1,e2⟩:=sh.at hdi;refine⟨v,?_,e2⟩;unfold L2.zeW;rw[yaC (by rw[yaf];omega),yar,e1];rfl
  ·rw[yat (by rw[yaf];omega),ybc]at hi
   split at hi<;>cases hi
 ·unfold zbt at q
  cases hf:fs (ds.map (fun d=>some (false,d))++List.replicate (N.length-ds.length) none) S0 with
  |bad=>rwa[hf]at q|bk _ _=>rw[hf]at q;exact q.elim|ct _ _=>rw[hf]at q;exact q.elim|rt d S'=>rwa[hf]at q|ex c ρ' S'=>rw[hf]at q;exact fun σ' w' R' F'=>q w' R'.wd F'|nx ρ' S'=>
   rw[hf]at q;dsimp only at q
   cases own with
   |true=>exact q.elim|false=>exact fun σ' w' R' F'=>q .non w' R'.wd F' .non
end
theorem zme{P:Program}{wo:PySem.World}{K:PySem.W.Frag}{mg:Z6}{base:Heap}{cl:Cf}{G:Genv}{k:Nat}{x qual:Str}{st:Stmt}{f:Addr}{fd:FuncData}{N ps:List Str}{own:Bool}{fs:Fs}(F:Fun K x qual st f fd)(S:FnScope N ps (zaa st))(hG:GOk cl G P wo K mg base k)
  (hk:K=cl.K) (hP:P=cl.P) (hW:wo=cl.wo) (hd:zak G own N st=some fs):FnOk P wo K mg base (CXE P wo) (k+1) f fd ps (zf0 cl ps.length own (zbt N.length own fs)):=by
 obtain⟨oc,od,kV,doc,pm,an,cdv,ct,osl,rfl,lk,hcd⟩:=F.ex;refine zqZ lk hcd S (fun vs H Q E h=>h.1) fun A outer s H vs Q E hr hsp=>⟨tS cl (fun _=>E) own fs,zm1 hd (k:=k) ⟨⟨hG,hr,rfl,fun pins σ H1 s1 e s' I q=>zp8 pins σ H1 s1 e s' I q,rfl,hk,hP,hW,S.nd,fun x kd h=>⟨kd,h,.inl rfl⟩,(fun x h=>h),(fun x h=>rfl)⟩,S.kind,rfl,fun _=>PassesOwn.leaving,fun _ C pins σ H1 s1 e h' vs I mk q=>zjC C pins σ H1 s1 e h' vs I mk q,rfl,rfl⟩,zkT hsp⟩
structure FunD(K:PySem.W.Frag)(x qual:Str)(st:Stmt)(f:Addr)(fd:FuncData)(items:Array Value):Prop where
 ex:∃(oc:Value) (od:Option Addr) (T:Addr) (o:Obj) (n:Nat) (kV doc pm:Value) (an:Option Addr) (cdv ct:Value) (osl:Array (Option Value)),
  fd=PySem.W.fnOf x qual (zbq st) (za7 st) (zaa st) (.ref T) kV doc pm an cdv ct/\K.lookup f=some ⟨oc,od,.func fd,osl⟩/\PySem.W.codeIn K cdv qual=true/\K.lookup T=some o/\o.data=.seq items n
def zqY{P:Program}{wo:PySem.World}{K:PySem.W.Frag}{mg:Z6}{base:Heap}{cl:Cf}{G:Genv}{k:Nat}{x qual:Str}{st:Stmt}{f:Addr}{fd:FuncData}{N ps:List Str}{own:Bool}{fs:Fs}{items:Array Value}(F:FunD K x qual st f fd items)(S:FnScope N ps (zaa st))(hG:GOk cl G P wo K mg base k)
  (hk:K=cl.K) (hP:P=cl.P) (hW:wo=cl.wo) (hd:zak G own N st=some fs):FnOk P wo K mg base (CXE P wo) (k+1) f fd ps (zf0 cl ps.length own (zbt N.length own fs)):=by
 obtain⟨oc,od,T,o,n,kV,doc,pm,an,cdv,ct,osl,rfl,lk,hcd,_⟩:=F.ex;refine zqZ lk hcd S (fun vs H Q E h=>h.1) fun A outer s H vs Q E hr hsp=>⟨tS cl (fun _=>E) own fs,zm1 hd (k:=k) ⟨⟨hG,hr,rfl,fun pins σ H1 s1 e s' I q=>zp8 pins σ H1 s1 e s' I q,rfl,hk,hP,hW,S.nd,fun x kd h=>⟨kd,h,.inl rfl⟩,(fun x h=>h),(fun x h=>rfl)⟩,S.kind,rfl,fun _=>PassesOwn.leaving,fun _ C pins σ H1 s1 e h' vs I mk q=>zjC C pins σ H1 s1 e h' vs I mk q,rfl,rfl⟩,zkT hsp⟩
noncomputable def inC(j:Nat):Stmt->Stmt|.ClassDef _ _ _ b ..=>b.getD j (.Pass ⟨0,0,0,0⟩)|s=>s
structure Tab where
 con:List (Str×D)
 blt:List Str
 exc:List Str
 und:List (Str×Str)
 rz:List Str
 fk:List (Str×Str)
 df:List Str
 ns:List Str
 ds:List Str
noncomputable def zrQ(rz exc:List Str)(c C:Str):Option Bool:=if rz.contains c then(if C="ValueError"then some true else if exc.contains C then some (decide (C=c)||decide (C="FloorError"))else none)else none
noncomputable def zrF(l:List (Str×Str))(c C:Str):Bool:=l.contains (c,C)
structure Fn3 where
 cur:Str
 fs:List (Str×FnI)
 ms:List (Str×Str×FnI)
 ks:List (Str×List D×FnI)
def Gn(T:Tab)(F:Fn3):Genv:=⟨fun x=>T.con.lookup x,fun x=>F.fs.lookup x,fun x=>T.blt.contains x,fun x=>T.exc.contains x,zrF T.und,zrQ T.rz T.exc,⟨F.cur,zrF T.fk,fun f=>T.df.contains f,fun m=>F.ms.lookup m,fun c=>F.ks.lookup c⟩,fun x=>T.ns.contains x,fun x=>T.ds.contains x⟩
noncomputable def Fn3.fn(F:Fn3)(x:Str)(fi:FnI):Fn3:=⟨F.cur,(x,fi)::F.fs,F.ms,F.ks⟩
noncomputable def Fn3.mt(F:Fn3)(m c:Str)(fi:FnI):Fn3:=⟨F.cur,F.fs,(m,c,fi)::F.ms,F.ks⟩
noncomputable def Fn3.cls(F:Fn3)(c:Str)(dds:List D)(fi:FnI):Fn3:=⟨F.cur,F.fs,F.ms,(c,dds,fi)::F.ks⟩
noncomputable def Fn3.at(F:Fn3)(c:Str):Fn3:=⟨c,F.fs,F.ms,F.ks⟩
section
variable{cl:Cf}{T:Tab}{P:Program}{wo:PySem.World}{K:PySem.W.Frag}{mg:Z6}{base:Heap}{k:Nat}{fs:Fn3}
def zb3{α:Type}{x y:Str}{a:α}{l:List (Str×α)}{b:α}(h:((x,a)::l).lookup y=some b):(y=x/\b=a)\/l.lookup y=some b:=by
 rw[yax]at h
 cases e:y==x with
 |true=>rw[e]at h;cases h;exact .inl ⟨eq_of_beq e,rfl⟩|false=>rw[e]at h;exact .inr h
def zd3{α:Type}{p:α->Prop}:∀x∈([]:List α),p x:=fun _ h=>nomatch h
def zae{α:Type}{p:α->Prop}{a:α}{l:List α}(h:p a)(t:∀x∈l,p x):∀x∈a::l,p x:=fun x hx=>(yav.mp hx).elim (fun e=>e ▸ h) (t x)
theorem zgw{α:Type}{x:Str}{a:α}:∀{l:List (Str×α)},l.lookup x=some a->(x,a)∈l
 |[],h=>by cases h
 |(y,b)::l,h=>by
  rcases zb3 h with⟨rfl,rfl⟩|h
  ·exact yaz
  ·exact yas _ (zgw h)
noncomputable def zrA(K:PySem.W.Frag)(cl:Cf)(exc:List Str)(c:Str):Prop:=PySem.W.ExcCls K (cl c)/\PySem.W.kitOne K (.ref (cl c)) (.type "ValueError")=some true/\∀C∈exc,PySem.W.kitOne K (.ref (cl c)) (.ref (cl C))=some (decide (C=c)||decide (C="FloorError"))
def zxL(hc:∀p∈T.con,∃v u,mg p.1=some u/\zbs v u/\∀w,Shd cl w v p.2)(hb:∀x∈T.blt,mg x=none)(he:∀c∈T.exc,mg c=some (.ref (cl c))/\PySem.W.excIn K (cl c) bmV "ValueError.__new__"=true)(hu:∀p∈T.und,L2.zmx K (cl p.1) (cl p.2))(hx:∀c∈T.rz,zrA K cl T.exc c)(hfk:∀p∈T.fk,Cls cl.K (cl p.1)/\zc6 cl.K (cl p.1) p.2):GOk cl (Gn T ⟨"",[],[],[]⟩) P wo K mg base 0 where
 fk:=fun c f h=>hfk (c,f) (by simpa using(show T.fk.contains (c,f)=true from h))
 mt:=fun m c fi h=>by cases h
 mks:=fun c dds fi h=>by cases h
 con:=fun x d h=>hc (x,d) (zgw h)
 fn:=fun x fi h=>by cases h
 blt:=fun x h=>hb x (by simpa using(show T.blt.contains x=true from h))
 exc:=fun c h=>he c (by simpa using(show T.exc.contains c=true from h))
 und:=fun c C h=>hu (c,C) (by simpa using(show T.und.contains (c,C)=true from h))
 isx:=fun c C b h=>by
  have h':zrQ T.rz T.exc c C=some b:=h;unfold zrQ at h';split at h'
  ·rename_i hc;obtain⟨x1,x2,x3⟩:=hx c (by simpa using hc);refine⟨x1,?_⟩;unfold zrj;split at h'
   ·rename_i hC;cases h';rw[if_pos hC];exact x2
   ·rename_i hC;rw[if_neg hC];split at h'
    ·rename_i hm;cases h';exact x3 C (by simpa using hm)
    ·cases h'
  ·cases h'
def GOk.add{x:Str}{fi:FnI}{f:Addr}{fd:FuncData}{ps:List Str}(g:GOk cl (Gn T fs) P wo K mg base k)(m:mg x=some (.ref f))(kp:PySem.W.keepIn K (.ref f)=true)(b:zbZ K fd ps [])(F:FnOk P wo K mg base (CXE P wo) (k+1) f fd ps (zf0 cl fi.ar fi.own fi.run)):
  GOk cl (Gn T (fs.fn x fi)) P wo K mg base (k+1)where
 con:=g.con
 fn:=fun y fj h=>by
  rcases zb3 h with⟨rfl,rfl⟩|h
  ·exact⟨f,fd,ps,m,kp,b,F⟩
  ·obtain⟨f',fd',ps',h1,h2,h3,h4⟩:=g.fn y fj h;exact⟨f',fd',ps',h1,h2,h3,h4.mono (ycd _)⟩
 blt:=g.blt
 exc:=g.exc
 und:=g.und
 isx:=g.isx
 fk:=g.fk
 mt:=fun m c fi h=>by
  obtain⟨f',fd',ps',h1,h2,h3,h4⟩:=g.mt m c fi h;exact⟨f',fd',ps',h1,h2,h3,h4.mono (ycd _)⟩
 mks:=fun c dds fi h=>by
  obtain⟨f',fd',ps',dvs,ds,k',hk,z⟩:=g.mks c dds fi h;exact⟨f',fd',ps',dvs,ds,k',Nat.le_succ_of_le hk,z⟩
theorem GOk.at(g:GOk cl (Gn T fs) P wo K mg base k)(c:Str):GOk cl (Gn T (fs.at c)) P wo K mg base k:=⟨g.con,g.fn,g.blt,g.exc,g.und,g.isx,g.fk,g.mt,g.mks⟩
def GOk.up{k':Nat}(g:GOk cl (Gn T fs) P wo K mg base k)(hk:k<=k'):GOk cl (Gn T fs) P wo K mg base k' where
 con:=g.con
 fn:=fun y fj h=>by
  obtain⟨f',fd',ps',h1,h2,h3,h4⟩:=g.fn y fj h;exact⟨f',fd',ps',h1,h2,h3,h4.mono hk⟩
 blt:=g.blt
 exc:=g.exc
 und:=g.und
 isx:=g.isx
 fk:=g.fk
 mt:=fun m c fi h=>by
  obtain⟨f',fd',ps',h1,h2,h3,h4⟩:=g.mt m c fi h;exact⟨f',fd',ps',h1,h2,h3,h4.mono hk⟩
 mks:=fun c dds fi h=>by
  obtain⟨f',fd',ps',dvs,ds,j,hj,z⟩:=g.mks c dds fi h;exact⟨f',fd',ps',dvs,ds,j,yan hj hk,z⟩
def GOk.addM{m c:Str}{fi:FnI}{f:Addr}{fd:FuncData}{ps:List Str}(g:GOk cl (Gn T fs) P wo K mg base k)(cc:Cls K (cl c))(hm:Meth K (cl c) m f)(b:zbZ K fd ps [])(F:FnOk P wo K mg base (CXE P wo) k f fd ps (zf0 cl fi.ar fi.own fi.run)):
  GOk cl (Gn T (fs.mt m c fi)) P wo K mg base k where
 con:=g.con
 fn:=g.fn
 blt:=g.blt
 exc:=g.exc
 und:=g.und
 isx:=g.isx
 fk:=g.fk
 mt:=fun m' c' fi' h=>by
  rcases zb3 h with⟨rfl,e⟩|h
  ·cases e;exact⟨f,fd,ps,cc,hm,b,F⟩
  ·exact g.mt m' c' fi' h
 mks:=g.mks
def GOk.addK{c:Str}{dds:List D}{fi:FnI}{f:Addr}{fd:FuncData}{ps:List Str}{dvs:List V}{ds:List Value}{k':Nat}(g:GOk cl (Gn T fs) P wo K mg base k)(hk:k'+1<=k)(hm:mg c=some (.ref (cl c)))(M:Mk K (cl c) f)(b0:zbZ K fd ps [])(bD:zbZ K fd ps ds)(vd:Vals dvs ds)(sd:∀w,Shds cl w dvs dds)(F:FnOk P wo K mg base (CXE P wo) k' f fd ps (zf0 cl fi.ar false fi.run)):
  GOk cl (Gn T (fs.cls c dds fi)) P wo K mg base k where
 con:=g.con
 fn:=g.fn
 blt:=g.blt
 exc:=g.exc
 und:=g.und
 isx:=g.isx
 fk:=g.fk
 mt:=g.mt
 mks:=fun c' dds' fi' h=>by
  rcases zb3 h with⟨rfl,e⟩|h
  ·cases e;exact⟨f,fd,ps,dvs,ds,k',hk,hm,M,b0,bD,vd,sd,F⟩
  ·exact g.mks c' dds' fi' h
noncomputable def zlw(nN:Nat)(own:Bool)(body:(List D->Sto->Out D)->Fs):Nat->List D->Sto->Out D
 |0=>fun _ _=>.bad|n+1=>zbt nN own (body (zlw nN own body n))
def zmF{n:Nat}{own:Bool}{vs:List V}{H:Hp}{Q:VK}{E:XK}(h:zf0 cl n own (fun _ _=>.bad) vs H Q E):False:=by
 obtain⟨_,B,w,ds,S,_,_,_,q⟩:=h;exact q
theorem GOk.addR{m c qual:Str}{st:Stmt}{f:Addr}{fd:FuncData}{N ps:List Str}{own:Bool}{body:(List D->Sto->Out D)->Fs}(g:GOk cl (Gn T fs) P wo K mg base k)(U:Fun K m qual st f fd)(S:FnScope N ps (zaa st))(hK:K=cl.K)(hP:P=cl.P)(hW:wo=cl.wo)(cc:Cls K (cl c))(hm:Meth K (cl c) m f)(b:zbZ K fd ps [])
  (hd:∀r,zak (Gn T ((fs.mt m c ⟨ps.length,own,r⟩).at c)) own N st=some (body r)):∀n,GOk cl (Gn T (fs.mt m c ⟨ps.length,own,zlw N.length own body n⟩)) P wo K mg base (k+n)
 |0=>g.addM cc hm b ⟨fun vs H Q E h=>(zmF h).elim,fun A outer s H args us vs Q E hr he hb hv h=>(zmF h).elim⟩|n+1=>(g.up (Nat.le_add_right k (n+1))).addM cc hm b (zme U S ((g.addR U S hK hP hW cc hm b hd n).at c) hK hP hW (hd _))
def zkM{C:Addr}{b:List Value}{i:String}(x:PySem.W.excIn K C b i=true):(PySem.W.clsIn K C).isSome=true/\PySem.W.typeIn K (.ref C)=some (.type "type"):=by
 unfold PySem.W.excIn at x;split at x
 ·rename_i d cd sl e;refine⟨?_,?_⟩
  ·unfold PySem.W.clsIn;rw[e];rfl
  ·show(K.lookup C).map (·.cls)=_;rw[e];rfl
 ·cases x
def zfs{C:Addr}{el:Value}{ed:Option Addr}{ec:ClassData}{es:Array (Option Value)}{m:List Value}{v:Value}(lk:K.lookup C=some ⟨el,ed,.cls ec,es⟩)(mr:ec.mro=.ref C::m):PySem.W.subIn K (.ref C) v=some ((Value.ref C::m).contains v):=by
 show PySem.W.mroIn K C v=_;unfold PySem.W.mroIn PySem.W.clsIn;rw[lk];show(if ec.mro.isEmpty then none else some (ec.mro.contains v))=_;rw[mr];rfl
def zjA{a b:Addr}(h:a≠b):(Value.ref a==Value.ref b)=false:=Bool.eq_false_iff.mpr fun z=>h (Value.ref.inj (ybQ.mp z))
theorem zod{C F:Addr}{el:Value}{ed:Option Addr}{ec:ClassData}{es:Array (Option Value)}(lk:K.lookup C=some ⟨el,ed,.cls ec,es⟩)(mr:ec.mro=.ref C::.ref F::bmV):PySem.W.kitOne K (.ref C) (.type "ValueError")=some true:=by
 have h1:PySem.W.kitMeta "ValueError"=true:=by decide +kernel
 have h0:(Value.ref C==Value.type "ValueError")=false:=by with_unfolding_all rfl
 unfold PySem.W.kitOne PySem.W.kitCls;simp only[h0,h1,zfs lk mr];simp
def zoe{C D F:Addr}{el:Value}{ed:Option Addr}{ec:ClassData}{es:Array (Option Value)}{b:List Value}{i:String}(lk:K.lookup C=some ⟨el,ed,.cls ec,es⟩)(mr:ec.mro=.ref C::.ref F::bmV)(x:PySem.W.excIn K D b i=true):PySem.W.kitOne K (.ref C) (.ref D)=some (decide (D=C)||decide (D=F)):=by
 by_cases h:D=C
 ·subst h;unfold PySem.W.kitOne;rw[if_pos (ybt _)];simp
 ·obtain⟨h1,h2⟩:=zkM x;have h0:=zjA (fun z=>h z.symm:C≠D);unfold PySem.W.kitOne PySem.W.kitCls;simp only[h0,h1,h2,zfs lk mr];have e1:(Value.ref D==Value.ref C)=false:=zjA h;simp only[yb5,e1,Bool.false_or,yaP,ybJ,ybt,Bool.and_self,yci,h,decide_false]
  by_cases h4:D=F
  ·subst h4;simp
  ·have e2:(Value.ref D==Value.ref F)=false:=zjA h4;simp only[e2,Bool.false_or,h4,decide_false,Option.some.injEq]
   with_unfolding_all rfl
def zj8{c:ClassData}{C F:Addr}{m:List Value}(h:c.mro=.ref C::.ref F::m):c.mro.contains (.ref F)=true:=by
 rw[h,yb5,yb5,ybt,Bool.true_or,Bool.or_true]
def zm8{L:List (Str×Addr)}:∀{C:Str},C∈L.map (·.1)->∃a,L.lookup C=some a/\(C,a)∈L:=by
 induction L with
 |nil=>intro C h;simp at h|cons p L ih=>
  intro C h;rw[yax]
  cases e:C==p.1 with
  |true=>exact⟨p.2,rfl,by rw[eq_of_beq e];exact yaz⟩
  |false=>
   have:C∈L.map (·.1):=by
    rw[yaA,yav]at h
    rcases h with h|h
    ·rw[h]at e;simp at e
    ·exact h
   obtain⟨a,h1,h2⟩:=ih this;exact⟨a,h1,yas _ h2⟩
theorem zjt:∀{L:List (Str×Addr)},(L.map (·.2)).Nodup->∀{C c:Str}{a:Addr},(C,a)∈L->(c,a)∈L->C=c
 |[],_,_,_,_,h,_=>by simp at h
 |p::L,nd,C,c,a,h,h'=>by
  rw[yaA,ya7]at nd;rw[yav]at h h'
  rcases h with h|h<;>rcases h' with h'|h'
  ·rw[<-h']at h;exact(Prod.mk.inj h).1
  ·exact absurd (yay.mpr ⟨_,h',by rw[<-h]⟩) nd.1
  ·exact absurd (yay.mpr ⟨_,h,by rw[<-h']⟩) nd.1
  ·exact zjt nd.2 h h'
def zrw{L:List (Str×Addr)}(nd:(L.map (·.2)).Nodup){C c:Str}(hC:C∈L.map (·.1))(hc:c∈L.map (·.1)):(L.lookup C).getD 0=(L.lookup c).getD 0↔C=c:=by
 obtain⟨a,h1,h2⟩:=zm8 hC;obtain⟨b,h3,h4⟩:=zm8 hc;rw[h1,h3];constructor
 ·intro e;have:a=b:=e;subst this;exact zjt nd h2 h4
 ·rintro rfl;rw[h1]at h3;cases h3;rfl
def zmS{c:Str}{cl:Cf}{exc:List Str}{F:Addr}{el:Value}{ed:Option Addr}{ec:ClassData}{es:Array (Option Value)}
  (lk:K.lookup (cl c)=some ⟨el,ed,.cls ec,es⟩) (mr:ec.mro=.ref (cl c)::.ref F::bmV) (hF:cl "FloorError"=F)
  (ga:PySem.W.findIn K (.ref (cl c)) "__getattribute__"=some (some (.builtin "BaseException.__getattribute__"))) (gt:PySem.W.findIn K (.ref (cl c)) "__getattr__"=some none) (cc:PySem.W.findIn K (.ref (cl c)) "__class__"=some (some (.builtin "object.__class__")))
  (hx:∀C∈exc,PySem.W.excIn K (cl C) bmV "ValueError.__new__"=true) (hi:∀C∈exc,(cl C=cl c↔C=c)/\(cl C=cl "FloorError" ↔ C="FloorError")):zrA K cl exc c:=by
 refine⟨⟨ga,gt,cc,?_,?_,_,_,_,_,lk⟩,zod lk mr,fun C hC=>?_⟩
 ·rw[zfs lk mr];simp
 ·rw[zfs lk mr];simp
 ·rw[zoe lk mr (hx C hC)];obtain⟨i1,i2⟩:=hi C hC;rw[hF]at i2;simp only[i1,i2]
end
noncomputable def zlj(K:PySem.W.Frag):Sp:=fun vs H Q _=>∃(a:Addr) (ns:List Int),vs=[.ref a]/\ns.length<=63/\zrW H/\SqL K H a (ns.map V.int)/\∀H',Q (.bl true) H'
def zqA{cl:Cf}{run:List D->Sto->Out D}(hr:∀l:List Int,l.length<=63->∃S,run [.scr l] []=.ok (.bl true) S):∀vs H Q E,zlj cl.K vs H Q E->zf0 cl 1 false run vs H Q E:=by
 rintro vs H Q E ⟨a,ns,rfl,hl,hO,hS,q⟩;refine⟨rfl,⟨fun _=>none,fun _=>none⟩,⟨H,fun _=>none,[]⟩,[.scr ns],[],rfl,⟨(fun a o h=>by cases h),(fun a r h=>by cases h),rfl,(fun n ob h=>by simp at h)⟩,.cons ?_ .nil,?_⟩
 ·rcases hS with(hS|⟨o,hS⟩)|hS
  ·rcases hO a with z|⟨o,xs,z⟩
   ·rw[hS]at z;cases z
   ·rw[hS]at z;cases z
  ·exact .scr hS rfl
  ·exact .scrK fun H=>.inr hS
 ·obtain⟨S',e⟩:=hr ns hl;rw[e];intro v w' _ _ r;have r':Shd cl w' v (.bl true):=r;cases r';exact q _
noncomputable abbrev Rn:=List D->Sto->Out D
def zk5(n1 n2 n3:Nat)(b1 b2 b3:Rn->Rn->Rn->Fs):Nat->Rn×Rn×Rn
 |0=>(fun _ _=>.bad,fun _ _=>.bad,fun _ _=>.bad)|n+1=>(zbt n1 false (b1 (zk5 n1 n2 n3 b1 b2 b3 n).1 (zk5 n1 n2 n3 b1 b2 b3 n).2.1 (zk5 n1 n2 n3 b1 b2 b3 n).2.2),zbt n2 false (b2 (zk5 n1 n2 n3 b1 b2 b3 n).1 (zk5 n1 n2 n3 b1 b2 b3 n).2.1 (zk5 n1 n2 n3 b1 b2 b3 n).2.2),zbt n3 false (b3 (zk5 n1 n2 n3 b1 b2 b3 n).1 (zk5 n1 n2 n3 b1 b2 b3 n).2.1 (zk5 n1 n2 n3 b1 b2 b3 n).2.2))
structure FnT(K:PySem.W.Frag)(x q:Str)(st:Stmt)(f:Addr):Prop where
 ex:∃(oc:Value) (od:Option Addr) (kV dc pm:Value) (an:Option Addr) (cd ct:Value) (sl:Array (Option Value)),K.lookup f=some ⟨oc,od,.func (PySem.W.fnOf x q (zbq st) (za7 st) (zaa st) .none kV dc pm an cd ct),sl⟩/\PySem.W.codeIn K cd q=true/\PySem.W.keepIn K (.ref f)=true/\PySem.W.isFn K (.ref f)=true
structure GFn(K:PySem.W.Frag)(x:Str)(st:Stmt):Prop where
 ex:∃f,PySem.W.nsIn K mainGlobals x=some (some (.ref f))/\FnT K x x st f
structure MFn(K:PySem.W.Frag)(C:Addr)(m q:Str)(st:Stmt):Prop where
 ex:∃f,PySem.W.findIn K (.ref C) m=some (some (.ref f))/\FnT K m q st f
noncomputable def BB(x q:Str)(st:Stmt)(ps:List Str):Prop:=∀(kV doc pm:Value) (an:Option Addr) (cdv ct:Value) (us:List Value),us.length=ps.length->bindArgs (PySem.W.fnOf x q (zbq st) (za7 st) (zaa st) .none kV doc pm an cdv ct) ⟨us,[]⟩=pure (ps.zip us)
def bb0{p:List Value->Prop}(h:p []):∀us:List Value,us.length=0->p us:=fun us e=>by rw[yaM e];exact h
def bbS{n:Nat}{p:List Value->Prop}(h:∀a:Value,∀us:List Value,us.length=n->p (a::us)):∀us:List Value,us.length=n+1->p us:=fun us e=>by
 cases us with
 |nil=>cases e|cons a us=>exact h a us (Nat.succ.inj e)
def bb1{p:List Value->Prop}(h:∀a0:Value,p [a0]):∀us:List Value,us.length=1->p us:=bbS fun a0=>bb0 (h a0)
def bb2{p:List Value->Prop}(h:∀a0 a1:Value,p [a0,a1]):∀us:List Value,us.length=2->p us:=bbS fun a0=>bbS fun a1=>bb0 (h a0 a1)
def bb3{p:List Value->Prop}(h:∀a0 a1 a2:Value,p [a0,a1,a2]):∀us:List Value,us.length=3->p us:=bbS fun a0=>bbS fun a1=>bbS fun a2=>bb0 (h a0 a1 a2)
def bb4{p:List Value->Prop}(h:∀a0 a1 a2 a3:Value,p [a0,a1,a2,a3]):∀us:List Value,us.length=4->p us:=bbS fun a0=>bbS fun a1=>bbS fun a2=>bbS fun a3=>bb0 (h a0 a1 a2 a3)
section
variable{cl:Cf}{T:Tab}{P:Program}{wo:PySem.World}{K:PySem.W.Frag}{mg:Z6}{base:Heap}{k:Nat}{fs:Fn3}
def FnT.un{x q:Str}{st:Stmt}{f:Addr}{ps:List Str}(p:FnT K x q st f)(b:BB x q st ps):∃fd,Fun K x q st f fd/\zbZ K fd ps []/\PySem.W.keepIn K (.ref f)=true/\PySem.W.isFn K (.ref f)=true:=by
 obtain⟨oc,od,kV,dc,pm,an,cd,ct,sl,l,c,kp,i⟩:=p.ex;have U:=zmU (st:=st) l c kp;exact⟨_,U,U.binds b,kp,i⟩
def GOk.addG{x:Str}{st:Stmt}{N ps:List Str}{own:Bool}{f_:Fs}{h:Heap}(g:GOk cl (Gn T fs) P wo K mg base k)(X:K.In h)(G:h.Ns mainGlobals mg)(p:GFn K x st)(S:FnScope N ps (zaa st))(hK:K=cl.K)(hP:P=cl.P)(hW:wo=cl.wo)(b:BB x x st ps)(hd:zak (Gn T fs) own N st=some f_):
  GOk cl (Gn T (fs.fn x ⟨ps.length,own,zbt N.length own f_⟩)) P wo K mg base (k+1):=by
 obtain⟨f,a,p⟩:=p.ex;obtain⟨fd,U,B,kp,_⟩:=p.un b;exact GOk.add g (yaJ X G a) kp B (zme U S g hK hP hW hd)
def GOk.addMG{m c q:Str}{st:Stmt}{N ps:List Str}{own:Bool}{f_:Fs}(g:GOk cl (Gn T fs) P wo K mg base k)(cc:Cls K (cl c))(p:MFn K (cl c) m q st)(S:FnScope N ps (zaa st))(hK:K=cl.K)(hP:P=cl.P)(hW:wo=cl.wo)(b:BB m q st ps)(hd:zak (Gn T (fs.at c)) own N st=some f_):
  GOk cl (Gn T (fs.mt m c ⟨ps.length,own,zbt N.length own f_⟩)) P wo K mg base (k+1):=by
 obtain⟨f,a,p⟩:=p.ex;obtain⟨fd,U,B,kp,i⟩:=p.un b;exact GOk.addM (g.up (ycd _)) cc ⟨a,i,kp⟩ B (zme U S (g.at c) hK hP hW hd)
def GOk.addRG{m c q:Str}{st:Stmt}{N ps:List Str}{own:Bool}{body:(List D->Sto->Out D)->Fs}(g:GOk cl (Gn T fs) P wo K mg base k)(cc:Cls K (cl c))(p:MFn K (cl c) m q st)(S:FnScope N ps (zaa st))(hK:K=cl.K)(hP:P=cl.P)(hW:wo=cl.wo)(b:BB m q st ps)
  (hd:∀r,zak (Gn T ((fs.mt m c ⟨ps.length,own,r⟩).at c)) own N st=some (body r)) (n:Nat):GOk cl (Gn T (fs.mt m c ⟨ps.length,own,zlw N.length own body n⟩)) P wo K mg base (k+n):=by
 obtain⟨f,a,p⟩:=p.ex;obtain⟨fd,U,B,kp,i⟩:=p.un b;exact GOk.addR g U S hK hP hW cc ⟨a,i,kp⟩ B hd n
end
open PySem
open L2 hiding D
noncomputable def zbK:Fs:=
  (zai (sFz [] (za4 (zf2 (eUn (zd7 "tuple") (zaf 0)) (zb5 leD leD (zaf 1) (zaR ze0 [(zaf 0)]) (zaf 2)))))
  sNx)
noncomputable def zaH:List S2.D->Sto->Out S2.D:=zbt 3 false zbK
noncomputable def zeL:Fs:=
  (zai (sFz [] (zbi 1 false (eIf (zac gtD (zaR ze0 [(zaf 0)]) (zab (.int 0))) (zaR ze0 [(zac ixD (zaf 0) (zab (.int 0)))]) (zab (.int 0)))))
  (zai (sFz [1] (za4 (zcb [(zaR ze0 [(zaf 0)]),(zad 1)])))
  sNx))
noncomputable def zbz:List S2.D->Sto->Out S2.D:=zbt 2 false zeL
noncomputable def zbM:Fs:=
  (zai (sFz [3,4] (zmI 2 (zcb [(zad 3),(zad 4)]))) sNx)
noncomputable def zcv:Fs:=
  (zai (sFz [] (zjc (.one 4) (zd8 (zac ixD (zaf 1) (zab (.int 1)))) zbM)) sNx)
noncomputable def zde:Fs:=
  (zai (sFz [0] (zbi 1 false (eFn zbz [(zad 0)])))
  (zai (sFz [] (zbi 2 true (zgI [])))
  (zai (sFz [] (zjc (.one 3) (zd8 (zac ixD (zaf 1) (zab (.int 0)))) zcv))
  (zai (sFz [] (ziH 2))
  sNx))))
noncomputable def zaV:List S2.D->Sto->Out S2.D:=zbt 5 true zde
noncomputable def zdf:Fs:=
  (zai (sFz [] (za4 (zac ixD (zac ixD (zaf 0) (zac ixD (zaf 1) (zab (.int 0)))) (zac ixD (zaf 1) (zab (.int 1))))))
  sNx)
noncomputable def zaG:List S2.D->Sto->Out S2.D:=zbt 2 false zdf
noncomputable def zbU:Fs:=
  (zai (sFz [] (sIf (zac ltD (zaf 1) (zaR ze0 [(zaf 0)])) (zai (sFz [] (za4 (zac ixD (zaf 0) (zaf 1)))) sNx) sNx))
  (zai (sFz [] (sIf (zac eqD (zaf 0) (zgI [])) (zai (sFz [] (za4 (zab (.int 0)))) sNx) sNx))
  (zai (sFz [] (za4 (zac zbC (zac zdY (zac ixD (zaf 0) (zac zh7 (zaf 1) (zaR ze0 [(zaf 0)]))) (zab (.int 31))) (zaf 1))))
  sNx)))
noncomputable def zbu:List S2.D->Sto->Out S2.D:=zbt 2 false zbU
noncomputable def zdj:Fs:=
  (zai (sFz [0,1] (zbi 3 false (zac zh7 (zac zdY (zac zbC (eFn zbu [(zad 0),(zad 1)]) (zac zdY (zab (.int 6151)) (zac zbC (zaf 1) (zab (.int 1))))) (zab (.int 40692))) (zab (.int 2147483399)))))
  (zai (sFz [] (za4 (zac zh7 (zac zh7 (zac zbC (zac zdY (zaf 3) (zaf 3)) (zac zm0 (zaf 3) (zab (.int 31)))) (zab (.int 2147483629))) (zaf 2))))
  sNx))
noncomputable def zaI:List S2.D->Sto->Out S2.D:=zbt 4 false zdj
noncomputable def zcY:Fs:=
  (zai (sFz [] (za4 (zf2 (eUn (zd7 "int") (zaf 0)) (eUn zd6 (eUn (zd7 "bool") (zaf 0))))))
  sNx)
noncomputable def zaP:List S2.D->Sto->Out S2.D:=zbt 1 false zcY
noncomputable def zb4:Fs:=
  (zai (sFz [1] (za4 (zf2 (eFn zaP [(zad 1)]) (zb5 leD ltD (zab (.int 0)) (zaf 1) (zaR ze0 [(zaf 0)])))))
  sNx)
noncomputable def zbh:List S2.D->Sto->Out S2.D:=zbt 2 false zb4
noncomputable def zdg:Fs:=
  (zai (sFz [1] (sIf (eOr (eUn zd6 (eFn zaH [(zad 1),(zab (.int 2)),(zab (.int 2))])) (eOr (eUn zd6 (eFn zaP [(zac ixD (zaf 1) (zab (.int 0)))])) (eUn zd6 (eFn zaP [(zac ixD (zaf 1) (zab (.int 1)))])))) (zai (sFz [] (za4 (zab (.bl false)))) sNx) sNx))
  (zai (sFz [0] (zbi 2 false (eFn zbz [(zad 0)])))
  (zai (sFz [] (za4 (zf2 (zb5 leD ltD (zab (.int 0)) (zac ixD (zaf 1) (zab (.int 0))) (zac ixD (zaf 2) (zab (.int 0)))) (zb5 leD ltD (zab (.int 0)) (zac ixD (zaf 1) (zab (.int 1))) (zac ixD (zaf 2) (zab (.int 1)))))))
  sNx)))
noncomputable def zaW:List S2.D->Sto->Out S2.D:=zbt 3 false zdg
noncomputable def zht:Fs:=
  (zai (sFz [] (za4 (zac zdY (zcb [(zac zdY (zcb [(zab .non)]) (zaf 1))]) (zaf 0))))
  sNx)
noncomputable def zfD:List S2.D->Sto->Out S2.D:=zbt 2 false zht
noncomputable def zcs:Fs:=
  (zai (sFz [] (za4 (zcb [(zac zbC (zac zdY (zab (.int 3)) (zaf 0)) (zaf 1)),(zac zbC (zac zdY (zab (.int 3)) (zaf 1)) (zaf 2)),(zac zbC (zac zdY (zab (.int 3)) (zaf 3)) (zaf 2)),(zac zbC (zac zdY (zab (.int 3)) (zaf 0)) (zaf 3))])))
  sNx)
noncomputable def zbI:List S2.D->Sto->Out S2.D:=zbt 4 false zcs
noncomputable def zbT:Fs:=
  (zai (sFz [] (za4 (zac zbC (zac zbC (zac zbC (zac zdY (zab (.int 8)) (zaf 0)) (zac zdY (zab (.int 4)) (zaf 1))) (zac zdY (zab (.int 2)) (zaf 2))) (zaf 3))))
  sNx)
noncomputable def zaX:List S2.D->Sto->Out S2.D:=zbt 4 false zbT
noncomputable def zcN:Fs:=
  (zai (sFz [] (za4 (zcb [(zac zh7 (zac zm0 (zaf 0) (zab (.int 8))) (zab (.int 2))),(zac zh7 (zac zm0 (zaf 0) (zab (.int 4))) (zab (.int 2))),(zac zh7 (zac zm0 (zaf 0) (zab (.int 2))) (zab (.int 2))),(zac zh7 (zaf 0) (zab (.int 2)))])))
  sNx)
noncomputable def zb0:List S2.D->Sto->Out S2.D:=zbt 1 false zcN
noncomputable def zeK:Fs:=
  (zai (sFz [0] (zbi 1 false (eFn zb0 [(zad 0)])))
  (zai (sFz [] (za4 (eFn zbI [(zac ixD (zaf 1) (zab (.int 0))),(zac ixD (zaf 1) (zab (.int 1))),(zac ixD (zaf 1) (zab (.int 2))),(zac ixD (zaf 1) (zab (.int 3)))])))
  sNx))
noncomputable def zcF:List S2.D->Sto->Out S2.D:=zbt 2 false zeK
noncomputable def zcO:Fs:=
  (zai (sFz [] (za4 (zaR zcd [(zcQ 1 (.one 0) (zd8 (zab (.int 16))) zeM (eFn zcF [(zad 0)]) [])])))
  sNx)
noncomputable def zb1:List S2.D->Sto->Out S2.D:=zbt 0 false zcO
noncomputable def zbD:Fs:=
  (zai (sFz [] (za4 (eFn zaX [(zac ixD (zaf 0) (zaf 2)),(zac ixD (zaf 0) (zac zbC (zaf 2) (zab (.int 1)))),(zac ixD (zaf 1) (zac zbC (zaf 2) (zab (.int 1)))),(zac ixD (zaf 1) (zaf 2))])))
  sNx)
noncomputable def zaM:List S2.D->Sto->Out S2.D:=zbt 3 false zbD
noncomputable def zcq:Fs:=
  (zai (sFz [1,0] (za4 (zaR zcd [(zcQ 1 (.one 0) (zd8 (zac zft (zaR ze0 [(zaf 0)]) (zab (.int 1)))) zeM (eFn zaM [(zad 2),(zad 1),(zad 0)]) [1,0])])))
  sNx)
noncomputable def zbl:List S2.D->Sto->Out S2.D:=zbt 2 false zcq
noncomputable def zdR:Fs:=
  (zai (sFz [0] (za4 (zaR zcd [(zcQ 2 (.tup [0,1]) (zq9 (zad 0) (eSl (zaf 0) (some (zab (.int 1))) none)) zeM (eFn zbl [(zad 0),(zad 1)]) [])])))
  sNx)
noncomputable def zbN:List S2.D->Sto->Out S2.D:=zbt 1 false zdR
noncomputable def zbe:Fs:=
  (zai (sFz [1,5,0] (zmI 4 (zaR zcd [(zcQ 1 (.one 0) (zd8 (zac zbC (zaf 3) (zab (.int 1)))) zeM (eFn zaI [(zad 3),(zac zbC (zac zbC (zaf 1) (zac zdY (zab (.int 8)) (zaf 2))) (zaf 0)),(zab (.int 2))]) [1,5,0])]))) sNx)
noncomputable def zb9:Fs:=
  (zai (sFz [] (zbi 4 true (zgI [])))
  (zai (sFz [] (zjc (.one 5) (zd8 (zac zbC (zaf 2) (zab (.int 1)))) zbe))
  (zai (sFz [] (za4 (zaR zcd [(zaf 4)])))
  sNx)))
noncomputable def za9:List S2.D->Sto->Out S2.D:=zbt 6 false zb9
noncomputable def zhs:Fs:=
  (zai (sFz [] (za4 (eOr (zac zl6 (zaf 0) (zab .non)) (zac eqD (zaf 0) (zaf 1)))))
  sNx)
noncomputable def zeq:List S2.D->Sto->Out S2.D:=zbt 2 false zhs
noncomputable def zbW:Fs:=
  (zai (sFz [1] (zfx "Ways" "tiles" (zad 0) (zad 1)))
  (zai (sFz [2,2] (zfx "Ways" "ground" (zad 0) (zcQ 1 (.one 0) (za6 (eFn zaV [(zad 2)])) zeM (eFn zaG [(zad 1),(zad 0)]) [2])))
  (zai (sFz [2] (zfx "Ways" "size" (zad 0) (eFn zbz [(zad 2)])))
  (zai (sFz [3] (zfx "Ways" "is_round" (zad 0) (zad 3)))
  (zai (sFz [] (ziI "Ways" "known" 0))
  sNx)))))
noncomputable def zaY:List S2.D->Sto->Out S2.D:=zbt 4 false zbW
noncomputable def zbw:Fs:=
  (zai (sFz [] (za4 (zac zdY (zcb [(zab .non)]) (zac zbC (zac ixD (zeg "Ways" "size" (zad 0)) (zab (.int 1))) (zab (.int 2))))))
  sNx)
noncomputable def za0:List S2.D->Sto->Out S2.D:=zbt 1 false zbw
noncomputable def zbV:Fs:=
  (zai (sFz [] (za4 (zac eqD (zac zh7 (zac zbC (zaf 1) (zab (.int 1))) (zac ixD (zeg "Ways" "size" (zad 0)) (zab (.int 1)))) (zab (.int 0)))))
  sNx)
noncomputable def zaD:List S2.D->Sto->Out S2.D:=zbt 2 false zbV
noncomputable def zaK:Fs:=
  (zai (sFz [] (za4 (eIf (zac eqD (zac zh7 (zaf 1) (zac ixD (zeg "Ways" "size" (zad 0)) (zab (.int 1)))) (zab (.int 0))) (zac ixD (zaf 3) (zab (.int 3))) (zac ixD (zaf 2) (eUn zn7 (zab (.int 1)))))))
  sNx)
noncomputable def zam:List S2.D->Sto->Out S2.D:=zbt 4 false zaK
noncomputable def zbo:Fs:=
  (zai (sFz [1] (zbi 4 false (zbp "Ways" "ends_row" zaD (zad 0) [(zad 1)])))
  (zai (sFz [] (zbi 5 false (zac geD (zac zbC (zaf 1) (zac ixD (zeg "Ways" "size" (zad 0)) (zab (.int 1)))) (zaR ze0 [(zeg "Ways" "ground" (zad 0))]))))
  (zai (sFz [4] (zbi 6 false (eIf (zad 4) (zab .non) (zac ixD (zaf 3) (zab (.int 1))))))
  (zai (sFz [5] (zbi 7 false (eIf (zad 5) (zab .non) (zac ixD (zaf 3) (zab (.int 2))))))
  (zai (sFz [4,1,2,3] (zbi 8 false (eIf (zf2 (zeg "Ways" "is_round" (zad 0)) (eUn zd6 (zad 4))) (zbp "Ways" "colour_round" zam (zad 0) [(zad 1),(zad 2),(zad 3)]) (zab .non))))
  (zai (sFz [6,7,8] (za4 (zac zbC (zac zbC (zcb [(zad 6)]) (eSl (zaf 2) (some (zab (.int 2))) (some (eUn zn7 (zab (.int 1)))))) (zcb [(zad 7),(zad 8)]))))
  sNx))))))
noncomputable def zaT:List S2.D->Sto->Out S2.D:=zbt 9 false zbo
noncomputable def zaU:Fs:=
  (zai (sFz [] (zbi 2 false (zac ixD (zeg "Ways" "ground" (zad 0)) (zaf 1))))
  (zai (sFz [] (sIf (zac zl6 (zaf 2) (zab .non)) (zai (sFz [] (za4 (eUn lrD (zaR ze0 [(zeg "Ways" "tiles" (zad 0))])))) sNx) sNx))
  (zai (sFz [2,2] (za4 (eIf (eFn zbh [(zeg "Ways" "tiles" (zad 0)),(zad 2)]) (zgI [(zad 2)]) (zgI []))))
  sNx)))
noncomputable def zaz:List S2.D->Sto->Out S2.D:=zbt 3 false zaU
noncomputable def za2:Fs:=
  (zai (sFz [1] (sIf (eOr (eUn zd6 (zeg "Ways" "is_round" (zad 0))) (eUn zd6 (zbp "Ways" "ends_row" zaD (zad 0) [(zad 1)]))) (zai (sFz [] (za4 (zab (.bl true)))) sNx) sNx))
  (zai (sFz [1,2,3] (za4 (zac eqD (zac ixD (zaf 3) (zab (.int 1))) (zbp "Ways" "colour_round" zam (zad 0) [(zad 1),(zad 2),(zad 3)]))))
  sNx))
noncomputable def zaC:List S2.D->Sto->Out S2.D:=zbt 4 false za2
noncomputable def zdk:Fs:=
  (zai (sFz [] (sIf (eOr (eUn zd6 (eFn zeq [(zac ixD (zaf 2) (zab (.int 0))),(zac ixD (zaf 3) (zab (.int 3)))])) (eUn zd6 (eFn zeq [(zac ixD (zaf 2) (zab (.int 1))),(zac ixD (zaf 3) (zab (.int 0)))]))) (zai (sFz [] (za4 (zab (.bl false)))) sNx) sNx))
  (zai (sFz [1,2,3] (za4 (zbp "Ways" "fits_round" zaC (zad 0) [(zad 1),(zad 2),(zad 3)])))
  sNx))
noncomputable def zcl:List S2.D->Sto->Out S2.D:=zbt 4 false zdk
noncomputable def zaN:Fs:=
  (zai (sFz [] (zbi 5 false (zac ixD (zeg "Ways" "tiles" (zad 0)) (zaf 4)))) (zai (sFz [1,2,5] (sIf (zbp "Ways" "fits" zcl (zad 0) [(zad 1),(zad 2),(zad 5)]) (zai (sFz [4,1,2,5] (zmI 3 (zcb [(zad 4),(zbp "Ways" "seam_behind" zaT (zad 0) [(zad 1),(zad 2),(zad 5)])]))) sNx) sNx)) sNx))
noncomputable def zca:Fs:=
  (zai (sFz [] (zbi 3 true (zgI [])))
  (zai (sFz [1] (zjc (.one 4) (za6 (zbp "Ways" "numbers_for" zaz (zad 0) [(zad 1)])) zaN))
  (zai (sFz [] (ziH 3))
  sNx)))
noncomputable def zba:List S2.D->Sto->Out S2.D:=zbt 6 true zca
noncomputable def zag(rec_:List S2.D->Sto->Out S2.D):Fs:=
  (zai (sFz [] (sIf (zac eqD (zaf 1) (zaR ze0 [(zeg "Ways" "ground" (zad 0))])) (zai (sFz [] (za4 (zab (.int 1)))) sNx) sNx))
  (zai (sFz [1,2] (zbi 3 false (zcb [(zad 1),(zad 2)])))
  (zai (sFz [] (sIf (zmi "Ways" "known" (zad 3) (zad 0)) (zai (sFz [1,2,0,1] (zg7 "Ways" "known" (zad 0) 3 (zaR zoU [(zcQ 1 (.one 0) (za6 (zbp "Ways" "choices" zba (zad 0) [(zad 1),(zad 2)])) zeM (zbp "Ways" "count_from" rec_ (zad 1) [(zac zbC (zaf 2) (zab (.int 1))),(zac ixD (zaf 0) (zab (.int 1)))]) [0,1])]))) sNx) sNx))
  (zai (sFz [] (za4 (zhy "Ways" "known" (zad 0) 3)))
  sNx))))
noncomputable def zbv:List S2.D->Sto->Out S2.D:=zlw 4 false zag 40
noncomputable def zbE:Fs:=
  (zai (sFz [] (za4 (zbp "Ways" "count_from" zbv (zad 0) [(zab (.int 0)),(zbp "Ways" "first_seam" za0 (zad 0) [])])))
  sNx)
noncomputable def zbc:List S2.D->Sto->Out S2.D:=zbt 1 false zbE
noncomputable def zcr:Fs:=
  (zai (sFz [0,1] (za4 (zbp "Ways" "count_all" zbc (eMk "Ways" [(.bl false)] zaY [(zad 0),(zad 1)]) [])))
  sNx)
noncomputable def zay:List S2.D->Sto->Out S2.D:=zbt 2 false zcr
noncomputable def zdy:Fs:=
  (zai (sFz [0,1] (za4 (eOr (zac zl6 (zaf 1) (zab .non)) (eFn zbh [(zad 0),(zad 1)]))))
  sNx)
noncomputable def zcG:List S2.D->Sto->Out S2.D:=zbt 2 false zdy
noncomputable def zbd:Fs:=
  (zai (sFz [0,1] (sIf (eUn zd6 (eFn zaW [(zad 0),(zad 1)])) (zai (sFz [] (sRz "NoPlace" [(zab (.str "there is no such place"))])) sNx) sNx))
  sNx)
noncomputable def zaq:List S2.D->Sto->Out S2.D:=zbt 2 false zbd
noncomputable def zcp:Fs:=
  (zai (sFz [] (zbi 3 false (zac ixD (zaf 0) (zac ixD (zaf 1) (zab (.int 0))))))
  (zai (sFz [2] (zbi 4 false (zac zbC (zac zbC (eSl (zaf 3) none (some (zac ixD (zaf 1) (zab (.int 1))))) (zcb [(zad 2)])) (eSl (zaf 3) (some (zac zbC (zac ixD (zaf 1) (zab (.int 1))) (zab (.int 1)))) none))))
  (zai (sFz [4] (za4 (zac zbC (zac zbC (eSl (zaf 0) none (some (zac ixD (zaf 1) (zab (.int 0))))) (zcb [(zad 4)])) (eSl (zaf 0) (some (zac zbC (zac ixD (zaf 1) (zab (.int 0))) (zab (.int 1)))) none))))
  sNx)))
noncomputable def zbk:List S2.D->Sto->Out S2.D:=zbt 5 false zcp
noncomputable def zdd:Fs:=
  (zai (sFz [1,2] (zoV (eFn zaq [(zad 1),(zad 2)])))
  (zai (sFz [0,3] (sIf (eUn zd6 (eFn zcG [(zad 0),(zad 3)])) (zai (sFz [] (sRz "NoTile" [(zab (.str "the set has no such number"))])) sNx) sNx))
  (zai (sFz [1,2,3] (za4 (eFn zbk [(zad 1),(zad 2),(zad 3)])))
  sNx)))
noncomputable def zbP:List S2.D->Sto->Out S2.D:=zbt 4 false zdd
noncomputable def zdh:Fs:=
  (zai (sFz [0,0,1] (za4 (zcQ 1 (.one 0) (za6 (eFn zaV [(zad 0)])) (zac neD (eFn zaG [(zad 1),(zad 0)]) (eFn zaG [(zad 2),(zad 0)])) (zad 0) [0,1])))
  sNx)
noncomputable def zcj:List S2.D->Sto->Out S2.D:=zbt 2 true zdh
noncomputable def zkC:Fs:=
  (zai (sFz [1] (za4 (eIf (eOr (zac zl6 (zaf 0) (zab .non)) (zac eqD (zaf 0) (zaf 2))) (zab (.int 0)) (zad 1))))
  sNx)
noncomputable def zjD:List S2.D->Sto->Out S2.D:=zbt 3 false zkC
noncomputable def zea(rec_least_from:List S2.D->Sto->Out S2.D):Fs:=
  (zai (sFz [5] (zbi 6 false (zbp "Mends" "least_from" rec_least_from (zad 0) [(zac zbC (zaf 1) (zab (.int 1))),(zad 5)]))) (zai (sFz [] (sIf (zac zqr (zaf 6) (zab .non)) (zai (sFz [4] (zbi 7 false (zac zbC (eFn zjD [(zac ixD (zeg "Mends" "laid" (zad 0)) (zaf 1)),(zac ixD (zeg "Mends" "weights" (zad 0)) (zaf 1)),(zad 4)]) (zac ixD (zaf 6) (zab (.int 0)))))) (zai (sFz [7,4,5] (zmI 3 (zcb [(zad 7),(zac ixD (zaf 6) (zab (.int 1))),(zad 4),(zad 5)]))) sNx)) sNx)) sNx))
noncomputable def ze1(rec_offers rec_least_by_offers rec_least_from:List S2.D->Sto->Out S2.D):Fs:=
  (zai (sFz [] (zbi 3 true (zgI [])))
  (zai (sFz [1,2] (zjc (.tup [4,5]) (za6 (zbp "Ways" "choices" zba (zeg "Mends" "ways" (zad 0)) [(zad 1),(zad 2)])) (zea rec_least_from)))
  (zai (sFz [3] (za4 (zad 3)))
  sNx)))
noncomputable def zct(rec_offers rec_least_by_offers rec_least_from:List S2.D->Sto->Out S2.D):Fs:=
  (zai (sFz [1,2] (zbi 3 false (zbp "Mends" "offers" rec_offers (zad 0) [(zad 1),(zad 2)])))
  (zai (sFz [] (sIf (zac eqD (zaR ze0 [(zaf 3)]) (zab (.int 0))) (zai (sFz [] (za4 (zab .non))) sNx) sNx))
  (zai (sFz [3] (zbi 4 false (zaR zqx [(zcQ 1 (.one 0) (za6 (zad 3)) zeM (zac ixD (zaf 0) (zab (.int 0))) [])])))
  (zai (sFz [4,3,4] (za4 (zcb [(zad 4),(zaR zoU [(zcQ 1 (.one 0) (za6 (zad 3)) (zac eqD (zac ixD (zaf 0) (zab (.int 0))) (zaf 1)) (zac ixD (zaf 0) (zab (.int 1))) [4])])])))
  sNx))))
noncomputable def zdA(rec_offers rec_least_by_offers rec_least_from:List S2.D->Sto->Out S2.D):Fs:=
  (zai (sFz [] (sIf (zac eqD (zaf 1) (zaR ze0 [(zeg "Mends" "laid" (zad 0))])) (zai (sFz [] (za4 (zcb [(zab (.int 0)),(zab (.int 1))]))) sNx) sNx))
  (zai (sFz [1,2] (zbi 3 false (zcb [(zad 1),(zad 2)])))
  (zai (sFz [] (sIf (zmi "Mends" "known" (zad 3) (zad 0)) (zai (sFz [1,2] (zg7 "Mends" "known" (zad 0) 3 (zbp "Mends" "least_by_offers" rec_least_by_offers (zad 0) [(zad 1),(zad 2)]))) sNx) sNx))
  (zai (sFz [] (za4 (zhy "Mends" "known" (zad 0) 3)))
  sNx))))
noncomputable def zbJ:Fs:=
  (zai (sFz [0,1] (zoV (eFn zaq [(zad 0),(zad 1)])))
  (zai (sFz [0,1,2] (za4 (eFn zbk [(zad 0),(zad 1),(zad 2)])))
  sNx))
noncomputable def zax:List S2.D->Sto->Out S2.D:=zbt 3 false zbJ
noncomputable def zb8:Fs:=
  (zai (sFz [0] (zbi 2 false (eFn zbN [(zad 0)])))
  (zai (sFz [] (zbi 3 false (zac ixD (zaf 1) (zab (.int 0)))))
  (zai (sFz [] (zbi 4 false (zac ixD (zaf 1) (zab (.int 1)))))
  (zai (sFz [4,3,3,4] (zbi 5 true (zgI [(zcb [(zac zft (zaf 3) (zab (.int 1))),(zac zft (zaf 4) (zab (.int 1)))]),(zcb [(zac zft (zaf 3) (zab (.int 1))),(zad 4)]),(zcb [(zad 3),(zac zft (zaf 4) (zab (.int 1)))]),(zcb [(zad 3),(zad 4)])])))
  (zai (sFz [5,2] (za4 (zcQ 1 (.one 0) (za6 (zad 5)) (eFn zaW [(zad 1),(zad 0)]) (zad 0) [2])))
  sNx)))))
noncomputable def zby:List S2.D->Sto->Out S2.D:=zbt 6 true zb8
noncomputable def zcc:Fs:=
  (zai (sFz [] (zbi 1 false (zac zdY (zab (.int 2)) (zaf 1)))) sNx)
noncomputable def zcP:Fs:=
  (zai (sFz [] (zbi 1 false (zab (.int 1))))
  (zai (sFz [0] (zjc (.one 2) (zd8 (zad 0)) zcc))
  (zai (sFz [1] (za4 (zad 1)))
  sNx)))
noncomputable def zbA:List S2.D->Sto->Out S2.D:=zbt 3 false zcP
noncomputable def Fo.seq(b:Fs):Fo->Fo|.nx ρ' S'=>b ρ' S'|o=>o
def zrP(a b:Fs)(ρ:Env):Out D->Fo|.ok d S'=>(match isB d with|some true=>a ρ S'|some false=>b ρ S'|none=>.bad)|.exc x S'=>.ex x ρ S'|.bad=>.bad
noncomputable def ztf(i:Nat)(o:Bool)(ρ:Env):Out D->Fo|.ok d S'=>.nx (ρ.set i (some (o,d))) S'|.exc c S'=>.ex c ρ S'|.bad=>.bad
noncomputable def ztd(ρ:Env):Out D->Fo|.ok _ S'=>.nx ρ S'|.exc c S'=>.ex c ρ S'|.bad=>.bad
noncomputable def ztc(ρ:Env):Out D->Fo|.ok d S'=>.rt d S'|.exc c S'=>.ex c ρ S'|.bad=>.bad
noncomputable def zqL(S:Sto):Option (Option (Bool×D))->Fo|some (some (true,.lst l))=>.rt (.lst l) S|_=>.bad
def zl3(i:Nat)(ρ:Env)(l:List D):Out D->Fo
 |.ok d S'=>if zaL l.length then .nx (ρ.set i (some (true,.lst (l++[d])))) S' else .bad
 |.exc c S'=>.ex c ρ S'|.bad=>.bad
noncomputable def zvP(i:Nat)(f:Fe)(ρ:Env)(S:Sto):Option (Option (Bool×D))->Fo|some (some (true,.lst l))=>zl3 i ρ l (f ρ S)|_=>.bad
def zoo(i:Nat)(ρ:Env)(l:List D):Out D->Fo
 |.ok (.lst k) S'=>if zaL (l.length+k.length)then .nx (ρ.set i (some (true,.lst (l++k)))) S' else .bad
 |.ok _ _=>.bad|.exc c S'=>.ex c ρ S'|.bad=>.bad
noncomputable def zvM(i:Nat)(f:Fe)(ρ:Env)(S:Sto):Option (Option (Bool×D))->Fo|some (some (true,.lst l))=>zoo i ρ l (f ρ S)|_=>.bad
noncomputable def zol(i j:Nat)(o1 o2:Bool)(d1:D)(ρ:Env):Out D->Fo|.ok d2 S2=>.nx ((ρ.set i (some (o1,d1))).set j (some (o2,d2))) S2|.exc c S'=>.ex c ρ S'|.bad=>.bad
noncomputable def zvF(i j:Nat)(o1 o2:Bool)(g:Fe)(ρ:Env):Out D->Fo|.ok d1 S1=>zol i j o1 o2 d1 ρ (g ρ S1)|.exc c S'=>.ex c ρ S'|.bad=>.bad
noncomputable def zok(S:Sto):Option Env->Fo|some ρ'=>.nx ρ' S|none=>.bad
def zot(t:Tg)(ρ:Env):Out D->Fo|.ok d S'=>zok S' (t.put ρ d)|.exc c S'=>.ex c ρ S'|.bad=>.bad
noncomputable def zvK(t:Tg)(a:Fs)(ρ:Env):Out (List D)->Fo|.ok ds S'=>zf1 t a ds ρ S'|.exc c S'=>.ex c ρ S'|.bad=>.bad
noncomputable def zvC(S:Sto):Option (Option (Bool×D))->Out D|some (some (false,d))=>.ok d S|_=>.bad
noncomputable def zvO(S:Sto):Option (Option (Bool×D))->Out D|some (some (_,d))=>.ok d S|_=>.bad
def kUn(u:D->Option D):Out D->Out D|.ok a S=>Out.of (u a) S|.exc c S=>.exc c S|.bad=>.bad
def zkk(u:D->D->Option D)(a:D):Out D->Out D|.ok b S=>Out.of (u a b) S|.exc c S=>.exc c S|.bad=>.bad
noncomputable def zte(u:D->D->Option D)(g:Fe)(ρ:Env):Out D->Out D|.ok a S=>zkk u a (g ρ S)|.exc c S=>.exc c S|.bad=>.bad
def kIf(f g:Fe)(ρ:Env):Out D->Out D|.ok d S1=>(match isB d with|some true=>f ρ S1|some false=>g ρ S1|none=>.bad)|.exc c S=>.exc c S|.bad=>.bad
def ztg(g:Fe)(ρ:Env):Out D->Out D|.ok d S1=>(match isB d with|some true=>g ρ S1|some false=>.ok (.bl false) S1|none=>.bad)|.exc c S=>.exc c S|.bad=>.bad
def kOr(g:Fe)(ρ:Env):Out D->Out D|.ok d S1=>(match isB d with|some true=>.ok (.bl true) S1|some false=>g ρ S1|none=>.bad)|.exc c S=>.exc c S|.bad=>.bad
noncomputable def zgy(d:D):Out (List D)->Out (List D)|.ok ds S=>.ok (d::ds) S|.exc c S=>.exc c S|.bad=>.bad
def zoq(fs:List Fe)(ρ:Env):Out D->Out (List D)|.ok d S=>zgy d (zaj fs ρ S)|.exc c S=>.exc c S|.bad=>.bad
def zvD:Out (List D)->Out D|.ok ds S=>if zaL ds.length then .ok (.tup ds) S else .bad|.exc c S=>.exc c S|.bad=>.bad
def zvH:Out (List D)->Out D|.ok ds S=>if zaL ds.length then .ok (.lst ds) S else .bad|.exc c S=>.exc c S|.bad=>.bad
def zos(u:List D->Option D):Out (List D)->Out D|.ok ds S=>Out.of (u ds) S|.exc c S=>.exc c S|.bad=>.bad
noncomputable def kFn(r:List D->Sto->Out D):Out (List D)->Out D|.ok ds S=>r ds S|.exc c S=>.exc c S|.bad=>.bad
def zeD(v:D->D->Option D)(b:D):Out D->Out D|.ok c S=>Out.of (v b c) S|.exc c S=>.exc c S|.bad=>.bad
def zeC(v:D->D->Option D)(h:Fe)(ρ:Env)(b:D)(S:Sto):Option D->Out D|some d=>(match isB d with|some true=>zeD v b (h ρ S)|some false=>.ok (.bl false) S|none=>.bad)|none=>.bad
noncomputable def zfI(u v:D->D->Option D)(h:Fe)(ρ:Env)(a:D):Out D->Out D|.ok b S=>zeC v h ρ b S (u a b)|.exc c S=>.exc c S|.bad=>.bad
noncomputable def zmQ(u v:D->D->Option D)(g h:Fe)(ρ:Env):Out D->Out D|.ok a S=>zfI u v h ρ a (g ρ S)|.exc c S=>.exc c S|.bad=>.bad
noncomputable def zvI:Out D->Out (Option Int)|.ok (.int i) S=>.ok (some i) S|.ok _ _=>.bad|.exc c S=>.exc c S|.bad=>.bad
def zrK(d:D)(l:Option Int):Out (Option Int)->Out D|.ok u S=>Out.of (slD d l u) S|.exc c S=>.exc c S|.bad=>.bad
def zrL(d:D)(u:Option Fe)(ρ:Env):Out (Option Int)->Out D|.ok l S=>zrK d l (zcz u ρ S)|.exc c S=>.exc c S|.bad=>.bad
def kSl(l u:Option Fe)(ρ:Env):Out D->Out D|.ok d S=>zrL d u ρ (zcz l ρ S)|.exc c S=>.exc c S|.bad=>.bad
noncomputable def zib:Out D->Out (List D)|.ok (.lst l) S=>.ok l S|.ok (.tup l) S=>.ok l S|.ok (.scr l) S=>.ok (l.map D.int) S|.ok _ _=>.bad|.exc c S=>.exc c S|.bad=>.bad
def zop:Out (List D)->Out (List D)|.ok [.lst l] S=>.ok (zdl l) S|.ok [.tup l] S=>.ok (zdl l) S|.ok _ _=>.bad|.exc c S=>.exc c S|.bad=>.bad
def zqG:Out (List D)->Out (List D)|.ok ds S1=>(match ds with|[.tup l,.tup k,.tup m]=>if k.length=l.length/\m.length=l.length then .ok (zlb l k m) S1 else .bad|_=>.bad)|.exc c S=>.exc c S|.bad=>.bad
def zqH:Out (List D)->Out (List D)|.ok ds S1=>(match ds with|[x,y]=>(match zpz x,zpz y with|some l,some k=>.ok (ze4 l k) S1|_,_=>.bad)|_=>.bad)|.exc c S=>.exc c S|.bad=>.bad
def zqK:Out (List D)->Out (List D)|.ok ds S1=>(match ds with|[.int j]=>if -1000000<=j/\j<=1000000 then .ok (zaA 0 j) S1 else .bad|_=>.bad)|.exc c S=>.exc c S|.bad=>.bad
def zqJ:Out (List D)->Out (List D)|.ok ds S1=>(match ds with|[.int i,.int j]=>if(-1000000<=i/\i<=1000000)/\-1000000<=j/\j<=1000000 then .ok (zaA i j) S1 else .bad|_=>.bad)|.exc c S=>.exc c S|.bad=>.bad
def zqI:Out (List D)->Out (List D)|.ok ds S1=>(match ds with|[.int i,.int j,.int c]=>if i=0/\0<=j/\j<=1000/\1<=c/\c<=1000 then .ok (zjB j c) S1 else .bad|_=>.bad)|.exc c S=>.exc c S|.bad=>.bad
def zkj:Out (List D)->Out D|.ok ys S2=>if zaL ys.length then .ok (.lst ys) S2 else .bad|_=>.bad
def zor(tg:Tg)(c elt:Fe)(ρ0:Env):Out (List D)->Out D|.ok ds S1=>zkj (zaS tg c elt ρ0 ds S1)|.exc c S=>.exc c S|.bad=>.bad
noncomputable def zvN:Option (Option (Bool×D))->Option (Bool×D)|some (some (false,d))=>some (false,d)|_=>none
def zqO(ρ:Env)(i:Nat):Option (Option (Bool×D))->Env|some (some (true,d))=>ρ.set i (some (false,unW d))|_=>ρ
noncomputable def zrM(own:Bool):Fo->Out D|.rt d S'=>.ok d S'|.nx _ S'=>if own then .bad else .ok .non S'|.ex c _ S'=>.exc c S'|_=>.bad
def kRz(c:Str)(ρ:Env):Out (List D)->Fo|.ok ds S'=>if zaL ds.length then .ex c ρ S' else .bad|.exc x S'=>.ex x ρ S'|.bad=>.bad
def zrN(u:List D->D->Option D)(l:List D):Out D->Out D|.ok d S=>Out.of (u l d) S|.exc c S=>.exc c S|.bad=>.bad
noncomputable def kMt(u:List D->D->Option D)(f:Fe)(ρ:Env)(S:Sto):Option (Option (Bool×D))->Out D|some (some (_,.lst l))=>zrN u l (f ρ S)|_=>.bad
section
variable{ρ:Env}{S:Sto}{f g h k c:Fe}{a b:Fs}
@[simp] def zws{u:List D->D->Option D}{i:Nat}:eMt u i f ρ S=kMt u f ρ S ρ[i]?:=by
 show(match ρ[i]? with|some (some (_,.lst l))=>(f ρ S).bind fun d S1=>Out.of (u l d) S1|_=>.bad)=_
 cases ρ[i]? with
 |none=>rfl|some o=>cases o with
  |none=>rfl|some p=>
   obtain⟨b,d⟩:=p
   cases d with
   |lst l=>show((f ρ S).bind fun d S1=>Out.of (u l d) S1)=zrN u l (f ρ S);cases f ρ S<;>rfl|_=>rfl
@[simp] def zyb{u:List D->D->Option D}{o:Bool}{l:List D}:kMt u f ρ S (some (some (o,.lst l)))=zrN u l (f ρ S):=(rfl)
@[simp] def zxg{u:List D->D->Option D}{l:List D}{d:D}:zrN u l (.ok d S)=Out.of (u l d) S:=(rfl)
@[simp] def ztP:zai a b ρ S=(a ρ S).seq b:=by
 show(match a ρ S with|.nx ρ' S'=>b ρ' S'|o=>o)=_
 cases a ρ S<;>rfl
@[simp] def zuZ:(Fo.nx ρ S).seq b=b ρ S:=(rfl)
@[simp] def zuY{d:D}:(Fo.rt d S).seq b=.rt d S:=(rfl)
@[simp] def zuX:(Fo.bk ρ S).seq b=.bk ρ S:=(rfl)
@[simp] def zuW:(Fo.ct ρ S).seq b=.ct ρ S:=(rfl)
@[simp] def zuV{x:Str}:(Fo.ex x ρ S).seq b=.ex x ρ S:=(rfl)
@[simp] def zuU:Fo.bad.seq b=.bad:=(rfl)
def zqP(i:Nat)(ρ:Env):Out D->Fo|.ok (.lst l) S'=>.nx (ρ.set i (some (true,zhj l))) S'|.ok _ _=>.bad|.exc c S'=>.ex c ρ S'|.bad=>.bad
@[simp] def zr7{i:Nat}{f:Fe}:zg9 i f ρ S=zqP i ρ (f ρ S):=by
 unfold zg9
 cases f ρ S with
 |ok d S'=>cases d<;>rfl|exc c S'=>rfl|bad=>rfl
@[simp] def zvv{i:Nat}{l:List D}:zqP i ρ (.ok (.lst l) S)=.nx (ρ.set i (some (true,zhj l))) S:=(rfl)
def zid:Out (List D)->Out D|.ok ys S2=>if zaL ys.length&&ys.all zox then .ok (.lst ys) S2 else .bad|_=>.bad
def zki(n:Nat)(tg:Tg)(c elt:Fe)(caps:List Nat)(ρ:Env):Out (List D)->Out D|.ok ds S1=>zid (zaS tg c elt (zat n caps ρ) ds S1)|.exc c S=>.exc c S|.bad=>.bad
@[simp] def zrD{n:Nat}{tg:Tg}{it:Fi}{c elt:Fe}{caps:List Nat}:zfj n tg it c elt caps ρ S=zki n tg c elt caps ρ (it ρ S):=by
 unfold zfj
 cases it ρ S with
 |ok ds S1=>
  show(match zaS tg c elt (zat n caps ρ) ds S1 with|.ok ys S2=>_|_=>_)=zid (zaS tg c elt (zat n caps ρ) ds S1)
  cases zaS tg c elt (zat n caps ρ) ds S1<;>rfl
 |exc c S=>rfl|bad=>rfl
@[simp] def zrJ{n:Nat}{tg:Tg}{c elt:Fe}{caps:List Nat}{ds:List D}:zki n tg c elt caps ρ (.ok ds S)=zid (zaS tg c elt (zat n caps ρ) ds S):=(rfl)
def zoh{ys:List D}(h1:ys.length<=100000)(h2:ys.all zox=true):zid (.ok ys S)=.ok (.lst ys) S:=by
 show(if zaL ys.length&&ys.all zox then _ else _)=_;rw[h2,show zaL ys.length=true from yaK h1];rfl
def zmP(i:Nat)(ρ:Env)(d:D)(S:Sto)(l y:List D)(c1 c2:Int):Fo:=match pkI y c1,pkI y c2 with
   |some n,some m=>(match ixN l.length n with
    |some k=>(match l[k]? with
     |some (.lst row)=>(match ixN row.length m with
      |some k2=>.nx (ρ.set i (some (true,zhj (l.set k (.lst (row.set k2 d)))))) S|none=>.bad)
     |_=>.bad)
    |none=>.bad)
   |_,_=>.bad
def zne{i j:Nat}{c1 c2:Int}{f:Fe}{d:D}{S1:Sto}{l y:List D}(e:f ρ S=.ok d S1)(hi:ρ[i]?=some (some (true,zhj l)))(hj:ρ[j]?=some (some (false,.tup y))):zg6 i j c1 c2 f ρ S=zmP i ρ d S1 l y c1 c2:=by
 unfold zg6;rw[e];dsimp only;rw[hi,hj];rfl
@[simp] def zv7{is:List Nat}:sFz is a ρ S=a (frz is ρ) S:=(rfl)
@[simp] def zuk:frz [] ρ=ρ:=(rfl)
@[simp] def zuj{i:Nat}{is:List Nat}:frz (i::is) ρ=frz is (frz1 ρ i):=(rfl)
@[simp] def zwn(i:Nat):frz1 ρ i=zqO ρ i ρ[i]?:=(rfl)
@[simp] def zvk{i:Nat}{l:List D}:zqO ρ i (some (some (true,.lst l)))=ρ.set i (some (false,.lst l)):=(rfl)
@[simp] def zs3{i:Nat}{l:List D}:zqO ρ i (some (some (true,zhj l)))=ρ.set i (some (false,.lst l)):=(rfl)
@[simp] def zvj{i:Nat}{d:D}:zqO ρ i (some (some (false,d)))=ρ:=(rfl)
@[simp] def zvi{i:Nat}:zqO ρ i (some none)=ρ:=(rfl)
@[simp] def zv5:sNx ρ S=.nx ρ S:=(rfl)
@[simp] def zv8:sBk ρ S=.bk ρ S:=(rfl)
@[simp] def ztV{i:Nat}{o:Bool}:zbi i o f ρ S=ztf i o ρ (f ρ S):=(rfl)
@[simp] def zvx{i:Nat}{o:Bool}{d:D}:ztf i o ρ (.ok d S)=.nx (ρ.set i (some (o,d))) S:=(rfl)
@[simp] def zvw{i:Nat}{o:Bool}{x:Str}:ztf i o ρ (.exc x S)=.ex x ρ S:=(rfl)
@[simp] def ztU:zoV f ρ S=ztd ρ (f ρ S):=(rfl)
@[simp] def zvo{d:D}:ztd ρ (.ok d S)=.nx ρ S:=(rfl)
@[simp] def zvn{x:Str}:ztd ρ (.exc x S)=.ex x ρ S:=(rfl)
@[simp] def ztQ:za4 f ρ S=ztc ρ (f ρ S):=(rfl)
@[simp] def zu8{d:D}:ztc ρ (.ok d S)=.rt d S:=(rfl)
@[simp] def zu7{x:Str}:ztc ρ (.exc x S)=.ex x ρ S:=(rfl)
@[simp] def zr2:zsz ρ S=.rt .non S:=(rfl)
@[simp] def zr1{i:Nat}:ziH i ρ S=zqL S ρ[i]?:=(rfl)
@[simp] def zu6{l:List D}:zqL S (some (some (true,.lst l)))=.rt (.lst l) S:=(rfl)
@[simp] def zv6:sIf c a b ρ S=zrP a b ρ (c ρ S):=(rfl)
@[simp] def zvh:zrP a b ρ (.ok (.bl true) S)=a ρ S:=(rfl)
@[simp] def zvg:zrP a b ρ (.ok (.bl false) S)=b ρ S:=(rfl)
@[simp] def zvf{x:Str}:zrP a b ρ (.exc x S)=.ex x ρ S:=(rfl)
@[simp] def ztW{i:Nat}:zmI i f ρ S=zvP i f ρ S ρ[i]?:=(rfl)
@[simp] def zxE{i:Nat}{l:List D}:zvP i f ρ S (some (some (true,.lst l)))=zl3 i ρ l (f ρ S):=(rfl)
@[simp] def zvz{i:Nat}{l:List D}{d:D}:zl3 i ρ l (.ok d S)=if zaL l.length then .nx (ρ.set i (some (true,.lst (l++[d])))) S else .bad:=(rfl)
@[simp] def zvy{i:Nat}{l:List D}{x:Str}:zl3 i ρ l (.exc x S)=.ex x ρ S:=(rfl)
@[simp] def ztT{i:Nat}:zpQ i f ρ S=zvM i f ρ S ρ[i]?:=(rfl)
@[simp] def zxu{i:Nat}{l:List D}:zvM i f ρ S (some (some (true,.lst l)))=zoo i ρ l (f ρ S):=(rfl)
@[simp] def zvm{i:Nat}{l k:List D}:zoo i ρ l (.ok (.lst k) S)=if zaL (l.length+k.length)then .nx (ρ.set i (some (true,.lst (l++k)))) S else .bad:=(rfl)
@[simp] def ztR{i j:Nat}{o1 o2:Bool}:zwL i j o1 f o2 g ρ S=zvF i j o1 o2 g ρ (f ρ S):=(rfl)
@[simp] def zxc{i j:Nat}{o1 o2:Bool}{d:D}:zvF i j o1 o2 g ρ (.ok d S)=zol i j o1 o2 d ρ (g ρ S):=(rfl)
@[simp] def zvb{i j:Nat}{o1 o2:Bool}{d e:D}:zol i j o1 o2 d ρ (.ok e S)=.nx ((ρ.set i (some (o1,d))).set j (some (o2,e))) S:=(rfl)
@[simp] def zr6{t:Tg}:ziJ t f ρ S=zot t ρ (f ρ S):=by
 unfold ziJ zot
 cases f ρ S with
 |ok d S'=>dsimp only;cases t.put ρ d<;>rfl|exc c S'=>rfl|bad=>rfl
@[simp] def zvu{t:Tg}{d:D}:zot t ρ (.ok d S)=zok S (t.put ρ d):=(rfl)
@[simp] def zs1{ρ':Env}:zok S (some ρ')=.nx ρ' S:=(rfl)
@[simp] def ztS{t:Tg}{it:Fi}:zjc t it a ρ S=zvK t a ρ (it ρ S):=(rfl)
@[simp] def zxq{t:Tg}{ds:List D}:zvK t a ρ (.ok ds S)=zf1 t a ds ρ S:=(rfl)
@[simp] def zv4{x:Str}{fs:List Fe}:sRz x fs ρ S=kRz x ρ (zaj fs ρ S):=(rfl)
@[simp] def zya{x:Str}{ds:List D}:kRz x ρ (.ok ds S)=if zaL ds.length then .ex x ρ S else .bad:=(rfl)
@[simp] def zt4{i:Nat}{d:D}:(Tg.one i).put ρ d=some (ρ.set i (some (false,d))):=(rfl)
@[simp] def zt1{is:List Nat}{ds:List D}:(Tg.tup is).put ρ (.tup ds)=zdW is ds ρ:=(rfl)
@[simp] def zt3{i:Nat}{is:List Nat}{d:D}{ds:List D}:zdW (i::is) (d::ds) ρ=zdW is ds (ρ.set i (some (false,d))):=(rfl)
@[simp] def zt2:zdW [] [] ρ=some ρ:=(rfl)
@[simp] def zum{i:Nat}:zad i ρ S=zvC S ρ[i]?:=(rfl)
@[simp] def zw5{d:D}:zvC S (some (some (false,d)))=.ok d S:=(rfl)
@[simp] def zut{i:Nat}:zaf i ρ S=zvO S ρ[i]?:=(rfl)
@[simp] def zxD{o:Bool}{d:D}:zvO S (some (some (o,d)))=.ok d S:=(rfl)
@[simp] def zus{d:D}:zab d ρ S=.ok d S:=(rfl)
@[simp] def zwp{u:D->Option D}:eUn u f ρ S=kUn u (f ρ S):=by
 unfold eUn;cases f ρ S<;>rfl
@[simp] def zw7{u:D->Option D}{d:D}:kUn u (.ok d S)=Out.of (u d) S:=(rfl)
@[simp] def zw6{u:D->Option D}{x:Str}:kUn u (.exc x S)=.exc x S:=(rfl)
@[simp] def zuu{u:D->D->Option D}:zac u f g ρ S=zte u g ρ (f ρ S):=by
 unfold zac
 cases f ρ S with
 |ok a S1=>show((g ρ S1).bind fun b S2=>Out.of (u a b) S2)=zkk u a (g ρ S1);cases g ρ S1<;>rfl|exc c S=>rfl|bad=>rfl
@[simp] def zvt{u:D->D->Option D}{d:D}:zte u g ρ (.ok d S)=zkk u d (g ρ S):=(rfl)
@[simp] def zvs{u:D->D->Option D}{x:Str}:zte u g ρ (.exc x S)=.exc x S:=(rfl)
@[simp] def zvr{u:D->D->Option D}{d e:D}:zkk u d (.ok e S)=Out.of (u d e) S:=(rfl)
@[simp] def zvq{u:D->D->Option D}{d:D}{x:Str}:zkk u d (.exc x S)=.exc x S:=(rfl)
@[simp] def zwu:eIf c f g ρ S=kIf f g ρ (c ρ S):=by
 unfold eIf;cases c ρ S<;>rfl
@[simp] def zxo:kIf f g ρ (.ok (.bl true) S)=f ρ S:=(rfl)
@[simp] def zxn:kIf f g ρ (.ok (.bl false) S)=g ρ S:=(rfl)
@[simp] def zuv:zf2 f g ρ S=ztg g ρ (f ρ S):=by
 unfold zf2;cases f ρ S<;>rfl
@[simp] def zvB:ztg g ρ (.ok (.bl true) S)=g ρ S:=(rfl)
@[simp] def zvA:ztg g ρ (.ok (.bl false) S)=.ok (.bl false) S:=(rfl)
@[simp] def zwr:eOr f g ρ S=kOr g ρ (f ρ S):=by
 unfold eOr;cases f ρ S<;>rfl
@[simp] def zxe:kOr g ρ (.ok (.bl true) S)=.ok (.bl true) S:=(rfl)
@[simp] def zxd:kOr g ρ (.ok (.bl false) S)=g ρ S:=(rfl)
@[simp] def zr9:zaj [] ρ S=.ok [] S:=(rfl)
@[simp] def zsa{fs:List Fe}:zaj (f::fs) ρ S=zoq fs ρ (f ρ S):=by
 show((f ρ S).bind fun d S1=>(zaj fs ρ S1).bind fun ds S2=>.ok (d::ds) S2)=_
 cases f ρ S with
 |ok a S1=>show((zaj fs ρ S1).bind fun ds S2=>.ok (a::ds) S2)=zgy a (zaj fs ρ S1);cases zaj fs ρ S1<;>rfl|exc c S=>rfl|bad=>rfl
@[simp] def zs7{fs:List Fe}{d:D}:zoq fs ρ (.ok d S)=zgy d (zaj fs ρ S):=(rfl)
@[simp] def zs6{fs:List Fe}{x:Str}:zoq fs ρ (.exc x S)=.exc x S:=(rfl)
@[simp] def zs5{d:D}{ds:List D}:zgy d (.ok ds S)=.ok (d::ds) S:=(rfl)
@[simp] def zs4{d:D}{x:Str}:zgy d (.exc x S)=.exc x S:=(rfl)
@[simp] def zun{fs:List Fe}:zcb fs ρ S=zvD (zaj fs ρ S):=by
 unfold zcb;cases zaj fs ρ S<;>rfl
@[simp] def zw8{ds:List D}:zvD (.ok ds S)=if zaL ds.length then .ok (.tup ds) S else .bad:=(rfl)
@[simp] def zup{fs:List Fe}:zgI fs ρ S=zvH (zaj fs ρ S):=by
 unfold zgI;cases zaj fs ρ S<;>rfl
@[simp] def zxi{ds:List D}:zvH (.ok ds S)=if zaL ds.length then .ok (.lst ds) S else .bad:=(rfl)
@[simp] def zse{u:List D->Option D}{fs:List Fe}:zaR u fs ρ S=zos u (zaj fs ρ S):=by
 unfold zaR;cases zaj fs ρ S<;>rfl
@[simp] def zta{u:List D->Option D}{ds:List D}:zos u (.ok ds S)=Out.of (u ds) S:=(rfl)
@[simp] def zs9{u:List D->Option D}{x:Str}:zos u (.exc x S)=.exc x S:=(rfl)
@[simp] def zwv{r:List D->Sto->Out D}{fs:List Fe}:eFn r fs ρ S=kFn r (zaj fs ρ S):=by
 unfold eFn;cases zaj fs ρ S<;>rfl
@[simp] def zxs{r:List D->Sto->Out D}{ds:List D}:kFn r (.ok ds S)=r ds S:=(rfl)
@[simp] def zxr{r:List D->Sto->Out D}{x:Str}:kFn r (.exc x S)=.exc x S:=(rfl)
@[simp] def zrE{u v:D->D->Option D}:zb5 u v f g h ρ S=zmQ u v g h ρ (f ρ S):=by
 show((f ρ S).bind fun a S1=>(g ρ S1).bind fun b S2=>match(u a b).bind isB with
  |some true=>(h ρ S2).bind fun c S3=>Out.of (v b c) S3|some false=>.ok (.bl false) S2|none=>.bad)=_
 cases f ρ S with
 |ok a S1=>
  show((g ρ S1).bind fun b S2=>match(u a b).bind isB with
   |some true=>(h ρ S2).bind fun c S3=>Out.of (v b c) S3|some false=>.ok (.bl false) S2|none=>.bad)=zfI u v h ρ a (g ρ S1)
  cases g ρ S1 with
  |ok b S2=>
   show(match(u a b).bind isB with
    |some true=>(h ρ S2).bind fun c S3=>Out.of (v b c) S3|some false=>.ok (.bl false) S2|none=>.bad)=zeC v h ρ b S2 (u a b)
   cases hu:u a b with
   |none=>rfl|some d=>
    show(match isB d with
     |some true=>(h ρ S2).bind fun c S3=>Out.of (v b c) S3|some false=>.ok (.bl false) S2|none=>.bad)=(match isB d with|some true=>zeD v b (h ρ S2)|some false=>.ok (.bl false) S2|none=>.bad)
    cases hb:isB d with
    |none=>rfl|some x=>cases x with
     |true=>show((h ρ S2).bind fun c S3=>Out.of (v b c) S3)=zeD v b (h ρ S2);cases h ρ S2<;>rfl|false=>rfl
  |exc c S=>rfl|bad=>rfl
 |exc c S=>rfl|bad=>rfl
@[simp] def zxB{u v:D->D->Option D}{d:D}:zmQ u v g h ρ (.ok d S)=zfI u v h ρ d (g ρ S):=(rfl)
@[simp] def zxA{u v:D->D->Option D}{d e:D}:zfI u v h ρ d (.ok e S)=zeC v h ρ e S (u d e):=(rfl)
@[simp] def zxz{v:D->D->Option D}{e:D}:zeC v h ρ e S (some (.bl true))=zeD v e (h ρ S):=(rfl)
@[simp] def zxy{v:D->D->Option D}{e:D}:zeC v h ρ e S (some (.bl false))=.ok (.bl false) S:=(rfl)
@[simp] def zxx{v:D->D->Option D}{d e:D}:zeD v e (.ok d S)=Out.of (v e d) S:=(rfl)
@[simp] def zrC:zcz none ρ S=.ok none S:=(rfl)
@[simp] def zrB:zcz (some f) ρ S=zvI (f ρ S):=by
 show((f ρ S).bind fun d S1=>match d with|.int i=>.ok (some i) S1|_=>.bad)=_
 cases f ρ S with
 |ok d S'=>cases d<;>rfl|exc c S'=>rfl|bad=>rfl
@[simp] def zxm{i:Int}:zvI (.ok (.int i) S)=.ok (some i) S:=(rfl)
@[simp] def zwq{l u:Option Fe}:eSl f l u ρ S=kSl l u ρ (f ρ S):=by
 unfold eSl
 cases f ρ S with
 |ok d S1=>
  show((zcz l ρ S1).bind fun l S2=>(zcz u ρ S2).bind fun u S3=>Out.of (slD d l u) S3)=zrL d u ρ (zcz l ρ S1)
  cases zcz l ρ S1 with
  |ok l S2=>show((zcz u ρ S2).bind fun u S3=>Out.of (slD d l u) S3)=zrK d l (zcz u ρ S2);cases zcz u ρ S2<;>rfl|exc c S=>rfl|bad=>rfl
 |exc c S=>rfl|bad=>rfl
@[simp] def zx9{l u:Option Fe}{d:D}:kSl l u ρ (.ok d S)=zrL d u ρ (zcz l ρ S):=(rfl)
@[simp] def zxa{u:Option Fe}{d:D}{l:Option Int}:zrL d u ρ (.ok l S)=zrK d l (zcz u ρ S):=(rfl)
@[simp] def zw9{d:D}{l u:Option Int}:zrK d l (.ok u S)=Out.of (slD d l u) S:=(rfl)
@[simp] def zr8:za6 f ρ S=zib (f ρ S):=by
 show((f ρ S).bind fun d S1=>match d with|.lst l=>.ok l S1|.tup l=>.ok l S1|.scr l=>.ok (l.map D.int) S1|_=>.bad)=_
 cases f ρ S with
 |ok d S'=>cases d<;>rfl|exc c S'=>rfl|bad=>rfl
@[simp] def zxj{l:List Int}:zib (.ok (.scr l) S)=.ok (l.map D.int) S:=(rfl)
@[simp] def zt0{l:List D}:zsC (.lst l) (.int (-1))=some (.lst l.reverse):=(rfl)
@[simp] def zxl{l:List D}:zib (.ok (.lst l) S)=.ok l S:=(rfl)
@[simp] def zxk{l:List D}:zib (.ok (.tup l) S)=.ok l S:=(rfl)
@[simp] def zul:zkF f ρ S=zop (zaj [f] ρ S):=by
 show((zaj [f] ρ S).bind fun ds S1=>match ds with|[.lst l]=>.ok (zdl l) S1|[.tup l]=>.ok (zdl l) S1|_=>.bad)=_
 cases zaj [f] ρ S with
 |ok ds S'=>
  cases ds with
  |nil=>rfl|cons d ds=>cases ds with
   |nil=>cases d<;>rfl|cons e ds=>cases d<;>rfl
 |exc c S'=>rfl|bad=>rfl
@[simp] def zxw{l:List D}:zop (.ok [.lst l] S)=.ok (zdl l) S:=(rfl)
@[simp] def zxv{l:List D}:zop (.ok [.tup l] S)=.ok (zdl l) S:=(rfl)
@[simp] def ztL{h:Fe}:zq8 f g h ρ S=zqG (zaj [f,g,h] ρ S):=by
 unfold zq8;cases zaj [f,g,h] ρ S<;>rfl
@[simp] def zs0{l k m:List D}:zqG (.ok [.tup l,.tup k,.tup m] S)=if k.length=l.length/\m.length=l.length then .ok (zlb l k m) S else .bad:=(rfl)
@[simp] def zvZ:zq9 f g ρ S=zqH (zaj [f,g] ρ S):=by
 unfold zq9;cases zaj [f,g] ρ S<;>rfl
@[simp] def zuQ{l k:List D}:zqH (.ok [.tup l,.tup k] S)=.ok (ze4 l k) S:=(rfl)
@[simp] def zuP{l k:List D}:zqH (.ok [.lst l,.tup k] S)=.ok (ze4 l k) S:=(rfl)
@[simp] def zuO{l k:List D}:zqH (.ok [.tup l,.lst k] S)=.ok (ze4 l k) S:=(rfl)
@[simp] def zuN{l k:List D}:zqH (.ok [.lst l,.lst k] S)=.ok (ze4 l k) S:=(rfl)
@[simp] def ztZ:zd8 f ρ S=zqK (zaj [f] ρ S):=by
 unfold zd8;cases zaj [f] ρ S<;>rfl
@[simp] def zu5{j:Int}:zqK (.ok [.int j] S)=if -1000000<=j/\j<=1000000 then .ok (zaA 0 j) S else .bad:=(rfl)
@[simp] def ztY:zrb f g ρ S=zqJ (zaj [f,g] ρ S):=by
 unfold zrb;cases zaj [f,g] ρ S<;>rfl
@[simp] def zu4{i j:Int}:zqJ (.ok [.int i,.int j] S)=if(-1000000<=i/\i<=1000000)/\-1000000<=j/\j<=1000000 then .ok (zaA i j) S else .bad:=(rfl)
@[simp] def ztX:zra f g h ρ S=zqI (zaj [f,g,h] ρ S):=by
 unfold zra;cases zaj [f,g,h] ρ S<;>rfl
@[simp] def zu3{i j m:Int}:zqI (.ok [.int i,.int j,.int m] S)=if i=0/\0<=j/\j<=1000/\1<=m/\m<=1000 then .ok (zjB j m) S else .bad:=(rfl)
@[simp] def zuw{n:Nat}{t:Tg}{it:Fi}{caps:List Nat}:zcQ n t it c f caps ρ S=zor t c f (zat n caps ρ) (it ρ S):=by
 unfold zcQ
 cases it ρ S with
 |ok ds S'=>
  simp only[Out.bind,zor]
  cases zaS t c f (zat n caps ρ) ds S'<;>rfl
 |exc c S'=>rfl|bad=>rfl
@[simp] def zvp{t:Tg}{ρ0:Env}{ds:List D}:zor t c f ρ0 (.ok ds S)=zkj (zaS t c f ρ0 ds S):=(rfl)
@[simp] def zs8{ys:List D}:zkj (.ok ys S)=if zaL ys.length then .ok (.lst ys) S else .bad:=(rfl)
@[simp] def zv0:zeM ρ S=.ok (.bl true) S:=(rfl)
@[simp] def zo0{n:Nat}{caps:List Nat}:zat n caps ρ=List.replicate n none++caps.map (zrm ρ):=(rfl)
@[simp] def zux{i:Nat}:zrm ρ i=zvN ρ[i]?:=(rfl)
@[simp] def zxC{d:D}:zvN (some (some (false,d)))=some (false,d):=(rfl)
def zap{n:Nat}{own:Bool}{fs:Fs}{ds:List D}:zbt n own fs ds S=zrM own (fs (ds.map (fun d=>some (false,d))++List.replicate (n-ds.length) none) S):=(rfl)
@[simp] def zu2{own:Bool}{d:D}:zrM own (.rt d S)=.ok d S:=(rfl)
@[simp] def zu1:zrM false (.nx ρ S)=.ok .non S:=(rfl)
@[simp] def zu0{own:Bool}{x:Str}:zrM own (.ex x ρ S)=.exc x S:=(rfl)
@[simp] def zwm{b:Bool}:isB (.bl b)=some b:=(rfl)
@[simp] def zv9{b:Bool}:zd6 (.bl b)=some (.bl (!b)):=(rfl)
@[simp] def zwa{i:Int}:zn7 (.int i)=some (.int (-i)):=(rfl)
@[simp] def zuA{i j:Int}:zbC (.int i) (.int j)=some (.int (i+j)):=(rfl)
@[simp] def zuy{x y:List D}:zbC (.tup x) (.tup y)=if zaL (x.length+y.length)then some (.tup (x++y))else none:=(rfl)
@[simp] def zuz{x y:List D}:zbC (.lst x) (.lst y)=if zaL (x.length+y.length)then some (.lst (x++y))else none:=(rfl)
@[simp] def zv1{i j:Int}:zft (.int i) (.int j)=some (.int (i-j)):=(rfl)
@[simp] def zwc{i j:Int}:zdY (.int i) (.int j)=if zbG i||zbG j then some (.int (i*j))else none:=(rfl)
@[simp] def zwd{i j:Int}:zh7 (.int i) (.int j)=if 0<j then some (.int (i % j))else none:=(rfl)
@[simp] def zww{i j:Int}:zm0 (.int i) (.int j)=if 0<j/\j<1073741824 then some (.int (i / j))else none:=(rfl)
@[simp] def zx5{i j:Int}:ltD (.int i) (.int j)=some (.bl (decide (i<j))):=(rfl)
@[simp] def zx6{i j:Int}:leD (.int i) (.int j)=some (.bl (decide (i<=j))):=(rfl)
@[simp] def zx7{i j:Int}:gtD (.int i) (.int j)=some (.bl (decide (j<i))):=(rfl)
@[simp] def zx8{i j:Int}:geD (.int i) (.int j)=some (.bl (decide (j<=i))):=(rfl)
@[simp] def zwi{l:List D}{i:Int}:ixD (.lst l) (.int i)=atI l i:=(rfl)
@[simp] def zwg{l:List D}{i:Int}:ixD (.tup l) (.int i)=atI l i:=(rfl)
@[simp] def zwh{l:List Int}{i:Int}:ixD (.scr l) (.int i)=(atI l i).map D.int:=(rfl)
@[simp] def zui{l:List D}:ze0 [.lst l]=some (.int l.length):=(rfl)
@[simp] def zug{l:List D}:ze0 [.tup l]=some (.int l.length):=(rfl)
@[simp] def zuh{l:List Int}:ze0 [.scr l]=some (.int l.length):=(rfl)
@[simp] def ztN{l:List D}:zcd [.lst l]=some (.tup l):=(rfl)
@[simp] def ztM{l:List D}:zcd [.tup l]=some (.tup l):=(rfl)
@[simp] def zuf{l:List D}:zhl [.lst l]=some (.lst l):=(rfl)
@[simp] def zue{l:List D}:zhl [.tup l]=some (.lst l):=(rfl)
@[simp] def zwk{d:D}:zl6 d .non=some (.bl (zcy d)):=(rfl)
@[simp] def zt5{d:D}:zqr d .non=some (.bl (!zcy d)):=(rfl)
@[simp] def zub:zcy .non=true:=(rfl)
@[simp] def zua{i:Int}:zcy (.int i)=false:=(rfl)
@[simp] def zt9{l:List D}:zcy (.tup l)=false:=(rfl)
@[simp] def zv2{l:List D}{x y:Option Int}:slD (.tup l) x y=some (.tup (zdG l x y)):=(rfl)
@[simp] def zv3{l:List D}{x y:Option Int}:slD (.lst l) x y=some (.lst (zdG l x y)):=(rfl)
@[simp] def zt6{x y:Bool}:zsR (.bl x) (.bl y)=some (.bl (!decide (x=y))):=(rfl)
@[simp] def zwf{i j:Int}:zw3 [.int i,.int j]=some (.int (if j > i then j else i)):=(rfl)
@[simp] def zud{i j:Int}:zqx [.int i,.int j]=some (.int (if j<i then j else i)):=(rfl)
@[simp] def zwe{i j:Int}:zuL [.int i,.int j]=some (.int (if j<i then j else i)):=(rfl)
@[simp] def zrZ{n:Nat}:zaL n=decide (n<=100000):=(rfl)
def zal{α:Type}(xs:List α)(j:Nat):atI xs (j:Int)=xs[j]?:=by
 unfold atI ixN
 by_cases h:j<xs.length
 ·simp[h]
 ·simp[h]
@[simp] def zrU{α:Type}(xs:List α):atI xs 0=xs[0]?:=zal xs 0
@[simp] def ztF{α:Type}(xs:List α):atI xs 1=xs[1]?:=zal xs 1
@[simp] def ztE{α:Type}(xs:List α):atI xs 2=xs[2]?:=zal xs 2
@[simp] def zrt{α:Type}(xs:List α):atI xs 3=xs[3]?:=zal xs 3
def zfX{α:Type}{xs:List α}{i:Int}(h:0<=i):atI xs i=xs[i.toNat]?:=by
 obtain⟨n,rfl⟩:=ybD h;exact zal xs n
end
theorem zdv{tg:Tg}{body:Fs}{ds:List D}{S:Sto}(Iv:Nat->Env->Prop)(step:∀k d ρ,ds[k]?=some d->Iv k ρ->∃ρ1 ρ2,tg.put ρ d=some ρ1/\body ρ1 S=.nx ρ2 S/\Iv (k+1) ρ2){ρ:Env}(h0:Iv 0 ρ):∃ρ',zf1 tg body ds ρ S=.nx ρ' S/\Iv ds.length ρ':=by
 have go:∀(n:Nat) (es:List D) (k:Nat) (ρ:Env),es.length=n->ds.drop k=es->k+n=ds.length->Iv k ρ->∃ρ',zf1 tg body es ρ S=.nx ρ' S/\Iv ds.length ρ':=by
  intro n
  induction n with
  |zero=>
   intro es k ρ hl he hk hi;obtain rfl:es=[]:=yaM hl;exact⟨ρ,rfl,by rw[show ds.length=k by omega];exact hi⟩
  |succ n ih=>
   intro es k ρ hl he hk hi
   cases es with
   |nil=>cases hl|cons d es=>
    have hd:ds[k]?=some d:=by
     have:=congrArg (fun l=>l[0]?) he;rw[ybw]at this;simpa using this
    obtain⟨ρ1,ρ2,e1,e2,hi2⟩:=step k d ρ hd hi;obtain⟨ρ',e3,e4⟩:=ih es (k+1) ρ2 (by simpa using hl) (by rw[<-List.drop_drop,he];rfl) (by omega) hi2;refine⟨ρ',?_,e4⟩;unfold zf1;rw[e1];dsimp only;rw[e2];exact e3
 exact go ds.length ds 0 ρ rfl (by simp) (by omega) h0
theorem zcR{tg:Tg}{c elt:Fe}{ρ0:Env}{S:Sto}{g:D->D}{p:D->Bool}:∀{ds:List D},(∀d∈ds,∃ρ1,tg.put ρ0 d=some ρ1/\c ρ1 S=.ok (.bl (p d)) S/\(p d=true->elt ρ1 S=.ok (g d) S))->zaS tg c elt ρ0 ds S=.ok ((ds.filter p).map g) S
 |[],_=>rfl|d::ds,h=>by
  obtain⟨ρ1,e1,e2,e3⟩:=h d yaz;have ih:=zcR (ds:=ds) fun x hx=>h x (yas _ hx)
  unfold zaS;rw[e1];dsimp only;rw[e2]
  cases hp:p d with
  |true=>simp[e3 hp,ih,hp]|false=>simp[ih,hp]
def zeS{tg:Tg}{elt:Fe}{ρ0:Env}{S:Sto}{g:D->D}{ds:List D}(h:∀d∈ds,∃ρ1,tg.put ρ0 d=some ρ1/\elt ρ1 S=.ok (g d) S):zaS tg zeM elt ρ0 ds S=.ok (ds.map g) S:=by
 have:=zcR (c:=zeM) (p:=fun _=>true) (tg:=tg) (elt:=elt) (ρ0:=ρ0) (S:=S) (g:=g) (ds:=ds) fun d hd=>by
  obtain⟨ρ1,e1,e2⟩:=h d hd;exact⟨ρ1,e1,rfl,fun _=>e2⟩
 rw[this,List.filter_eq_self.mpr (fun _ _=>rfl)]
mutual
noncomputable def D.pl:D->Bool
 |.non=>true|.int _=>true|.str _=>true|.tup l=>D.pls l|.lst l=>D.pls l|_=>false
noncomputable def D.pls:List D->Bool
 |[]=>true|d::l=>d.pl&&D.pls l
end
theorem D.pls_iff:∀{l:List D},D.pls l=true↔∀d∈l,d.pl=true
 |[]=>by simp[D.pls]
 |d::l=>by simp[D.pls,D.pls_iff (l:=l)]
mutual
theorem zmX:∀(d e:D),d.pl=true->e.pl=true->(d.py.eqv e.py=true↔d=e)
 |.non,e,_,h=>by cases e<;>simp[D.py,PyData.eqv,D.pl]at h ⊢
 |.int i,e,_,h=>by cases e<;>simp[D.py,PyData.eqv,D.pl]at h ⊢
 |.str x,e,_,h=>by cases e<;>simp[D.py,PyData.eqv,D.pl]at h ⊢
 |.tup l,e,hd,h=>by
  cases e with
  |tup k=>
   simp only[D.py,PyData.eqv,D.pl]at hd h ⊢;rw[zhv l k hd h];simp
  |_=>simp[D.py,PyData.eqv,D.pl]at h ⊢
 |.lst l,e,hd,h=>by
  cases e with
  |lst k=>
   simp only[D.py,PyData.eqv,D.pl]at hd h ⊢;rw[zhv l k hd h];simp
  |_=>simp[D.py,PyData.eqv,D.pl]at h ⊢
 |.bl _,_,hd,_=>by simp[D.pl]at hd
 |.dic _,_,hd,_=>by simp[D.pl]at hd
 |.ref _,_,hd,_=>by simp[D.pl]at hd
 |.exc _,_,hd,_=>by simp[D.pl]at hd
 |.scr _,_,hd,_=>by simp[D.pl]at hd
theorem zhv:∀(l k:List D),D.pls l=true->D.pls k=true->(PyData.eqvAll (D.pys l) (D.pys k)=true↔l=k)
 |[],[],_,_=>by simp[D.pys,PyData.eqvAll]
 |[],_::_,_,_=>by simp[D.pys,PyData.eqvAll]
 |_::_,[],_,_=>by simp[D.pys,PyData.eqvAll]
 |d::l,e::k,h1,h2=>by
  simp only[D.pls,yac]at h1 h2;simp only[D.pys,PyData.eqvAll,yac,List.cons.injEq];rw[zmX d e h1.1 h2.1,zhv l k h1.2 h2.2]
end
@[simp] def zts{n:Nat}{i:Int}:D.fit n (.int i)=true:=by cases n<;>rfl
@[simp] def ztq{n:Nat}:D.fit n .non=true:=by cases n<;>rfl
@[simp] def ztp{n:Nat}{l:List D}:D.fit (n+1) (.tup l)=D.fits n l:=(rfl)
@[simp] def ztr{n:Nat}{l:List D}:D.fit (n+1) (.lst l)=D.fits n l:=(rfl)
@[simp] def zrR{n:Nat}:D.fits n []=true:=by cases n<;>rfl
@[simp] def zq0{n:Nat}{d:D}{l:List D}:D.fits n (d::l)=(d.fit n&&D.fits n l):=by cases n<;>rfl
@[simp] def zwo{i j:Int}:eqD (.int i) (.int j)=some (.bl (decide (i=j))):=by
 unfold eqD zfa;simp[D.py,PyData.eqv]
 cases h:(i==j)<;>simp_all
@[simp] def zwb{i j:Int}:neD (.int i) (.int j)=some (.bl (!decide (i=j))):=by
 unfold neD zfa;simp[D.py,PyData.eqv]
 cases h:(i==j)<;>simp_all
def zfi{l:List Int}:eqD (.scr l) (.lst [])=some (.bl (decide (l=[]))):=by
 cases l with
 |nil=>rfl|cons a l=>simp[eqD,D.fit,D.fits,zfa,D.py,D.pys,PyData.eqv,PyData.eqvAll]
noncomputable def zi5(l:List Int)(k:Int):Int:=if k<l.length then l.getD k.toNat 0 else if l=[]then 0 else l.getD (k % l.length).toNat 0*31+k
def zbX(l:List Int)(k:Int)(many:Int):Int:=
 let d:=(zi5 l k+6151*(k+1))*40692 % 2147483399
 (d*d+d / 31) % 2147483629 % many
def zjK(l:List Int)(k:Int){many:Int}(h:0<many):0<=zbX l k many/\zbX l k many<many:=⟨Int.emod_nonneg _ (by omega),ycG _ h⟩
@[simp] def zvS:zbG 31=true:=by decide
@[simp] def zrS:zbG 6151=true:=by decide
@[simp] def zq4:zbG 40692=true:=by decide
theorem zq2{i:Int}(h0:-(2 ^ 64)<i)(h:i<2 ^ 64):zbG i=true:=by unfold zbG;simp;omega
theorem zlu{l:List Int}{k:Int}{S:Sto}(hk:0<=k):zbu [.scr l,.int k] S=.ok (.int (zi5 l k)) S:=by
 unfold zi5
 by_cases h:k<l.length
 ·have hx:l[k.toNat]?=some l[k.toNat]:=yad (by omega);rw[if_pos h,yab,hx];simp[zbu,zap,zbU,h,zfX hk,hx]
 ·by_cases h0:l=[]
  ·subst h0;simp[zbu,zap,zbU,zfi,show ¬ k<0 by omega]
  ·have hl:0<l.length:=by cases l with|nil=>exact absurd rfl h0|cons _ _=>simp
   have hm0:0<=k % (l.length:Int):=Int.emod_nonneg _ (by omega);have hm1:k % (l.length:Int)<l.length:=ycG _ (by omega);have hx:l[(k % (l.length:Int)).toNat]?=some (l[(k % (l.length:Int)).toNat]'(by omega)):=yad (by omega);rw[if_neg h,if_neg h0,yab,hx];simp[zbu,zap,zbU,h,h0,zfi,zfX hm0,hx,hl]
theorem zdn{l:List Int}{k many:Int}{S:Sto}(hk:0<=k)(hm:0<many):zaI [.scr l,.int k,.int many] S=.ok (.int (zbX l k many)) S:=by
 unfold zbX;have h0:0<=(zi5 l k+6151*(k+1))*40692 % 2147483399:=Int.emod_nonneg _ (by omega);have h1:(zi5 l k+6151*(k+1))*40692 % 2147483399<2147483399:=ycG _ (by omega);have hf:zbG ((zi5 l k+6151*(k+1))*40692 % 2147483399)=true:=zq2 (by omega) (by omega);simp[zaI,zap,zdj,zlu hk,hf,hm]
noncomputable def zaw(t:List Int):D:=.tup (t.map D.int)
def zcE{hi:Int}{k:Nat}{d:D}(h:(zaA 0 hi)[k]?=some d):d=.int k/\(k:Int)<hi:=by
 unfold zaA at h;rw[yar]at h
 cases hr:(List.range (hi-0).toNat)[k]? with
 |none=>rw[hr]at h;cases h|some j=>
  rw[hr]at h;obtain⟨h1,h2⟩:=yaj.mp hr;simp at h1 h2;subst h2;simp at h;exact⟨h.symm,by omega⟩
@[simp] def zgn{hi:Int}:(zaA 0 hi).length=hi.toNat:=by unfold zaA;simp
def zgm{hi:Int}{d:D}(h:d∈zaA 0 hi):∃k:Nat,d=.int k/\(k:Int)<hi:=by
 obtain⟨k,hk⟩:=List.getElem?_of_mem h;exact⟨k,zcE hk⟩
@[simp] def zxT:zbG 4=true:=by decide
@[simp] def zxS:zbG 7=true:=by decide
noncomputable def oD:Option Int->D|none=>.non|some i=>.int i
noncomputable def zce(c:Nat)(g:Nat->Option Int):List D:=(List.range c).map fun j=>oD (g j)
def zcf(c:Nat)(g:Nat->Option Int):D:=.tup (zce c g)
noncomputable def zbY(r c:Nat)(g:Z1):List D:=(List.range r).map fun i=>zcf c (g i)
def flr(r c:Nat)(g:Z1):D:=.tup (zbY r c g)
@[simp] def zbH{c:Nat}{g:Nat->Option Int}:(zce c g).length=c:=by simp[zce]
@[simp] def zco{r c:Nat}{g:Z1}:(zbY r c g).length=r:=by simp[zbY]
def zbj{c j:Nat}{g:Nat->Option Int}(h:j<c):(zce c g)[j]?=some (oD (g j)):=by simp[zce,h]
def zbn{r c i:Nat}{g:Z1}(h:i<r):(zbY r c g)[i]?=some (zcf c (g i)):=by simp[zbY,h]
@[simp] def zsB{c j:Nat}{g:Nat->Option Int}(h:j<(zce c g).length):(zce c g)[j]=oD (g j):=by simp[zce]
@[simp] def zto{r c i:Nat}{g:Z1}(h:i<(zbY r c g).length):(zbY r c g)[i]=zcf c (g i):=by simp[zbY]
def zkz{k c:Nat}{g:Z1}:zbY (k+1) c g=zbY k c g++[zcf c (g k)]:=by simp[zbY,ybB]
noncomputable abbrev plD(i j:Nat):D:=.tup [.int i,.int j]
noncomputable def zcA(r c:Nat):List D:=(List.range r).flatMap fun i=>(List.range c).map fun j=>plD i j
def zgp{k c:Nat}:zcA (k+1) c=zcA k c++(List.range c).map fun j=>plD k j:=by simp[zcA,ybB]
def zc9{r c:Nat}{d:D}(h:d∈zcA r c):∃i j,i<r/\j<c/\d=plD i j:=by
 simp only[zcA,ybk,yaS,yay]at h;obtain⟨i,hi,j,hj,e⟩:=h;exact⟨i,j,hi,hj,e.symm⟩
def zfE{r c:Nat}:(zcA r c).length=r*c:=by
 induction r with
 |zero=>simp[zcA]|succ k ih=>rw[zgp,yao,ih];simp[ycg]
theorem zfz{r c:Nat}{g:Z1}{S:Sto}(h:1<=r):zbz [flr r c g] S=.ok (.tup [.int r,.int c]) S:=by
 have e:=zbn (c:=c) (g:=g) (i:=0) (r:=r) (by omega);simp[zbz,zap,zeL,flr,e,zcf,show 0<r by omega]
theorem zcV{r c:Nat}{g:Z1}{S:Sto}(h:1<=r)(hr:r<=100)(hc:c<=100):zaV [flr r c g] S=.ok (.lst (zcA r c)) S:=by
 have inner:∀(k:Nat) (y:Option (Bool×D)),k<r->∃y',zf1 (.one 4) zbM (zaA 0 c) [some (false,flr r c g),some (false,.tup [.int r,.int c]),some (true,.lst (zcA k c)),some (false,.int k),y] S
   = .nx [some (false,flr r c g),some (false,.tup [.int r,.int c]),some (true,.lst (zcA (k+1) c)),some (false,.int k),y'] S:=by
  intro k y hk
  obtain⟨ρ',e,y',rfl⟩:=zdv (tg:=.one 4) (body:=zbM) (ds:=zaA 0 c) (S:=S) (fun j ρ=>∃y,ρ=[some (false,flr r c g),some (false,.tup [.int r,.int c]),some (true,.lst (zcA k c++(List.range j).map fun j=>plD k j)),some (false,.int k),y]) (by
   rintro j d ρ hd ⟨y,rfl⟩;obtain⟨rfl,hj⟩:=zcE hd
   have hl:k*c+j<=100000:=by
    have:k*c<=100*100:=ybU (by omega) (by omega);omega
   refine⟨_,_,rfl,?_,some (false,.int j),rfl⟩
   simp[zbM,ybB,zfE,hl])
   (ρ:=[some (false,flr r c g),some (false,.tup [.int r,.int c]),some (true,.lst (zcA k c)),some (false,.int k),y]) ⟨y,by simp⟩
  refine⟨y',?_⟩;rw[e,zgp];simp
 obtain⟨ρ',e,x,y,rfl⟩:=zdv (tg:=.one 3) (body:=zcv) (ds:=zaA 0 r) (S:=S) (fun k ρ=>∃x y,ρ=[some (false,flr r c g),some (false,.tup [.int r,.int c]),some (true,.lst (zcA k c)),x,y]) (by
  rintro k d ρ hd ⟨x,y,rfl⟩;obtain⟨rfl,hk⟩:=zcE hd;obtain⟨y',e⟩:=inner k y (by omega);refine⟨_,_,rfl,?_,some (false,.int k),y',rfl⟩
  simp[zcv,e,show -1000000<=(c:Int)/\(c:Int)<=1000000 by omega])
  (ρ:=[some (false,flr r c g),some (false,.tup [.int r,.int c]),some (true,.lst []),none,none]) ⟨none,none,rfl⟩
 simp at e;simp[zaV,zap,zde,zfz h,e,show -1000000<=(r:Int)/\(r:Int)<=1000000 by omega]
def zdJ{r c i j:Nat}{g:Z1}{S:Sto}(hi:i<r)(hj:j<c):zaG [flr r c g,plD i j] S=.ok (oD (g i j)) S:=by
 simp[zaG,zap,zdf,flr,plD,zal,zbn hi,zbj hj,zcf]
def zgi{l:List D}{a b:Int}{S:Sto}:zaH [.tup l,.int a,.int b] S=.ok (.bl (decide (a<=l.length/\(l.length:Int)<=b))) S:=by
 by_cases h1:a<=(l.length:Int)
 ·by_cases h2:(l.length:Int)<=b<;>simp[zaH,zap,zbK,zd7,h1,h2]
 ·simp[zaH,zap,zbK,zd7,h1]
@[simp] def zxU{a b:Option Int}:eqD (oD a) (oD b)=some (.bl (decide (a=b))):=by
 cases a<;>cases b<;>simp[oD]
 ·rfl
 ·rfl
 ·rfl
@[simp] def zuK{a:Option Int}:zcy (oD a)=decide (a=none):=by cases a<;>simp[oD]
theorem zii{tg:Tg}{body:Fs}{S:Sto}{α:Type}(mk:List D->α->Env)(g:D->List D)(N:Nat):∀{ds:List D},(∀d∈ds,∀(L:List D) (x:α),L.length+(g d).length<=N->∃ρ1 x',tg.put (mk L x) d=some ρ1/\body ρ1 S=.nx (mk (L++g d) x') S) →
  ∀(L0:List D) (x0:α),L0.length+(ds.flatMap g).length<=N->∃x',zf1 tg body ds (mk L0 x0) S=.nx (mk (L0++ds.flatMap g) x') S
 |[],_,L0,x0,_=>⟨x0,by simp[zf1]⟩
 |d::ds,step,L0,x0,hN=>by
  rw[ybb,yao]at hN;obtain⟨ρ1,x',e1,e2⟩:=step d yaz L0 x0 (by omega);obtain⟨x2,e3⟩:=zii mk g N (ds:=ds) (fun d hd=>step d (yas _ hd)) (L0++g d) x' (by rw[yao];omega);refine⟨x2,?_⟩;unfold zf1;rw[e1];dsimp only;rw[e2];dsimp only;rw[e3,ybb,ycb]
def zhk{d:D}(h:d.pl=true)(f:d.fit 9=true):neD d d=some (.bl false):=by
 unfold neD zfa;rw[f,(zmX d d h h).mpr rfl];rfl
structure TOk(ts:Z2):Prop where
 four:∀t∈ts,t.length=4
 le:ts.length<=100
noncomputable def za5(ts:Z2)(n:Int)(s:Nat):Int:=(ts.getD n.toNat []).getD s 0
theorem zjj{ts:Z2}(ht:TOk ts){n:Int}(h0:0<=n)(h1:n<ts.length):atI (ts.map zaw) n=some (.tup ([za5 ts n 0,za5 ts n 1,za5 ts n 2,za5 ts n 3].map D.int)):=by
 rw[zfX h0,yar,yad (by omega)];have h4:=ht.four _ (ybF (show n.toNat<ts.length by omega))
 have e:ts.getD n.toNat []=ts[n.toNat]:=by rw[yab,yad (by omega)];rfl
 unfold za5;rw[e];generalize ts[n.toNat]=t at*
 match t,h4 with
 |[a,b,c,d],_=>rfl
def zei{i:Int}{S:Sto}:zaP [.int i] S=.ok (.bl true) S:=by simp[zaP,zap,zcY,zd7]
def zha{S:Sto}:zaP [.non] S=.ok (.bl false) S:=by simp[zaP,zap,zcY,zd7]
def zc2{ts:List D}{o:Option Int}{S:Sto}(h:∀x,o=some x->0<=x/\x<ts.length):zbh [.tup ts,oD o] S=.ok (.bl o.isSome) S:=by
 cases o with
 |none=>simp[zbh,zap,zb4,oD,zha]|some x=>obtain⟨h0,h1⟩:=h x rfl;simp[zbh,zap,zb4,oD,zei,h0,h1]
noncomputable def hp1:Fe:=zb5 leD ltD (zab (.int 0)) (zac ixD (zaf 1) (zab (.int 0))) (zac ixD (zaf 2) (zab (.int 0)))
noncomputable def hp2:Fe:=zb5 leD ltD (zab (.int 0)) (zac ixD (zaf 1) (zab (.int 1))) (zac ixD (zaf 2) (zab (.int 1)))
noncomputable def hpF:Fs:=(zai (sFz [1] (sIf (eOr (eUn zd6 (eFn zaH [(zad 1),(zab (.int 2)),(zab (.int 2))])) (eOr (eUn zd6 (eFn zaP [(zac ixD (zaf 1) (zab (.int 0)))])) (eUn zd6 (eFn zaP [(zac ixD (zaf 1) (zab (.int 1)))])))) (zai (sFz [] (za4 (zab (.bl false)))) sNx) sNx))
  (zai (sFz [0] (zbi 2 false (eFn zbz [(zad 0)]))) (zai (sFz [] (za4 (zf2 hp1 hp2))) sNx)))
def zqW:zdg=hpF:=rfl
def zci{r c:Nat}{g:Z1}{i j:Int}{S:Sto}(h1:1<=r):zaW [flr r c g,.tup [.int i,.int j]] S=.ok (.bl (decide ((0<=i/\i<r)/\0<=j/\j<c))) S:=by
 have ht:zaH [.tup [.int i,.int j],.int 2,.int 2] S=.ok (.bl true) S:=by rw[zgi];simp
 have sz:=zfz (c:=c) (g:=g) (S:=S) h1
 have t1:∀x,hp1 [x,some (false,.tup [.int i,.int j]),some (false,.tup [.int r,.int c])] S=.ok (.bl (decide (0<=i/\i<r))) S:=fun x=>by
  by_cases a:0<=i<;>simp[hp1,a]
 have t2:∀x,hp2 [x,some (false,.tup [.int i,.int j]),some (false,.tup [.int r,.int c])] S=.ok (.bl (decide (0<=j/\j<c))) S:=fun x=>by
  by_cases a:0<=j<;>simp[hp2,a]
 rw[Bool.decide_and];generalize decide (0<=i/\i<r)=b1 at*;generalize decide (0<=j/\j<c)=b2 at*;generalize flr r c g=fl at*;simp only[zaW,zap,zqW]
 cases b1<;>simp[hpF,ht,zei,sz,t1,t2]
noncomputable def InT(ts:Z2)(g:Z1):Prop:=∀i j x,g i j=some x->0<=x/\x<ts.length
noncomputable def cl2:Option Int->Option Int->Bool|some a,some b=>!decide (a=b)|_,_=>false
noncomputable def zmV(ts:Z2)(c:Nat)(t:List Int)(n:Int):Bool:=decide ((0<t.length % c->za5 ts (t.getLastD 0) 1=za5 ts n 3)/\(c<=t.length->za5 ts (t.getD (t.length-c) 0) 2=za5 ts n 0))
noncomputable def InR(ts:Z2)(t:List Int):Prop:=∀x∈t,0<=x/\x<ts.length
theorem zig{t:List Int}{n:Int}{m:Nat}:(t++[n]).getD m 0=if m<t.length then t.getD m 0 else if m=t.length then n else 0:=by
 simp only[yab]
 by_cases h:m<t.length
 ·rw[yaC h,if_pos h]
 ·rw[yat (by omega),if_neg h]
  by_cases e:m=t.length
  ·subst e;simp
  ·rw[if_neg e,yaB (by simp;omega)];rfl
noncomputable def unI:D->Int|.int i=>i|_=>0
def znK{c:Nat}:(List.replicate c [D.non]).flatten=zce c fun _=>none:=by
 simp[zce,oD,yb8,List.map_const']
def znL{r c:Nat}:(List.replicate r [D.tup (zce c fun _=>none)]).flatten=zbY r c fun _ _=>none:=by
 simp[zbY,zcf,yb8,List.map_const']
noncomputable def zwy:D->List D|.tup l=>l|_=>[]
def zoi(i:Nat)(ρ:Env)(l:List D)(d:D):Out D->Fo
 |.ok (.int n) S2=>(match ixN l.length n with|some k=>.nx (ρ.set i (some (true,.lst (l.set k d)))) S2|none=>.bad)
 |.ok _ _=>.bad|.exc c S2=>.ex c ρ S2|.bad=>.bad
noncomputable def zl0(i:Nat)(fi:Fe)(ρ:Env)(l:List D):Out D->Fo|.ok d S1=>zoi i ρ l d (fi ρ S1)|.exc c S1=>.ex c ρ S1|.bad=>.bad
noncomputable def zvE(i:Nat)(fi fe:Fe)(ρ:Env)(S:Sto):Option (Option (Bool×D))->Fo|some (some (true,.lst l))=>zl0 i fi ρ l (fe ρ S)|_=>.bad
noncomputable def ztb(und:Str->Str->Bool)(C:Str)(i j:Nat):Fo->Fo
 |.ex c ρ' S'=>if und c C&&decide (i<ρ'.length)then .nx ((ρ'.set j (some (false,.exc c))).set i none) S' else .bad
 |o=>o
section
variable{ρ:Env}{S:Sto}{f g:Fe}{a:Fs}
@[simp] def zr0{i:Nat}:zpO i f g ρ S=zvE i f g ρ S ρ[i]?:=by
 unfold zpO
 cases ρ[i]? with
 |none=>rfl|some o=>cases o with
  |none=>rfl|some p=>
   obtain⟨b,d⟩:=p
   cases b with
   |false=>rfl|true=>cases d with
    |lst l=>
     show _=zl0 i f ρ l (g ρ S)
     cases g ρ S with
     |ok d S1=>
      show _=zoi i ρ l d (f ρ S1);dsimp only
      cases f ρ S1 with
      |ok d' S2=>cases d'<;>rfl|exc c S2=>rfl|bad=>rfl
     |exc c S1=>rfl|bad=>rfl
    |_=>rfl
@[simp] def zxb{i:Nat}{l:List D}:zvE i f g ρ S (some (some (true,.lst l)))=zl0 i f ρ l (g ρ S):=(rfl)
@[simp] def zuT{i:Nat}{l:List D}{d:D}:zl0 i f ρ l (.ok d S)=zoi i ρ l d (f ρ S):=(rfl)
@[simp] def ztO{und:Str->Str->Bool}{C:Str}{i j:Nat}:zpN und C i j a ρ S=ztb und C i j (a ρ S):=(rfl)
@[simp] def zuS{und:Str->Str->Bool}{C:Str}{i j:Nat}:ztb und C i j (.nx ρ S)=.nx ρ S:=(rfl)
@[simp] def zuR{und:Str->Str->Bool}{C c:Str}{i j:Nat}:ztb und C i j (.ex c ρ S)=if und c C&&decide (i<ρ.length)then .nx ((ρ.set j (some (false,.exc c))).set i none) S else .bad:=(rfl)
@[simp] def zwj{w:Str->Str->Option Bool}{C c:Str}:zkn w C (.exc c)=(w c C).map .bl:=(rfl)
@[simp] def zt8{c:Str}:zcy (.exc c)=false:=(rfl)
@[simp] def zt7{l:List D}:zcy (.lst l)=false:=(rfl)
@[simp] def zuc{l:List D}{j:Int}:zsV (.lst l) (.int j)=if decide (0<=j/\j<=1000/\l.length<=1000)then some (.lst (List.replicate j.toNat l).flatten)else none:=(rfl)
end
noncomputable abbrev Gf:=Nat->Nat->Option Int
noncomputable def ov(g h:Gf):Gf:=fun i j=>(h i j).or (g i j)
noncomputable def un(g h:Gf):Gf:=fun i j=>if(h i j).isSome then none else g i j
noncomputable def tsC:List (List Int):=(List.range 16).map fun k:Nat=>[3*((k:Int) / 8 % 2)+(k:Int) / 4 % 2,3*((k:Int) / 4 % 2)+(k:Int) / 2 % 2,3*((k:Int) % 2)+(k:Int) / 2 % 2,3*((k:Int) / 8 % 2)+(k:Int) % 2]
def zq3:zbG 8=true:=by decide
def zq6:zbG 2=true:=by decide
def zq5:zbG 3=true:=by decide
def zeY{n:Int}{S:Sto}:zb0 [.int n] S=.ok (.tup [.int (n / 8 % 2),.int (n / 4 % 2),.int (n / 2 % 2),.int (n % 2)]) S:=by
 simp[zb0,zap,zcN]
def zep{a b c d:Int}{S:Sto}:zbI [.int a,.int b,.int c,.int d] S=.ok (.tup [.int (3*a+b),.int (3*b+c),.int (3*d+c),.int (3*a+d)]) S:=by
 simp[zbI,zap,zcs,zq5]
def zdK{a b c d:Int}{S:Sto}:zaX [.int a,.int b,.int c,.int d] S=.ok (.int (8*a+4*b+2*c+d)) S:=by
 simp[zaX,zap,zbT,zq3,zq6]
def zhb{n:Int}{S:Sto}:zcF [.int n] S=.ok (.tup [.int (3*(n / 8 % 2)+n / 4 % 2),.int (3*(n / 4 % 2)+n / 2 % 2),.int (3*(n % 2)+n / 2 % 2),.int (3*(n / 8 % 2)+n % 2)]) S:=by
 simp[zcF,zap,zeK,zeY,zep]
def zeZ{S:Sto}:zb1 [] S=.ok (.tup (tsC.map zaw)) S:=by
 have e:zaS (.one 0) zeM (eFn zcF [(zad 0)]) [none] (zaA 0 16) S=.ok (tsC.map zaw) S:=by
  rw[zeS (g:=fun d=>match d with|.int n=>.tup [.int (3*(n / 8 % 2)+n / 4 % 2),.int (3*(n / 4 % 2)+n / 2 % 2),.int (3*(n % 2)+n / 2 % 2),.int (3*(n / 8 % 2)+n % 2)]|_=>.non)]
  ·simp[tsC,zaA,zaw,ybu,Function.comp_def]
  ·intro d hd;obtain⟨k,rfl,hk⟩:=zgm hd;exact⟨_,rfl,by simp[zhb]⟩
 have hl:(tsC.map zaw).length=16:=by rfl
 generalize tsC.map zaw=L at*;simp[zb1,zap,zcO,e,hl]
def zo4:TOk tsC:=⟨by intro t h;obtain⟨k,_,rfl⟩:=yay.mp h;rfl,by decide⟩
def zfp:tsC.length=16:=by rfl
def zrT{x:Int}(h0:0<=x)(h1:x<16):za5 tsC x 0=3*(x / 8 % 2)+x / 4 % 2/\za5 tsC x 1=3*(x / 4 % 2)+x / 2 % 2/\za5 tsC x 2=3*(x % 2)+x / 2 % 2/\za5 tsC x 3=3*(x / 8 % 2)+x % 2:=by
 have e:tsC.getD x.toNat []=[3*(x / 8 % 2)+x / 4 % 2,3*(x / 4 % 2)+x / 2 % 2,3*(x % 2)+x / 2 % 2,3*(x / 8 % 2)+x % 2]:=by
  have hx:x.toNat<16:=by omega
  have hc:((x.toNat:Nat):Int)=x:=by omega
  simp[tsC,yab,hx,hc]
 unfold za5;rw[e];exact⟨rfl,rfl,rfl,rfl⟩
theorem zfS{α:Type}{tg:Tg}{elt:Fe}{ρ0:Env}{S:Sto}{mk out:α->D}:∀{xs:List α},(∀x∈xs,∃ρ1,tg.put ρ0 (mk x)=some ρ1/\elt ρ1 S=.ok (out x) S)->zaS tg zeM elt ρ0 (xs.map mk) S=.ok (xs.map out) S
 |[],_=>rfl|x::xs,h=>by
  obtain⟨ρ1,e1,e2⟩:=h x yaz;have ih:=zfS (xs:=xs) fun y hy=>h y (yas _ hy)
  rw[yaA,yaA];unfold zaS;rw[e1];simp[e2,ih]
noncomputable abbrev Kf:=Nat->Nat->Int
noncomputable abbrev someK(K:Kf):Nat->Nat->Option Int:=fun i j=>some (K i j)
noncomputable def zaQ(K:Kf):Kf:=fun i j=>8*K i j+4*K i (j+1)+2*K (i+1) (j+1)+K (i+1) j
def zmn{α:Type}{l:List α}:zdG l (some 1) none=l.drop 1:=by
 unfold zdG;rw[show(1:Int)=((1:Nat):Int)from rfl,HT.zg8];have h2:HT.sIx l.length l.length none=l.length:=rfl;rw[h2]
 cases l with
 |nil=>rfl|cons a l=>simp
def zky{r c:Nat}{g:Z1}:(zbY (r+1) c g).drop 1=zbY r c fun i=>g (i+1):=by
 apply yaV;intro i;rw[ybw]
 by_cases h:i<r
 ·rw[zbn (by omega),zbn h,Nat.add_comm]
 ·rw[yaB (by simp;omega),yaB (by simp;omega)]
def zla{r c:Nat}{g h:Z1}{m:Nat}(hm:r<=m):ze4 (zbY m c g) (zbY r c h)=(List.range r).map fun i=>.tup [zcf c (g i),zcf c (h i)]:=by
 apply yaV;intro i
 by_cases hi:i<r
 ·have:i<(ze4 (zbY m c g) (zbY r c h)).length:=by rw[zeb];simp;omega
  obtain⟨x,y,e1,e2,e3⟩:=zfo (yad this);rw[zbn (by omega)]at e1;rw[zbn hi]at e2;cases e1;cases e2;rw[yad this,e3];simp[hi]
 ·rw[yaB (by rw[zeb];simp;omega),yaB (by simp;omega)]
def zhe{c j:Nat}{a b:Nat->Int}{S:Sto}(hj:j<c):zaM [zcf (c+1) fun j=>some (a j),zcf (c+1) fun j=>some (b j),.int j] S=.ok (.int (8*a j+4*a (j+1)+2*b (j+1)+b j)) S:=by
 have aj:∀l:List D,atI l ((j:Int)+1)=l[j+1]?:=fun l=>zal l (j+1)
 have g1:(zce (c+1) fun j=>some (a j))[j]?=some (oD (some (a j))):=zbj (by omega);have g2:(zce (c+1) fun j=>some (a j))[j+1]?=some (oD (some (a (j+1)))):=zbj (by omega);have g3:(zce (c+1) fun j=>some (b j))[j+1]?=some (oD (some (b (j+1)))):=zbj (by omega);have g4:(zce (c+1) fun j=>some (b j))[j]?=some (oD (some (b j))):=zbj (by omega);simp only[oD]at g1 g2 g3 g4;unfold zcf;generalize (zce (c+1) fun j=>some (a j))=A at*;generalize (zce (c+1) fun j=>some (b j))=B at*;have e:zaX [.int (a j),.int (a (j+1)),.int (b (j+1)),.int (b j)] S=_:=zdK;simp[zaM,zap,zbD,zal,aj,g1,g2,g3,g4,e]
def zek{c:Nat}{a b:Nat->Int}{S:Sto}(hc:c<=1000):zbl [zcf (c+1) fun j=>some (a j),zcf (c+1) fun j=>some (b j)] S=.ok (zcf c fun j=>some (8*a j+4*a (j+1)+2*b (j+1)+b j)) S:=by
 have e:zaS (.one 0) zeM (eFn zaM [(zad 2),(zad 1),(zad 0)]) [none,some (false,zcf (c+1) fun j=>some (b j)),some (false,zcf (c+1) fun j=>some (a j))] (zaA 0 c) S=.ok (zce c fun j=>some (8*a j+4*a (j+1)+2*b (j+1)+b j)) S:=by
  rw[zeS (g:=fun d=>match d with|.int k=>.int (8*a k.toNat+4*a (k.toNat+1)+2*b (k.toNat+1)+b k.toNat)|_=>.non)]
  ·simp[zaA,zce,oD]
  ·intro d hd;obtain⟨k,rfl,hk⟩:=zgm hd;exact⟨_,rfl,by simp[zhe (show k<c by omega)]⟩
 have hl:c<=100000:=by omega
 have hlen:ze0 [zcf (c+1) fun j=>some (a j)]=some (.int ((c:Int)+1)):=by simp[zcf]
 generalize hA:(zcf (c+1) fun j=>some (a j))=A at*;generalize hB:(zcf (c+1) fun j=>some (b j))=B at*;simp[zbl,zap,zcq,hlen,e,hl,show -1000000<=(c:Int)/\(c:Int)<=1000000 by omega];rfl
def zcD{r c:Nat}{K:Kf}{S:Sto}(hr:r<=1000)(hc:c<=1000):zbN [flr (r+1) (c+1) (someK K)] S=.ok (flr r c (someK (zaQ K))) S:=by
 have z:ze4 (zbY (r+1) (c+1) (someK K)) (zdG (zbY (r+1) (c+1) (someK K)) (some 1) none)=(List.range r).map fun i=>.tup [zcf (c+1) (someK K i),zcf (c+1) (someK K (i+1))]:=by
  rw[zmn,zky,zla (by omega)]
 have e:zaS (.tup [0,1]) zeM (eFn zbl [(zad 0),(zad 1)]) [none,none] ((List.range r).map fun i=>.tup [zcf (c+1) (someK K i),zcf (c+1) (someK K (i+1))]) S=.ok (zbY r c (someK (zaQ K))) S:=by
  exact zfS fun i _=>⟨_,rfl,by simp[zek hc];rfl⟩
 have hl:r<=100000:=by omega
 simp only[flr]at z e ⊢;simp[zbN,zap,zdR,z,e,hl]
noncomputable def K01(K:Kf):Prop:=∀i j,0<=K i j/\K i j<=1
def zj4{K:Kf}(h:K01 K):InT tsC (someK (zaQ K)):=by
 intro i j x hx;cases hx;rw[zfp];have a:=h i j;have b:=h i (j+1);have c:=h (i+1) (j+1);have d:=h (i+1) j;unfold zaQ;omega
def zen{l:List Int}{at':Int}{r c:Nat}{S:Sto}(ha:0<=at')(hr:r<=100)(hc:c<=100):za9 [.scr l,.int at',.int r,.int c] S=.ok (flr (r+1) (c+1) (someK fun i j=>zbX l (at'+8*i+j) 2)) S:=by
 have row:∀(i:Nat),zaS (.one 0) zeM (eFn zaI [(zad 3),(zac zbC (zac zbC (zaf 1) (zac zdY (zab (.int 8)) (zaf 2))) (zaf 0)),(zab (.int 2))]) [none,some (false,.int at'),some (false,.int i),some (false,.scr l)] (zaA 0 ((c:Int)+1)) S=.ok (zce (c+1) fun j=>some (zbX l (at'+8*i+j) 2)) S:=by
  intro i
  have e0:zaA 0 ((c:Int)+1)=(List.range (c+1)).map fun j:Nat=>D.int j:=by
   unfold zaA;rw[show((c:Int)+1-0).toNat=c+1 by omega];simp
  rw[e0];refine zfS fun j _=>⟨_,rfl,?_⟩
  simp[zq3,zdn (show 0<=at'+8*(i:Int)+(j:Int)by omega) (show(0:Int)<2 by omega),oD]
 obtain⟨ρ',e,x,rfl⟩:=zdv (tg:=.one 5) (body:=zbe) (ds:=zaA 0 ((r:Int)+1)) (S:=S) (fun k ρ=>∃x,ρ=[some (false,.scr l),some (false,.int at'),some (false,.int r),some (false,.int c),some (true,.lst (zbY k (c+1) (someK fun i j=>zbX l (at'+8*i+j) 2))),x]) (by
  rintro k d ρ hd ⟨x,rfl⟩;obtain⟨rfl,hk⟩:=zcE hd;refine⟨_,_,rfl,?_,some (false,.int k),rfl⟩;have e:=row k
  have hl:k<=100000:=by omega
  have hc2:c+1<=100000:=by omega
  have hlen:(zce (c+1) fun j=>some (zbX l (at'+8*k+j) 2)).length=c+1:=zbH;have hlen2:(zbY k (c+1) (someK fun i j=>zbX l (at'+8*i+j) 2)).length=k:=zco;rw[zkz];unfold zcf;show zbe _ S=.nx [_,_,_,_,some (true,.lst (_++[.tup (zce (c+1) fun j=>some (zbX l (at'+8*k+j) 2))])),_] S;generalize (zce (c+1) fun j=>some (zbX l (at'+8*k+j) 2))=A at*;generalize zbY k (c+1) (someK fun i j=>zbX l (at'+8*i+j) 2)=B at*
  simp[zbe,e,hl,hc2,hlen,hlen2,show -1000000<=(c:Int)+1/\(c:Int)+1<=1000000 by omega])
  (ρ:=[some (false,.scr l),some (false,.int at'),some (false,.int r),some (false,.int c),some (true,.lst []),none]) ⟨none,rfl⟩
 have hk:(zaA 0 ((r:Int)+1)).length=r+1:=by rw[zgn];omega
 rw[hk]at e;unfold flr;generalize zbY (r+1) (c+1) (someK fun i j=>zbX l (at'+8*i+j) 2)=B at*;simp[za9,zap,zb9,e,show -1000000<=(r:Int)+1/\(r:Int)+1<=1000000 by omega]
def zvL(c f:Str):Out D->Out D|.ok d S=>(match zij c f d S with|some r=>.ok r S|none=>.bad)|.exc c S=>.exc c S|.bad=>.bad
noncomputable def zia(G:List D->Sto->Out D)(d:D):Out (List D)->Out D|.ok ds S=>G (d::ds) S|.exc c S=>.exc c S|.bad=>.bad
def zqN(c m:Str)(G:List D->Sto->Out D)(fs:List Fe)(ρ:Env):Out D->Out D|.ok d S=>if zcJ c m d S then zia G d (zaj fs ρ S)else .bad|.exc c S=>.exc c S|.bad=>.bad
noncomputable def zrO(n:Nat):Out D->Out D|.ok r S=>(match r with|.non=>.ok (.ref n) S|_=>.bad)|.exc c S=>.exc c S|.bad=>.bad
noncomputable def kMk(c:Str)(dds:List D)(G:List D->Sto->Out D):Out (List D)->Out D|.ok ds S=>zrO S.length (G (.ref S.length::(ds++dds)) (S++[⟨c,[]⟩]))|.exc c S=>.exc c S|.bad=>.bad
def zl2(c f:Str)(dk:D):Out D->Out D|.ok d S=>(match zh6 dk,zf3 c f d S with|some k,some (_,_,ds)=>.ok (.bl (zbg k ds).isNone) S|_,_=>.bad)|.exc c S=>.exc c S|.bad=>.bad
noncomputable def zvG(c f:Str)(fo:Fe)(ρ:Env):Out D->Out D|.ok d S=>zl2 c f d (fo ρ S)|.exc c S=>.exc c S|.bad=>.bad
def zvJ(c f:Str)(o:Option NK):Out D->Out D|.ok d S=>(match o,zf3 c f d S with|some k,some (_,_,ds)=>(match zbg k ds with|some r=>.ok r S|none=>.bad)|_,_=>.bad)|.exc c S=>.exc c S|.bad=>.bad
section
variable{ρ:Env}{S:Sto}{f g h k:Fe}
@[simp] def zur{c x:Str}:zeg c x f ρ S=zvL c x (f ρ S):=by unfold zeg;cases f ρ S<;>rfl
@[simp] def zxt{c x:Str}{d:D}:zvL c x (.ok d S)=(match zij c x d S with|some r=>.ok r S|none=>.bad):=(rfl)
@[simp] def zsb{c m:Str}{G:List D->Sto->Out D}{fs:List Fe}:zbp c m G f fs ρ S=zqN c m G fs ρ (f ρ S):=by
 unfold zbp
 cases f ρ S with
 |ok d S1=>
  show(if zcJ c m d S1 then(zaj fs ρ S1).bind fun ds S2=>G (d::ds) S2 else .bad)=(if zcJ c m d S1 then zia G d (zaj fs ρ S1)else .bad)
  cases zaj fs ρ S1<;>rfl
 |exc c S=>rfl|bad=>rfl
@[simp] def zvd{c m:Str}{G:List D->Sto->Out D}{fs:List Fe}{d:D}:zqN c m G fs ρ (.ok d S)=if zcJ c m d S then zia G d (zaj fs ρ S)else .bad:=(rfl)
@[simp] def zs2{G:List D->Sto->Out D}{d:D}{ds:List D}:zia G d (.ok ds S)=G (d::ds) S:=(rfl)
@[simp] def zwt{c:Str}{dds:List D}{G:List D->Sto->Out D}{fs:List Fe}:eMk c dds G fs ρ S=kMk c dds G (zaj fs ρ S):=by
 unfold eMk
 cases zaj fs ρ S with
 |ok ds S1=>
  show((G (.ref S1.length::(ds++dds)) (S1++[⟨c,[]⟩])).bind fun r S2=>match r with|.non=>.ok (.ref S1.length) S2|_=>.bad)=zrO S1.length (G (.ref S1.length::(ds++dds)) (S1++[⟨c,[]⟩]))
  cases G (.ref S1.length::(ds++dds)) (S1++[⟨c,[]⟩])<;>rfl
 |exc c S=>rfl|bad=>rfl
@[simp] def zyc{c:Str}{dds:List D}{G:List D->Sto->Out D}{ds:List D}:kMk c dds G (.ok ds S)=zrO S.length (G (.ref S.length::(ds++dds)) (S++[⟨c,[]⟩])):=(rfl)
@[simp] def zxh{n:Nat}:zrO n (.ok .non S)=.ok (.ref n) S:=(rfl)
@[simp] def zuo{c x:Str}:zmi c x f g ρ S=zvG c x g ρ (f ρ S):=by
 unfold zmi
 cases f ρ S with
 |ok d S1=>
  show((g ρ S1).bind fun d' S2=>match zh6 d,zf3 c x d' S2 with|some k,some (_,_,ds)=>.ok (.bl (zbg k ds).isNone) S2|_,_=>.bad)=zl2 c x d (g ρ S1)
  cases g ρ S1<;>rfl
 |exc c S=>rfl|bad=>rfl
@[simp] def zxf{c x:Str}{d:D}:zvG c x g ρ (.ok d S)=zl2 c x d (g ρ S):=(rfl)
@[simp] def zvc{c x:Str}{dk d:D}:zl2 c x dk (.ok d S)=(match zh6 dk,zf3 c x d S with|some k,some (_,_,ds)=>.ok (.bl (zbg k ds).isNone) S|_,_=>.bad):=(rfl)
@[simp] def zuq{c x:Str}{i:Nat}:zhy c x f i ρ S=zvJ c x (zjd ρ i) (f ρ S):=by unfold zhy;cases f ρ S<;>rfl
@[simp] def zxp{c x:Str}{d:D}{o:Option NK}:zvJ c x o (.ok d S)=(match o,zf3 c x d S with|some k,some (_,_,ds)=>(match zbg k ds with|some r=>.ok r S|none=>.bad)|_,_=>.bad):=(rfl)
end
noncomputable def wOb(T Gd Sz:D)(b:Bool)(ds:List (D×D)):Ob:=⟨"Ways",[("tiles",false,T),("ground",false,Gd),("size",false,Sz),("is_round",false,.bl b),("known",true,.dic ds)]⟩
def zqp(o:Option Int):oDn o=oD o:=by cases o<;>rfl
structure WAt(S:Sto)(n:Nat)(ts:Z2)(gr:Z4)(r c:Nat)(b:Bool)(ds:List (D×D)):Prop where
 at_:S[n]?=some (wOb (.tup (ts.map zaw)) (.lst (gr.map oD)) (.tup [.int r,.int c]) b ds)
section
variable{S:Sto}{n:Nat}{ts:Z2}{gr:Z4}{r c:Nat}{b:Bool}{ds:List (D×D)}
theorem WAt.tiles(h:WAt S n ts gr r c b ds):zij "Ways" "tiles" (.ref n) S=some (.tup (ts.map zaw)):=by
 unfold zij;dsimp only;rw[h.at_];rfl
theorem WAt.ground(h:WAt S n ts gr r c b ds):zij "Ways" "ground" (.ref n) S=some (.lst (gr.map oD)):=by
 unfold zij;dsimp only;rw[h.at_];rfl
theorem WAt.size(h:WAt S n ts gr r c b ds):zij "Ways" "size" (.ref n) S=some (.tup [.int r,.int c]):=by
 unfold zij;dsimp only;rw[h.at_];rfl
def WAt.round(h:WAt S n ts gr r c b ds):zij "Ways" "is_round" (.ref n) S=some (.bl b):=by
 unfold zij;dsimp only;rw[h.at_];rfl
theorem WAt.known(h:WAt S n ts gr r c b ds):zf3 "Ways" "known" (.ref n) S=some (n,wOb (.tup (ts.map zaw)) (.lst (gr.map oD)) (.tup [.int r,.int c]) b ds,ds):=by
 unfold zf3;dsimp only;rw[h.at_];rfl
def WAt.meth(h:WAt S n ts gr r c b ds)(m:Str)(hm:(m=="tiles")=false/\(m=="ground")=false/\(m=="size")=false/\(m=="is_round")=false/\(m=="known")=false):zcJ "Ways" m (.ref n) S=true:=by
 unfold zcJ;dsimp only;rw[h.at_];obtain⟨h1,h2,h3,h4,h5⟩:=hm;simp[wOb,yax,h1,h2,h3,h4,h5]
def WAt.len(h:WAt S n ts gr r c b ds):n<S.length:=(yaj.mp h.at_).1
def WAt.put(h:WAt S n ts gr r c b ds)(ds':List (D×D)):WAt (S.set n (wOb (.tup (ts.map zaw)) (.lst (gr.map oD)) (.tup [.int r,.int c]) b ds')) n ts gr r c b ds':=⟨by rw[yap h.len]⟩
def zbf(s:Z4):D:=.tup (s.map oD)
def zlp{k:Int}{s:Z4}:zh6 (.tup [.int k,zbf s])=some (k,s):=by
 have:zbf s=.tup (s.map oDn):=by unfold zbf;rw[show oDn=oD from funext zqp]
 rw[this];exact zds (k,s)
theorem zik{α:Type}{a:α}:∀m:Nat,(List.replicate m [a]).flatten=List.replicate m a
 |0=>rfl|m+1=>by rw[ya3,ybm,zik m,ya3];rfl
theorem zeX(h:WAt S n ts gr r c b ds)(hc:c<=100):za0 [.ref n] S=.ok (zbf (List.replicate (c+2) none)) S:=by
 have e:zdY (.tup [.non]) (.int ((c:Int)+2))=some (zbf (List.replicate (c+2) none)):=by
  show(if _ then _ else _)=_;rw[if_pos (by simp;omega),show((c:Int)+2).toNat=c+2 by omega,zik];simp[zbf,oD]
 simp[za0,zap,zbw,h.size,e]
theorem zdU{k:Nat}(h:WAt S n ts gr r c b ds)(hc:1<=c):zaD [.ref n,.int k] S=.ok (.bl (decide ((k+1) % c=0))) S:=by
 have e:(((k:Int)+1) % (c:Int))=(((k+1) % c:Nat):Int):=by rw[Int.natCast_emod];rfl
 have e3:(((k:Int)+1) % (c:Int)=0)=((k+1) % c=0):=propext (by rw[e];omega);simp[zaD,zap,zbV,h.size,show 0<c from hc,e3]
def crO(ts:Z2)(c k:Nat)(s:Z4)(x:Int):Option Int:=if k % c=0 then some (za5 ts x 3)else(s.getLastD none)
def zi9(ts:Z2)(L c:Nat)(b:Bool)(k:Nat)(s:Z4)(x:Int):List (Option Int):=
 (if(k+1) % c=0 then none else some (za5 ts x 1))::((s.drop 2).dropLast++[if L<=k+c then none else some (za5 ts x 2),if b&&!decide ((k+1) % c=0)then crO ts c k s x else none])
def tl(ts:Z2)(x:Int):D:=.tup [.int (za5 ts x 0),.int (za5 ts x 1),.int (za5 ts x 2),.int (za5 ts x 3)]
noncomputable def okO:Option Int->Int->Bool|none,_=>true|some a,y=>decide (a=y)
def zi0(ts:Z2)(c:Nat)(b:Bool)(k:Nat)(s:Z4)(x:Int):Bool:=
 okO (s.getD 0 none) (za5 ts x 3)&&okO (s.getD 1 none) (za5 ts x 0)&&(!b||!decide ((k+1) % c=0)||decide (some (za5 ts x 1)=crO ts c k s x))
def zgj{o:Option Int}{y:Int}:zeq [oD o,.int y] S=.ok (.bl (okO o y)) S:=by
 cases o<;>simp[zeq,zap,zhs,oD,okO]
theorem zkg{s:Z4}(h:s≠[]):atI (s.map oD) (-1)=some (oD (s.getLastD none)):=by
 have hl:0<s.length:=List.length_pos_iff.mpr h;unfold atI ixN;rw[yaf,if_neg (by omega),if_pos (by omega)];show(s.map oD)[(-1+(s.length:Int)).toNat]?=_;rw[show(-1+(s.length:Int)).toNat=s.length-1 by omega,yar,ybV,List.getLast?_eq_getElem?,yad (by omega)];rfl
theorem zcx{k:Nat}{s:Z4}{x:Int}(h:WAt S n ts gr r c b ds)(hc:1<=c)(hs:s.length=c+2):zam [.ref n,.int k,zbf s,tl ts x] S=.ok (oD (crO ts c k s x)) S:=by
 have e:((k:Int) % (c:Int))=((k % c:Nat):Int):=by rw[Int.natCast_emod]
 have e3:((k:Int) % (c:Int)=0)=(k % c=0):=propext (by rw[e];omega);have el:=zkg (s:=s) (by rintro rfl;simp at hs)
 by_cases z:k % c=0
 ·simp[zam,zap,zaK,h.size,show 0<c from hc,e3,z,crO,tl,oD]
 ·simp[zam,zap,zaK,h.size,show 0<c from hc,e3,z,crO,zbf,el]
theorem zoI{α:Type}{l:List α}(h:3<=l.length):zdG l (some 2) (some (-1))=(l.drop 2).dropLast:=by
 unfold zdG
 have e1:HT.sIx l.length 0 (some 2)=2:=by
  unfold HT.sIx;simp;omega
 have e2:HT.sIx l.length l.length (some (-1))=l.length-1:=by
  unfold HT.sIx;simp;omega
 rw[e1,e2,List.dropLast_eq_take,ybs];congr 1
noncomputable def sb6:Fe:=eIf (zad 4) (zab .non) (zac ixD (zaf 3) (zab (.int 1)))
noncomputable def sb7:Fe:=eIf (zad 5) (zab .non) (zac ixD (zaf 3) (zab (.int 2)))
noncomputable def sb8:Fe:=eIf (zf2 (zeg "Ways" "is_round" (zad 0)) (eUn zd6 (zad 4))) (zbp "Ways" "colour_round" zam (zad 0) [(zad 1),(zad 2),(zad 3)]) (zab .non)
noncomputable def sbF:Fs:=(zai (sFz [1] (zbi 4 false (zbp "Ways" "ends_row" zaD (zad 0) [(zad 1)])))
  (zai (sFz [] (zbi 5 false (zac geD (zac zbC (zaf 1) (zac ixD (zeg "Ways" "size" (zad 0)) (zab (.int 1)))) (zaR ze0 [(zeg "Ways" "ground" (zad 0))]))))
  (zai (sFz [4] (zbi 6 false sb6)) (zai (sFz [5] (zbi 7 false sb7)) (zai (sFz [4,1,2,3] (zbi 8 false sb8))
  (zai (sFz [6,7,8] (za4 (zac zbC (zac zbC (zcb [(zad 6)]) (eSl (zaf 2) (some (zab (.int 2))) (some (eUn zn7 (zab (.int 1)))))) (zcb [(zad 7),(zad 8)])))) sNx))))))
def zpM:zbo=sbF:=rfl
def zvQ{i j:Nat}{bb:Bool}{ρ:Env}{l:List D}{q:Int}{d:D}{S:Sto}(h1:ρ[i]?=some (some (false,.bl bb)))(h2:ρ[j]?=some (some (false,.tup l)))(h3:atI l q=some d):eIf (zad i) (zab .non) (zac ixD (zaf j) (zab (.int q))) ρ S=.ok (if bb then .non else d) S:=by
 cases bb<;>simp[h1,h2,h3]
theorem zxJ{k:Nat}{s:Z4}{x:Int}{bb:Bool}{ρ:Env}(h:WAt S n ts gr r c b ds)(hc:1<=c)(hs:s.length=c+2)(h0:ρ[0]?=some (some (false,.ref n)))(h1:ρ[1]?=some (some (false,.int k)))(h2:ρ[2]?=some (some (false,zbf s)))(h3:ρ[3]?=some (some (false,tl ts x)))(h4:ρ[4]?=some (some (false,.bl bb))):
  sb8 ρ S=.ok (if b&&!bb then oD (crO ts c k s x)else .non) S:=by
 have e2:=zcx (k:=k) (s:=s) (x:=x) h hc hs;have m2:=h.meth "colour_round" (by decide +kernel);generalize tl ts x=tt at*;generalize zbf s=sd at*;cases b
 ·simp[sb8,h0,h.round]
 ·cases bb<;>simp[sb8,h0,h1,h2,h3,h4,h.round,m2,e2]
theorem zej{k:Nat}{s:Z4}{x:Int}(h:WAt S n ts gr r c b ds)(hc:1<=c)(hc2:c<=100)(hs:s.length=c+2):zaT [.ref n,.int k,zbf s,tl ts x] S=.ok (zbf (zi9 ts gr.length c b k s x)) S:=by
 have e1:=zdU (k:=k) h hc;have m1:=h.meth "ends_row" (by decide +kernel);have eg:((gr.length:Int)<=(k:Int)+(c:Int))=(gr.length<=k+c):=propext (by omega)
 have ec:zdG (s.map oD) (some 2) (some (-1))=((s.drop 2).dropLast).map oD:=by
  rw[zoI (by rw[yaf];omega),List.map_dropLast,List.map_drop]
 have hl:((s.drop 2).dropLast).length<=100:=by rw[yco,ybs,hs];omega
 have E6:=fun(ρ:Env) (h4:ρ[4]?=some (some (false,.bl (decide ((k+1) % c=0))))) (h3:ρ[3]?=some (some (false,tl ts x)))=>(show sb6 ρ S=_ from zvQ (S:=S) (i:=4) (j:=3) (q:=1) (d:=.int (za5 ts x 1)) h4 h3 rfl)
 have E7:=fun(ρ:Env) (h4:ρ[5]?=some (some (false,.bl (decide (gr.length<=k+c))))) (h3:ρ[3]?=some (some (false,tl ts x)))=>(show sb7 ρ S=_ from zvQ (S:=S) (i:=5) (j:=3) (q:=2) (d:=.int (za5 ts x 2)) h4 h3 rfl)
 have E8:=fun(ρ:Env)=>zxJ (k:=k) (s:=s) (x:=x) (bb:=decide ((k+1) % c=0)) (ρ:=ρ) h hc hs
 have ef:zbf (zi9 ts gr.length c b k s x)=.tup ([if decide ((k+1) % c=0)then .non else .int (za5 ts x 1)]++((s.drop 2).dropLast).map oD++[if decide (gr.length<=k+c)then .non else .int (za5 ts x 2),if b&&!decide ((k+1) % c=0)then oD (crO ts c k s x)else .non]):=by
  unfold zi9 zbf
  by_cases z1:(k+1) % c=0<;>by_cases z2:gr.length<=k+c<;>cases b<;>simp[z1,z2,oD]
 rw[ef];clear ef;have hsd:zbf s=.tup (s.map oD):=rfl;rw[hsd]at E8 ⊢;generalize oD (crO ts c k s x)=cr at*;generalize ((s.drop 2).dropLast)=M at ec hl ⊢;generalize s.map oD=sd at*;generalize tl ts x=tt at*;generalize (if decide ((k+1) % c=0)then D.non else .int (za5 ts x 1))=d6 at*;generalize (if decide (gr.length<=k+c)then D.non else .int (za5 ts x 2))=d7 at*;generalize (if b&&!decide ((k+1) % c=0)then cr else .non)=d8 at*
 have l1:1+M.length<=100000:=by omega
 have l2:M.length+1+2<=100000:=by omega
 have l3:M.length+1+1+1<=100000:=by omega
 simp only[zaT,zap,zpM];simp[sbF,h.size,h.ground,m1,e1,eg,E6,E7,E8,ec,l1,l2,l3]
end
noncomputable def zh3(ts:Z2):Option Int->List Int|none=>(List.range ts.length).map fun(i:Nat)=>(i:Int)|some x=>[x]
theorem zn6{ts:Z2}{o:Option Int}(ho:∀x,o=some x->0<=x/\x<ts.length):∀x∈zh3 ts o,0<=x/\x<ts.length:=by
 intro x hx
 cases o with
 |none=>
  obtain⟨i,hi,rfl⟩:=yay.mp hx;have:=yaS.mp hi;omega
 |some y=>rw[yaO.mp hx];exact ho y rfl
section
variable{S:Sto}{n:Nat}{ts:Z2}{gr:Z4}{r c:Nat}{b:Bool}{ds:List (D×D)}
theorem zem{k:Nat}{o:Option Int}(h:WAt S n ts gr r c b ds)(ht:ts.length<=100)(hk:gr[k]?=some o)(ho:∀x,o=some x->0<=x/\x<ts.length):zaz [.ref n,.int k] S=.ok (.lst ((zh3 ts o).map D.int)) S:=by
 have e1:atI (gr.map oD) (k:Int)=some (oD o):=by rw[zal,yar,hk];rfl
 have e2:=zc2 (ts:=ts.map zaw) (o:=o) (S:=S) (fun x hx=>by simpa using ho x hx)
 cases o with
 |none=>
  have e3:lrD (.int (ts.length:Int))=some (.lst (((List.range ts.length).map fun(i:Nat)=>(i:Int)).map D.int)):=by
   show(if decide (0<=(ts.length:Int)/\(ts.length:Int)<=1000)=true then _ else none)=_;rw[if_pos (yaK ⟨by omega,by omega⟩),ya8,ybu];rfl
  simp[zaz,zap,zaU,h.ground,h.tiles,e1,oD,e3,zh3]
 |some x=>
  simp only[oD]at e2;simp[zaz,zap,zaU,h.ground,h.tiles,e1,oD,e2,zh3]
theorem zlt{k:Nat}{s:Z4}{x:Int}(h:WAt S n ts gr r c b ds)(hc:1<=c)(hs:s.length=c+2):zcl [.ref n,.int k,zbf s,tl ts x] S=.ok (.bl (zi0 ts c b k s x)) S:=by
 have e1:=zdU (k:=k) h hc;have e2:=zcx (k:=k) (s:=s) (x:=x) h hc hs;have m1:=h.meth "ends_row" (by decide +kernel);have m2:=h.meth "colour_round" (by decide +kernel);have m3:=h.meth "fits_round" (by decide +kernel);have tlE:tl ts x=.tup [.int (za5 ts x 0),.int (za5 ts x 1),.int (za5 ts x 2),.int (za5 ts x 3)]:=rfl
 have e3:zaC [.ref n,.int k,zbf s,tl ts x] S=.ok (.bl (!b||!decide ((k+1) % c=0)||decide (some (za5 ts x 1)=crO ts c k s x))) S:=by
  have eq:∀o:Option Int,eqD (.int (za5 ts x 1)) (oD o)=some (.bl (decide (some (za5 ts x 1)=o))):=by
   intro o
   cases o with
   |none=>rfl|some y=>simp[oD]
  rw[tlE]at e2 ⊢;generalize zbf s=sd at e2 ⊢;generalize crO ts c k s x=cr at e2 ⊢
  cases b with
  |false=>simp[zaC,zap,za2,h.round]|true=>by_cases z:(k+1) % c=0<;>simp[zaC,zap,za2,h.round,m1,m2,e1,e2,z,eq]
 have g0:(s.map oD)[0]?=some (oD (s.getD 0 none)):=by
  rw[yar,yab,yad (by omega)];rfl
 have g1:(s.map oD)[1]?=some (oD (s.getD 1 none)):=by
  rw[yar,yab,yad (by omega)];rfl
 have s0:=zgj (S:=S) (o:=s.getD 0 none) (y:=za5 ts x 3);have s1:=zgj (S:=S) (o:=s.getD 1 none) (y:=za5 ts x 0);unfold zi0;generalize (!b||!decide ((k+1) % c=0)||decide (some (za5 ts x 1)=crO ts c k s x))=rr at e3 ⊢;unfold zbf at e3 ⊢;generalize s.map oD=sd at e3 g0 g1 ⊢;generalize s.getD 0 none=q0 at g0 s0 ⊢;generalize s.getD 1 none=q1 at g1 s1 ⊢;rw[tlE]at e3 ⊢
 cases h0:okO q0 (za5 ts x 3)<;>cases h1:okO q1 (za5 ts x 0)<;>rw[h0]at s0<;>rw[h1]at s1 <;>
  simp[zcl,zap,zdk,g0,g1,s0,s1,m3,e3]
def chD(p:Int×List (Option Int)):D:=.tup [.int p.1,zbf p.2]
def chs(ts:Z2)(gr:Z4)(c:Nat)(b:Bool)(k:Nat)(s:Z4):List (Int×List (Option Int)):=
 ((zh3 ts (gr.getD k none)).filter (zi0 ts c b k s)).map fun x=>(x,zi9 ts gr.length c b k s x)
def chG(ts:Z2)(L c:Nat)(b:Bool)(k:Nat)(s:Z4):D->List D
 |.int x=>if zi0 ts c b k s x then[chD (x,zi9 ts L c b k s x)]else[]
 |_=>[]
theorem zfT{L:Nat}{k:Nat}{s:Z4}:∀l:List Int,(l.map D.int).flatMap (chG ts L c b k s)=((l.filter (zi0 ts c b k s)).map fun x=>(x,zi9 ts L c b k s x)).map chD
 |[]=>rfl|x::l=>by
  rw[yaA,ybb,zfT l,ycl];show(if zi0 ts c b k s x then[chD (x,zi9 ts L c b k s x)]else[])++_=_
  cases zi0 ts c b k s x<;>simp
theorem zhd{k:Nat}{s:Z4}(h:WAt S n ts gr r c b ds)(ht:TOk ts)(hk:k<gr.length)(hg:∀o∈gr,∀x,o=some x->0<=x/\x<ts.length)(hc:1<=c)(hc2:c<=100)(hs:s.length=c+2):
  zba [.ref n,.int k,zbf s] S=.ok (.lst ((chs ts gr c b k s).map chD)) S:=by
 have hk':gr[k]?=some (gr.getD k none):=by rw[yab,yad hk];rfl
 have ho:=hg _ (ybl hk');have e1:=zem h ht.le hk' ho;have m1:=h.meth "numbers_for" (by decide +kernel);have m2:=h.meth "fits" (by decide +kernel);have m3:=h.meth "seam_behind" (by decide +kernel);have hin:=zn6 ho
 have hlen:(zh3 ts (gr.getD k none)).length<=100:=by
  cases gr.getD k none with
  |none=>simp only[zh3,yaf,ybn];exact ht.le|some x=>simp[zh3]
 unfold chs;generalize zh3 ts (gr.getD k none)=nums at e1 hin hlen ⊢
 have fl:((nums.map D.int).flatMap (chG ts gr.length c b k s)).length<=100:=by
  rw[zfT,yaf,yaf];exact yan (ybx _ _) hlen
 obtain⟨x',e⟩:=zii (tg:=.one 4) (body:=zaN) (S:=S) (fun L (x:Option (Bool×D)×Option (Bool×D))=>[some (false,.ref n),some (false,.int k),some (false,zbf s),some (true,.lst L),x.1,x.2]) (chG ts gr.length c b k s) 50000 (ds:=nums.map D.int) (by
  intro d hd L x hL;obtain⟨y,hy,rfl⟩:=yay.mp hd;obtain⟨y0,y1⟩:=hin y hy;have et:=zjj ht y0 y1;have et':atI (ts.map zaw) y=some (tl ts y):=et;have ef:=zlt (k:=k) (s:=s) (x:=y) h hc hs;have eb:=zej (k:=k) (s:=s) (x:=y) h hc hc2 hs
  have hLs:L.length<=100000:=by omega
  refine⟨_,(some (false,.int y),some (false,tl ts y)),rfl,?_⟩;show zaN [some (false,.ref n),some (false,.int k),some (false,zbf s),some (true,.lst L),some (false,.int y),x.2] S=.nx [some (false,.ref n),some (false,.int k),some (false,zbf s),some (true,.lst (L++(if zi0 ts c b k s y then[chD (y,zi9 ts gr.length c b k s y)]else[]))),some (false,.int y),some (false,tl ts y)] S
  cases hf:zi0 ts c b k s y with
  |true=>
   rw[hf]at ef;simp[zaN,h.tiles,et',m2,ef,m3,eb,chD,hLs]
  |false=>
   rw[hf]at ef
   simp[zaN,h.tiles,et',m2,ef]) [] (none,none) (by simp only[List.length_nil];omega)
 rw[zfT]at e;simp only[List.nil_append]at e;generalize ((nums.filter (zi0 ts c b k s)).map fun x=>(x,zi9 ts gr.length c b k s x)).map chD=res at e ⊢;simp[zba,zap,zca,m1,e1,e]
end
def zh9(c x:Str)(i:Nat)(ρ:Env)(r:D):Out D->Fo
 |.bad=>.bad|.exc c S2=>.ex c ρ S2|.ok d S2=>(match zjd ρ i,zf3 c x d S2 with
   |some k,some (n,ob,ds)=>if(zbg k ds).isNone&&decide (ds.length<=1000000)&&zfc ob then .nx ρ (S2.set n (ob.put x true (.dic (ds++[(nkD k,r)]))))else .bad
   |_,_=>.bad)
noncomputable def zoj(c x:Str)(f:Fe)(i:Nat)(ρ:Env):Out D->Fo
 |.bad=>.bad|.exc c S2=>.ex c ρ S2|.ok r S1=>zh9 c x i ρ r (f ρ S1)
@[simp] def zr4{c x:Str}{f g:Fe}{i:Nat}{ρ:Env}{S:Sto}:zg7 c x f i g ρ S=zoj c x f i ρ (g ρ S):=by
 unfold zg7 zoj
 cases g ρ S with
 |ok r S1=>dsimp only;unfold zh9;cases f ρ S1<;>rfl|exc c S=>rfl|bad=>rfl
@[simp] def zu9{c x:Str}{f:Fe}{i:Nat}{ρ:Env}{S:Sto}{r:D}:zoj c x f i ρ (.ok r S)=zh9 c x i ρ r (f ρ S):=(rfl)
def zof{c x:Str}{i n:Nat}{ρ:Env}{S:Sto}{r d:D}{k:NK}{ob:Ob}{ds:List (D×D)}(hk:zjd ρ i=some k)(hd:zf3 c x d S=some (n,ob,ds))(h1:zbg k ds=none)(h2:ds.length<=1000000)(h3:zfc ob=true):zh9 c x i ρ r (.ok d S)=.nx ρ (S.set n (ob.put x true (.dic (ds++[(nkD k,r)])))):=by
 show(match zjd ρ i,zf3 c x d S with|some k,some (n,ob,ds)=>_|_,_=>_)=_;rw[hk,hd];show(if _ then _ else _)=_;rw[if_pos];rw[h1,h3,yaK h2];rfl
def zc1(ts:Z2)(gr:Z4)(c:Nat)(b:Bool):Nat->Nat->List (Option Int)->Nat
 |0,_,_=>1|m+1,k,s=>((chs ts gr c b k s).map fun p=>zc1 ts gr c b m (k+1) p.2).sum
noncomputable def zc7(q:Nat):Nat->Nat
 |0=>0|m+1=>1+q*zc7 q m
theorem zdD{k:NK}{q d:D}:∀ds:List (D×D),zbg k (ds++[(q,d)])=(zbg k ds).or (if zh6 q=some k then some d else none)
 |[]=>by show(if _ then _ else _)=_;simp[zbg]
 |(q',d')::ds=>by
  show(if zh6 q'=some k then some d' else zbg k (ds++[(q,d)]))=_;rw[zdD ds];show _=(if zh6 q'=some k then some d' else zbg k ds).or _
  split<;>simp
noncomputable def zrX(ts:Z2)(gr:Z4)(c:Nat)(b:Bool)(ds:List (D×D)):Prop:=∀(k:Nat) s d,zbg ((k:Int),s) ds=some d->d=.int (zc1 ts gr c b (gr.length-k) k s)
def zfw{S:Sto}{n:Nat}{ob:Ob}(h:S[n]?=some ob):S.set n ob=S:=by
 obtain⟨hn,e⟩:=yaj.mp h;apply yaV;intro i
 by_cases z:n=i
 ·subst z;rw[yap hn,h]
 ·rw[yaE z]
def zkO{ts:Z2}{gr:Z4}{c:Nat}{b:Bool}{k:Nat}{s:Z4}(h1:1<=ts.length):(chs ts gr c b k s).length<=ts.length:=by
 unfold chs;rw[yaf];refine yan (ybx _ _) ?_
 cases gr.getD k none with
 |none=>simp[zh3]|some x=>simpa[zh3]using h1
theorem zkU{ts:Z2}{L c:Nat}{b:Bool}{k:Nat}{s:Z4}{x:Int}(hc:1<=c)(hs:s.length=c+2):(zi9 ts L c b k s x).length=c+2:=by
 unfold zi9;rw[yae,yao,yco,ybs,hs];simp only[yae,List.length_nil];omega
def zmp{ts:Z2}{gr:Z4}{c:Nat}{b:Bool}{k:Nat}{s:Z4}(hc:1<=c)(hs:s.length=c+2):∀p∈chs ts gr c b k s,p.2.length=c+2:=by
 intro p hp;obtain⟨x,_,rfl⟩:=yay.mp hp;exact zkU hc hs
theorem zje{α:Type}{f:α->Nat}{m:Nat}:∀{l:List α},(∀x∈l,f x<=m)->(l.map f).sum<=l.length*m
 |[],_=>by simp
 |x::l,h=>by
  have h1:=h x yaz;have h2:=zje (l:=l) fun y hy=>h y (yas _ hy)
  rw[yaA,ycs,yae,Nat.add_mul];omega
theorem zjf{ts:Z2}{gr:Z4}{c:Nat}{b:Bool}(h1:1<=ts.length):∀m k s,zc1 ts gr c b m k s<=ts.length ^ m
 |0,_,_=>by simp[zc1]
 |m+1,k,s=>by
  unfold zc1;refine yan (zje fun p _=>zjf h1 m (k+1) p.2) ?_;rw[Nat.pow_succ,yaX];exact Nat.mul_le_mul_left _ (zkO h1)
structure CfOk(n:Nat)(ts:Z2)(gr:Z4)(r c:Nat)(b:Bool)(m:Nat)(rc:List D->Sto->Out D):Prop where
 run:∀(S:Sto) (ds:List (D×D)) (k:Nat) (s:Z4),WAt S n ts gr r c b ds->zrX ts gr c b ds->k+m=gr.length->s.length=c+2->ds.length+zc7 ts.length m<=1000000 →
  ∃ds',rc [.ref n,.int k,zbf s] S=.ok (.int (zc1 ts gr c b m k s)) (S.set n (wOb (.tup (ts.map zaw)) (.lst (gr.map oD)) (.tup [.int r,.int c]) b ds'))/\zrX ts gr c b ds'/\ds'.length<=ds.length+zc7 ts.length m/\∀k' s',k'<k->zbg (((k':Nat):Int),s') ds'=zbg (((k':Nat):Int),s') ds
section
variable{n:Nat}{ts:Z2}{gr:Z4}{r c:Nat}{b:Bool}
theorem zis{m k:Nat}{rc:List D->Sto->Out D}(C:CfOk n ts gr r c b m rc)(hk:k+1+m=gr.length):∀(l:List (Int×List (Option Int))) (S:Sto) (ds:List (D×D)),(∀p∈l,p.2.length=c+2)->WAt S n ts gr r c b ds->zrX ts gr c b ds->ds.length+l.length*zc7 ts.length m<=1000000 →
  ∃ds',zaS (.one 0) zeM (zbp "Ways" "count_from" rc (zad 1) [(zac zbC (zaf 2) (zab (.int 1))),(zac ixD (zaf 0) (zab (.int 1)))]) [none,some (false,.ref n),some (false,.int k)] (l.map chD) S
   = .ok (l.map fun p=>.int (zc1 ts gr c b m (k+1) p.2)) (S.set n (wOb (.tup (ts.map zaw)) (.lst (gr.map oD)) (.tup [.int r,.int c]) b ds'))/\zrX ts gr c b ds'/\ds'.length<=ds.length+l.length*zc7 ts.length m/\∀k' s',k'<k+1->zbg (((k':Nat):Int),s') ds'=zbg (((k':Nat):Int),s') ds
 |[],S,ds,_,W,M,_=>⟨ds,by rw[zfw W.at_];rfl,M,by simp,fun _ _ _=>rfl⟩
 |p::l,S,ds,hl,W,M,hz=>by
  rw[yae,Nat.add_mul]at hz;obtain⟨ds1,e1,M1,z1,u1⟩:=C.run S ds (k+1) p.2 W M hk (hl p yaz) (by omega);obtain⟨ds2,e2,M2,z2,u2⟩:=zis C hk l _ ds1 (fun q hq=>hl q (yas _ hq)) (W.put ds1) M1 (by omega);refine⟨ds2,?_,M2,by rw[yae,Nat.add_mul];omega,fun k' s' hk'=>(u2 k' s' hk').trans (u1 k' s' hk')⟩;rw[List.set_set]at e2;have mo:=W.meth "count_from" (by decide +kernel);have e1':rc [.ref n,.int ((k:Int)+1),zbf p.2] S=_:=e1;unfold zaS;rw[yaA];dsimp only;generalize hob:wOb (.tup (ts.map zaw)) (.lst (gr.map oD)) (.tup [.int r,.int c]) b ds1=ob1 at*;simp[chD,mo,e1',e2]
def zoK{f:Nat}:CfOk n ts gr r c b 0 (zlw 4 false zag (f+1))where
 run:=fun S ds k s W M hk hs hz=>by
  refine⟨ds,?_,M,Nat.le_add_right _ _,fun _ _ _=>rfl⟩;rw[zfw W.at_]
  have hk':k=gr.length:=by omega
  subst hk';show zbt 4 false (zag _) _ _=_;simp[zap,zag,W.ground,zc1]
theorem zoL{m f:Nat}(C:CfOk n ts gr r c b m (zlw 4 false zag f))(ht:TOk ts)(h1:1<=ts.length)(hg:∀o∈gr,∀x,o=some x->0<=x/\x<ts.length)(hc:1<=c)(hc2:c<=100)(hp:ts.length ^ m<=1000000):CfOk n ts gr r c b (m+1) (zlw 4 false zag (f+1))where
 run:=fun S ds k s W M hk hs hz=>by
  have hkl:k<gr.length:=by omega
  have hne:decide ((k:Int)=(gr.length:Int))=false:=yaN (by omega);have ek:=zlp (k:=(k:Int)) (s:=s);show ∃ds',zbt 4 false (zag _) _ _=_/\_;generalize zlw 4 false zag f=rc at C
  cases hd:zbg ((k:Int),s) ds with
  |some d=>
   have hd':=M k s d hd;rw[show gr.length-k=m+1 by omega]at hd';subst hd';refine⟨ds,?_,M,Nat.le_add_right _ _,fun _ _ _=>rfl⟩;rw[zfw W.at_];generalize zbf s=sd at ek;generalize zc1 ts gr c b (m+1) k s=cc at hd;simp[zap,zag,W.ground,W.known,hne,ek,hd,zjd]
  |none=>
   have hcl:=zkO (gr:=gr) (c:=c) (b:=b) (k:=k) (s:=s) h1;have hmul:(chs ts gr c b k s).length*zc7 ts.length m<=ts.length*zc7 ts.length m:=ycp _ hcl;have hz':ds.length+(1+ts.length*zc7 ts.length m)<=1000000:=hz;have ech:=zhd (k:=k) (s:=s) W ht hkl hg hc hc2 hs;obtain⟨ds1,e1,M1,z1,u1⟩:=zis C (k:=k) (by omega) (chs ts gr c b k s) S ds (zmp hc hs) W M (by omega);have hd1:zbg ((k:Int),s) ds1=none:=(u1 k s (ybW k)).trans hd
   have hsum:zoU [.lst ((chs ts gr c b k s).map fun p=>D.int (zc1 ts gr c b m (k+1) p.2:Nat))]=some (.int (zc1 ts gr c b (m+1) k s:Nat)):=by
    have ei:∀l:List (Int×List (Option Int)),zc5 (l.map fun p=>D.int (zc1 ts gr c b m (k+1) p.2:Nat))=some (l.map fun p=>((zc1 ts gr c b m (k+1) p.2:Nat):Int)):=by
     intro l
     induction l with
     |nil=>rfl|cons p l ih=>rw[yaA,yaA];simp[zc5,ih]
    have es:∀l:List (Int×List (Option Int)),(l.map fun p=>((zc1 ts gr c b m (k+1) p.2:Nat):Int)).sum=(((l.map fun p=>zc1 ts gr c b m (k+1) p.2).sum:Nat):Int):=by
     intro l
     induction l with
     |nil=>rfl|cons p l ih=>rw[yaA,yaA,ycs,ycs,ih,Int.natCast_add]
    show(zc5 _).bind _=_;rw[ei];show(if _ then some (D.int _)else none)=_;rw[if_pos,es]
    ·rfl
    ·rw[yac];refine⟨yaK (by rw[yaf];exact yan hcl (yan ht.le (by decide))),?_⟩;rw[ybj];intro x hx;obtain⟨p,_,rfl⟩:=yay.mp hx;have:=zjf (gr:=gr) (c:=c) (b:=b) h1 m (k+1) p.2;exact yaK (by omega)
   have W1:=W.put ds1;have mo:=W.meth "choices" (by decide +kernel);have hlen:(chs ts gr c b k s).length<=100000:=yan hcl (yan ht.le (by decide))
   have hnd:zfc (wOb (.tup (ts.map zaw)) (.lst (gr.map oD)) (.tup [.int r,.int c]) b ds1)=true:=by
    unfold zfc;show decide ((["tiles","ground","size","is_round","known"]:List Str).Nodup)=true;decide +kernel
   have hput:(wOb (.tup (ts.map zaw)) (.lst (gr.map oD)) (.tup [.int r,.int c]) b ds1).put "known" true (.dic (ds1++[(nkD ((k:Int),s),.int (zc1 ts gr c b (m+1) k s:Nat))]))=wOb (.tup (ts.map zaw)) (.lst (gr.map oD)) (.tup [.int r,.int c]) b (ds1++[(nkD ((k:Int),s),.int (zc1 ts gr c b (m+1) k s:Nat))]):=by rfl
   refine⟨ds1++[(nkD ((k:Int),s),.int (zc1 ts gr c b (m+1) k s:Nat))],?_,?_,?_,?_⟩
   ·have W2:=W.put (ds1++[(nkD ((k:Int),s),.int (zc1 ts gr c b (m+1) k s:Nat))])
    have hl2:zbg ((k:Int),s) (ds1++[(nkD ((k:Int),s),.int (zc1 ts gr c b (m+1) k s:Nat))])=some (.int (zc1 ts gr c b (m+1) k s:Nat)):=by
     rw[zdD,hd1,zds,if_pos rfl];rfl
    generalize hres:(chs ts gr c b k s).map (fun p=>D.int (zc1 ts gr c b m (k+1) p.2:Nat))=res at e1 hsum
    have hrl:res.length<=100000:=by rw[<-hres,yaf];exact hlen
    have hkey:zjd [some (false,D.ref n),some (false,.int k),some (false,zbf s),some (false,.tup [.int k,zbf s])] 3=some ((k:Int),s):=ek;have hpk:=zof (r:=.int (zc1 ts gr c b (m+1) k s:Nat)) hkey W1.known hd1 (by omega) hnd;rw[hput,List.set_set]at hpk;have hkn:=W2.known;have hkn0:=W.known;have hgr:=W.ground;generalize wOb (.tup (ts.map zaw)) (.lst (gr.map oD)) (.tup [.int r,.int c]) b (ds1++[(nkD ((k:Int),s),.int (zc1 ts gr c b (m+1) k s:Nat))])=ob2 at hpk hkn ⊢;generalize wOb (.tup (ts.map zaw)) (.lst (gr.map oD)) (.tup [.int r,.int c]) b ds1=ob1 at hpk e1;generalize ds1++[(nkD ((k:Int),s),D.int (zc1 ts gr c b (m+1) k s:Nat))]=ds2 at hkn hl2;generalize zc1 ts gr c b (m+1) k s=vv at hsum hpk hl2 ⊢;generalize zbf s=sd at ek ech hkey hpk ⊢;generalize (chs ts gr c b k s).map chD=cs at ech e1;simp[zap,zag,hgr,hkn0,hne,ek,hd,mo,ech,e1,hrl,hsum,hpk,hkey,hkn,hl2]
   ·intro k' s' d h';rw[zdD]at h'
    cases h2:zbg ((k':Int),s') ds1 with
    |some d'=>rw[h2]at h';cases h';exact M1 k' s' _ h2|none=>
     rw[h2,zds]at h';have h'':(if some ((k:Int),s)=some ((k':Int),s')then some (D.int (zc1 ts gr c b (m+1) k s:Nat))else none)=some d:=h';split at h''
     ·rename_i ee;cases h'';have ee':=Option.some.inj ee
      have ek':k=k':=by have z:(k:Int)=(k':Int):=congrArg Prod.fst ee';omega
      have es':s=s':=congrArg Prod.snd ee';subst ek';subst es';rw[show gr.length-k=m+1 by omega]
     ·cases h''
   ·rw[yao,yba];show _<=ds.length+(1+ts.length*zc7 ts.length m);omega
   ·intro k' s' hk';rw[zdD,u1 k' s' (by omega),zds,if_neg]
    ·cases zbg ((k':Int),s') ds<;>rfl
    ·intro z;have:=congrArg Prod.fst (Option.some.inj z);simp at this;omega
end
def zic(c x:Str)(ρ:Env)(r:D):Out D->Fo
 |.bad=>.bad|.exc c S2=>.ex c ρ S2|.ok (.ref n) S2=>(match S2[n]? with
   |some ob=>if decide (ob.cls=c)&&decide (ob.fs.length<1000)then .nx ρ (S2.set n (ob.put x false r))else .bad
   |none=>.bad)
 |.ok _ _=>.bad
noncomputable def zon(c x:Str)(f:Fe)(ρ:Env):Out D->Fo
 |.bad=>.bad|.exc c S2=>.ex c ρ S2|.ok r S1=>zic c x ρ r (f ρ S1)
@[simp] def zr5{c x:Str}{f g:Fe}{ρ:Env}{S:Sto}:zfx c x f g ρ S=zon c x f ρ (g ρ S):=by
 unfold zfx zon
 cases g ρ S with
 |ok r S1=>
  dsimp only;unfold zic
  cases f ρ S1 with
  |ok d S2=>cases d<;>rfl|exc c S=>rfl|bad=>rfl
 |exc c S=>rfl|bad=>rfl
@[simp] def zvl{c x:Str}{f:Fe}{ρ:Env}{S:Sto}{r:D}:zon c x f ρ (.ok r S)=zic c x ρ r (f ρ S):=(rfl)
def zog{c x:Str}{n:Nat}{ρ:Env}{S:Sto}{r:D}{fs:List (Str×Bool×D)}(h:fs.length<1000)(hn:S.length=n):zic c x ρ r (.ok (.ref n) (S++[⟨c,fs⟩]))=.nx ρ (S++[⟨c,zaB x false r fs⟩]):=by
 subst hn;show(match(S++[(⟨c,fs⟩:Ob)])[S.length]? with|some ob=>_|none=>_)=_;rw[yat (yal _),ybC];show(if _ then Fo.nx ρ ((S++[(⟨c,fs⟩:Ob)]).set S.length _)else _)=_;rw[if_pos,List.set_append_right _ _ (yal _),ybC]
 ·rfl
 ·rw[yac];exact⟨yaK rfl,yaK h⟩
def znf{c x:Str}{n i:Nat}{ρ:Env}{S:Sto}{fs:List (Str×Bool×D)}(hi:ρ[i]?=some (some (false,.ref n)))(h:fs.length<1000)(hn:S.length=n):ziI c x i ρ (S++[⟨c,fs⟩])=.nx ρ (S++[⟨c,zaB x true (.dic []) fs⟩]):=by
 subst hn;unfold ziI;rw[hi];show(match(S++[(⟨c,fs⟩:Ob)])[S.length]? with|some ob=>_|none=>_)=_;rw[yat (yal _),ybC];show(if _ then Fo.nx ρ ((S++[(⟨c,fs⟩:Ob)]).set S.length _)else _)=_;rw[if_pos,List.set_append_right _ _ (yal _),ybC]
 ·rfl
 ·rw[yac];exact⟨yaK rfl,yaK h⟩
theorem zcH{x:Str}{o:Bool}{d:D}:∀{gs:List (Str×Bool×D)},(zaB x o d gs).length<=gs.length+1
 |[]=>by simp[zaB]
 |(y,z)::gs=>by
  unfold zaB;split
  ·simp
  ·have:=zcH (x:=x) (o:=o) (d:=d) (gs:=gs);simp only[yae];omega
noncomputable def zas(r c:Nat)(g:Z1):List (Option Int):=(List.range r).flatMap fun i=>(List.range c).map fun j=>g i j
noncomputable def zwY(g:Z1):D->D|.tup [.int i,.int j]=>oD (g i.toNat j.toNat)|_=>.non
def zff{r c:Nat}{g:Z1}:(zcA r c).map (zwY g)=(zas r c g).map oD:=by
 unfold zcA zas;rw[ycm,ycm];congr 1;funext i;rw[ybu,ybu];rfl
def za1{r c:Nat}{g:Z1}:(zas r c g).length=r*c:=by
 have:=congrArg List.length (zff (r:=r) (c:=c) (g:=g));rw[yaf,yaf,zfE]at this;exact this.symm
theorem zls{r c:Nat}{g:Z1}{T:D}{b:Bool}{S:Sto}(h1:1<=r)(hr:r<=100)(hc:c<=100):
  zaY [.ref S.length,T,flr r c g,.bl b] (S++[⟨"Ways",[]⟩])=.ok .non (S++[wOb T (.lst ((zas r c g).map oD)) (.tup [.int r,.int c]) b []]):=by
 have e1:∀S',zaV [flr r c g] S'=.ok (.lst (zcA r c)) S':=fun S'=>zcV h1 hr hc
 have e2:∀S',zbz [flr r c g] S'=.ok (.tup [.int r,.int c]) S':=fun S'=>zfz h1
 have e3:∀S',zaS (.one 0) zeM (eFn zaG [(zad 1),(zad 0)]) [none,some (false,flr r c g)] (zcA r c) S'=.ok ((zas r c g).map oD) S':=fun S'=>by
  rw[<-zff];refine zeS fun d hd=>?_
  obtain⟨i,j,hi,hj,rfl⟩:=zc9 hd;refine⟨_,rfl,?_⟩;have:=zdJ (g:=g) (S:=S') hi hj;simp[this];rfl
 have hl:((zas r c g).map oD).length<=100000:=by
  rw[yaf,za1];exact yan (ybU hr hc) (by decide)
 generalize (zas r c g).map oD=gl at e3 hl;generalize flr r c g=fl at*;have l1:=zcH (x:="tiles") (o:=false) (d:=T) (gs:=[]);have l2:=zcH (x:="ground") (o:=false) (d:=.lst gl) (gs:=zaB "tiles" false T []);have l3:=zcH (x:="size") (o:=false) (d:=.tup [.int r,.int c]) (gs:=zaB "ground" false (.lst gl) (zaB "tiles" false T []));have l4:=zcH (x:="is_round") (o:=false) (d:=.bl b) (gs:=zaB "size" false (.tup [.int r,.int c]) (zaB "ground" false (.lst gl) (zaB "tiles" false T [])));have p1:=fun(x:Str) (ρ:Env) (d:D) (fs:List (Str×Bool×D)) (h:fs.length<1000)=>zog (c:="Ways") (x:=x) (ρ:=ρ) (S:=S) (r:=d) (fs:=fs) h rfl
 have l0:([]:List (Str×Bool×D)).length=0:=rfl;have p2:=znf (c:="Ways") (x:="known") (i:=0) (ρ:=[some (false,.ref S.length),some (false,T),some (false,fl),some (false,.bl b)]) (S:=S) (n:=S.length) (fs:=zaB "is_round" false (.bl b) (zaB "size" false (.tup [.int r,.int c]) (zaB "ground" false (.lst gl) (zaB "tiles" false T [])))) rfl (by omega) rfl;have q1:=p1 "tiles" [some (false,.ref S.length),some (false,T),some (false,fl),some (false,.bl b)] T [] (by omega);have q2:=p1 "ground" [some (false,.ref S.length),some (false,T),some (false,fl),some (false,.bl b)] (.lst gl) (zaB "tiles" false T []) (by omega);have q3:=p1 "size" [some (false,.ref S.length),some (false,T),some (false,fl),some (false,.bl b)] (.tup [.int r,.int c]) (zaB "ground" false (.lst gl) (zaB "tiles" false T [])) (by omega);have q4:=p1 "is_round" [some (false,.ref S.length),some (false,T),some (false,fl),some (false,.bl b)] (.bl b) (zaB "size" false (.tup [.int r,.int c]) (zaB "ground" false (.lst gl) (zaB "tiles" false T []))) (by omega);clear l1 l2 l3 l4 l0
 have fin:(⟨"Ways",zaB "known" true (.dic []) (zaB "is_round" false (.bl b) (zaB "size" false (.tup [.int r,.int c]) (zaB "ground" false (.lst gl) (zaB "tiles" false T []))))⟩:Ob)=wOb T (.lst gl) (.tup [.int r,.int c]) b []:=by rfl
 rw[fin]at p2;generalize zaB "is_round" false (.bl b) (zaB "size" false (.tup [.int r,.int c]) (zaB "ground" false (.lst gl) (zaB "tiles" false T [])))=f4 at*;generalize zaB "size" false (.tup [.int r,.int c]) (zaB "ground" false (.lst gl) (zaB "tiles" false T []))=f3 at*;generalize zaB "ground" false (.lst gl) (zaB "tiles" false T [])=f2 at*;generalize zaB "tiles" false T []=f1 at*;generalize wOb T (.lst gl) (.tup [.int r,.int c]) b []=ob at*;simp[zaY,zap,zbW,e1,e2,e3,hl,q1,q2,q3,q4,p2]
theorem zm7{n:Nat}{ts:Z2}{gr:Z4}{r c:Nat}{b:Bool}(ht:TOk ts)(h1:1<=ts.length)(hg:∀o∈gr,∀x,o=some x->0<=x/\x<ts.length)(hc:1<=c)(hc2:c<=100):∀m f,m+1<=f->ts.length ^ m<=1000000->CfOk n ts gr r c b m (zlw 4 false zag f)
 |0,f+1,_,_=>zoK|m+1,f+1,hf,hp=>by
  have hp':ts.length ^ m<=1000000:=yan (Nat.pow_le_pow_right h1 (ycd m)) hp;exact zoL (zm7 ht h1 hg hc hc2 m f (by omega) hp') ht h1 hg hc hc2 hp'
theorem zfC{n:Nat}{ts:Z2}{gr:Z4}{r c:Nat}{b:Bool}{S:Sto}(W:WAt S n ts gr r c b [])(ht:TOk ts)(h1:1<=ts.length)(hg:∀o∈gr,∀x,o=some x->0<=x/\x<ts.length)(hc:1<=c)(hc2:c<=100)(hm:gr.length<=30)(hp:ts.length ^ gr.length<=1000000)(hq:zc7 ts.length gr.length<=1000000):
  ∃ds',zbc [.ref n] S=.ok (.int (zc1 ts gr c b gr.length 0 (List.replicate (c+2) none))) (S.set n (wOb (.tup (ts.map zaw)) (.lst (gr.map oD)) (.tup [.int r,.int c]) b ds')):=by
 obtain⟨ds',e,_⟩:=(zm7 (n:=n) (r:=r) (b:=b) ht h1 hg hc hc2 gr.length 40 (by omega) hp).run S [] 0 (List.replicate (c+2) none) W (fun k s d h=>by cases h) (by omega) (yaH ..) (by simpa using hq);refine⟨ds',?_⟩;have e':zbv [.ref n,.int 0,zbf (List.replicate (c+2) none)] S=_:=e;have e2:=zeX W hc2;have m1:=W.meth "count_from" (by decide +kernel);have m2:=W.meth "first_seam" (by decide +kernel);generalize wOb (.tup (ts.map zaw)) (.lst (gr.map oD)) (.tup [.int r,.int c]) b ds'=ob at*;simp[zbc,zap,zbE,m1,m2,e2,e']
def zlc(ts:Z2)(r c:Nat)(g:Z1)(b:Bool):Nat:=zc1 ts (zas r c g) c b (r*c) 0 (List.replicate (c+2) none)
theorem zeo{ts:Z2}{r c:Nat}{g:Z1}{S:Sto}(ht:TOk ts)(h1:1<=ts.length)(hg:InT ts g)(hr1:1<=r)(hr:r<=100)(hc:1<=c)(hc2:c<=100)(hm:r*c<=30)(hp:ts.length ^ (r*c)<=1000000)(hq:zc7 ts.length (r*c)<=1000000):
  ∃S',zay [.tup (ts.map zaw),flr r c g] S=.ok (.int (zlc ts r c g false)) S':=by
 have e1:=zls (T:=.tup (ts.map zaw)) (b:=false) (S:=S) (g:=g) (c:=c) hr1 hr hc2;have W:WAt (S++[wOb (.tup (ts.map zaw)) (.lst ((zas r c g).map oD)) (.tup [.int r,.int c]) false []]) S.length ts (zas r c g) r c false []:=⟨by rw[yat (yal _),ybC];rfl⟩
 have hgl:∀o∈zas r c g,∀x,o=some x->0<=x/\x<ts.length:=by
  intro o ho x hx;obtain⟨i,_,ho⟩:=ybk.mp ho;obtain⟨j,_,rfl⟩:=yay.mp ho;exact hg i j x hx
 obtain⟨ds',e2⟩:=zfC W ht h1 hgl hc hc2 (by rw[za1];exact hm) (by rw[za1];exact hp) (by rw[za1];exact hq);rw[za1]at e2;have m:=W.meth "count_all" (by decide +kernel);obtain⟨S',hS⟩:∃S',(S++[wOb (.tup (ts.map zaw)) (.lst ((zas r c g).map oD)) (.tup [.int r,.int c]) false []]).set S.length (wOb (.tup (ts.map zaw)) (.lst ((zas r c g).map oD)) (.tup [.int r,.int c]) false ds')=S':=⟨_,rfl⟩;rw[hS]at e2;clear hS;refine⟨S',?_⟩;unfold zlc;generalize wOb (.tup (ts.map zaw)) (.lst ((zas r c g).map oD)) (.tup [.int r,.int c]) false []=ob at*;simp[zay,zap,zcr,e1,m,e2]
noncomputable def zcI(ts:Z2):List Int:=(List.range ts.length).map fun(i:Nat)=>(i:Int)
def zdt(ts:Z2)(c:Nat)(o:Option Int)(t:List Int):List (List Int):=((zcI ts).filter fun x=>okO o x&&zmV ts c t x).map fun x=>t++[x]
def zaE(ts:Z2)(gr:Z4)(c:Nat):Nat->List (List Int)
 |0=>[[]]|k+1=>(zaE ts gr c k).flatMap (zdt ts c (gr.getD k none))
structure FillG(ts:Z2)(k:Nat)(F:Z2):Prop where
 mem:∀t∈F,t.length=k/\InR ts t
theorem zdx{ts:Z2}{gr:Z4}{c:Nat}:∀k,FillG ts k (zaE ts gr c k)
 |0=>⟨fun t ht=>by rw[yaO.mp ht];exact⟨rfl,fun x hx=>(yaL hx).elim⟩⟩
 |k+1=>⟨fun t ht=>by
  obtain⟨u,hu,ht⟩:=ybk.mp ht;obtain⟨x,hx,rfl⟩:=yay.mp ht;obtain⟨h1,h2⟩:=(zdx (ts:=ts) (gr:=gr) (c:=c) k).mem u hu;refine⟨by rw[yao,h1];rfl,fun y hy=>?_⟩
  rcases ybK.mp hy with hy|hy
  ·exact h2 y hy
  ·rw[yaO.mp hy];obtain⟨i,hi,rfl⟩:=yay.mp (yaZ.mp hx).1;have:=yaS.mp hi
   omega⟩
def ztK{r c:Nat}{g:Z1}:(zbY r c g).flatMap zwy=(zas r c g).map oD:=by
 unfold zbY zas;rw[List.flatMap_map,ycm];congr 1;funext i;show zce c (g i)=_;rw[ybu];rfl
def zmW(ts:Z2)(gr:Z4)(c:Nat):Nat->List Int->Nat
 |0,_=>1|m+1,t=>((zdt ts c (gr.getD t.length none) t).map (zmW ts gr c m)).sum
theorem zhR{α:Type}{f:α->Nat}{h:α->List α}:∀l:List α,((l.flatMap h).map f).sum=(l.map fun t=>((h t).map f).sum).sum
 |[]=>rfl|t::l=>by rw[ybb,ybN,List.sum_append,zhR l,yaA,ycs]
theorem zgD{ts:Z2}{gr:Z4}{c:Nat}:∀m k,(zaE ts gr c (k+m)).length=((zaE ts gr c k).map (zmW ts gr c m)).sum
 |0,k=>by
  show(zaE ts gr c k).length=_;generalize zaE ts gr c k=F
  induction F with
  |nil=>rfl|cons t F ih=>rw[yae,ih,yaA,ycs];simp[zmW];omega
 |m+1,k=>by
  rw[show k+(m+1)=(k+1)+m by omega,zgD m (k+1)];show(((zaE ts gr c k).flatMap _).map _).sum=_;rw[zhR];congr 1;apply ycz;intro t ht;show _=((zdt ts c (gr.getD t.length none) t).map (zmW ts gr c m)).sum;rw[((zdx k).mem t ht).1]
def zkA{ts:Z2}{gr:Z4}{c L:Nat}:(zaE ts gr c L).length=zmW ts gr c L []:=by
 have:=zgD (ts:=ts) (gr:=gr) (c:=c) L 0;rw[Nat.zero_add]at this;rw[this];simp[zaE]
structure SeamOk(ts:Z2)(L c:Nat)(t:List Int)(s:Z4):Prop where
 len:s.length=c+2
 west:s.getD 0 none=if t.length % c=0 then none else some (za5 ts (t.getLastD 0) 1)
 north:∀j,j<c->s.getD (1+j) none=if t.length+j<c\/L<=t.length+j then none else some (za5 ts (t.getD (t.length+j-c) 0) 2)
def SeamOk.first{ts:Z2}{L c:Nat}:SeamOk ts L c [] (List.replicate (c+2) none)where
 len:=yaH ..
 west:=by simp[yab,ybc]
 north:=fun j hj=>by
  rw[if_pos (.inl (by simpa using hj))];rw[yab,ybc]
  split<;>rfl
theorem SeamOk.next{ts:Z2}{L c:Nat}{t:List Int}{s:Z4}{x:Int}(h:SeamOk ts L c t s)(hc:1<=c):SeamOk ts L c (t++[x]) (zi9 ts L c false t.length s x)where
 len:=zkU hc h.len
 west:=by
  rw[yao,yba];show(if(t.length+1) % c=0 then none else some (za5 ts x 1))=_;simp[ybV]
 north:=fun j hj=>by
  have hm:((s.drop 2).dropLast).length=c-1:=by rw[yco,ybs,h.len];omega
  rw[yao,yba];show((if(t.length+1) % c=0 then none else some (za5 ts x 1))::((s.drop 2).dropLast++[if L<=t.length+c then none else some (za5 ts x 2),if false&&!decide ((t.length+1) % c=0)then crO ts c t.length s x else none])).getD (1+j) none=_;rw[show 1+j=j+1 by omega,List.getD_cons_succ]
  by_cases hl:j<c-1
  ·rw[yab,yaC (by rw[hm];exact hl),List.getElem?_dropLast,if_pos (by rw[ybs,h.len];omega),ybw,<-yab];have hn:=h.north (j+1) (by omega);rw[show 2+j=1+(j+1)by omega,hn];rw[show t.length+1+j=t.length+(j+1)by omega]
   by_cases z:t.length+(j+1)<c\/L<=t.length+(j+1)
   ·rw[if_pos z,if_pos z]
   ·rw[if_neg z,if_neg z,zig,if_pos (by omega)]
  ·have hj':j=c-1:=by omega
   subst hj';rw[yab,yat (by rw[hm];exact yal _),hm,ybC];show(if L<=t.length+c then none else some (za5 ts x 2))=_
   have e:(t++[x]).getD (t.length+1+(c-1)-c) 0=x:=by
    rw[zig,show t.length+1+(c-1)-c=t.length by omega,if_neg (yaQ _),if_pos rfl]
   rw[e,show t.length+1+(c-1)=t.length+c by omega]
   have:¬ t.length+c<c:=by omega
   simp[this]
theorem zmg{ts:Z2}{L c:Nat}{t:List Int}{s:Z4}{x:Int}(h:SeamOk ts L c t s)(hc:1<=c)(hL:t.length<L):zi0 ts c false t.length s x=zmV ts c t x:=by
 unfold zi0 zmV;have h1:=h.north 0 (by omega);rw[Nat.add_zero,Nat.add_zero]at h1;rw[h.west,h1]
 have hL':¬ L<=t.length:=by omega
 simp only[Bool.not_false,Bool.true_or,Bool.and_true];rw[ybA,yac,decide_eq_true_iff]
 have a:okO (if t.length % c=0 then none else some (za5 ts (t.getLastD 0) 1)) (za5 ts x 3)=true↔(0<t.length % c->za5 ts (t.getLastD 0) 1=za5 ts x 3):=by
  by_cases z:t.length % c=0
  ·rw[if_pos z];simp[okO,z]
  ·rw[if_neg z]
   have z':0<t.length % c:=by omega
   simp[okO,z']
 have b:okO (if t.length<c\/L<=t.length then none else some (za5 ts (t.getD (t.length-c) 0) 2)) (za5 ts x 0)=true↔(c<=t.length->za5 ts (t.getD (t.length-c) 0) 2=za5 ts x 0):=by
  by_cases z:t.length<c
  ·rw[if_pos (.inl z)]
   have z':¬ c<=t.length:=by omega
   simp[okO,z']
  ·have z':c<=t.length:=by omega
   rw[if_neg (by simp only[not_or];exact⟨z,hL'⟩)];simp[okO,z']
 rw[a,b]
theorem ziP{ts:Z2}{o:Option Int}{p:Int->Bool}(ho:∀x,o=some x->0<=x/\x<ts.length):(zcI ts).filter (fun x=>okO o x&&p x)=(zh3 ts o).filter p:=by
 cases o with
 |none=>
  show(zcI ts).filter (fun x=>true&&p x)=(zcI ts).filter p;simp
 |some y=>
  obtain⟨y0,y1⟩:=ho y rfl
  have e:(zcI ts).filter (fun x=>decide (y=x))=[y]:=by
   obtain⟨n,rfl⟩:=ybD y0
   have hn:n<ts.length:=by omega
   unfold zcI;rw[List.filter_map]
   have hf:(List.range ts.length).filter ((fun x=>decide ((n:Int)=x))∘fun(i:Nat)=>(i:Int))=[n]:=by
    have:((fun x=>decide ((n:Int)=x))∘fun(i:Nat)=>(i:Int))=fun i=>decide (i=n):=by
     funext i;simp only[Function.comp];congr 1;exact propext ⟨fun z=>by omega,fun z=>by omega⟩
    rw[this];generalize ts.length=N at hn;clear y1
    induction N with
    |zero=>omega|succ N ih=>
     rw[ybB,List.filter_append]
     by_cases z:n<N
     ·rw[ih z]
      have:¬ N=n:=by omega
      simp[this]
     ·have:N=n:=by omega
      subst this
      have h0:(List.range N).filter (fun i=>decide (i=N))=[]:=by
       rw[List.filter_eq_nil_iff];intro i hi;have:=yaS.mp hi;simp;omega
      rw[h0];simp
   rw[hf];rfl
  show(zcI ts).filter (fun x=>decide (y=x)&&p x)=[y].filter p;rw[<-e,List.filter_filter];congr 1;funext x;exact Bool.and_comm _ _
theorem zhL{ts:Z2}{gr:Z4}{c:Nat}(hc:1<=c)(hg:∀o∈gr,∀x,o=some x->0<=x/\x<ts.length):∀m t s,SeamOk ts gr.length c t s->t.length+m=gr.length->zc1 ts gr c false m t.length s=zmW ts gr c m t
 |0,_,_,_,_=>rfl|m+1,t,s,h,hl=>by
  have hk:t.length<gr.length:=by omega
  have ho:∀x,gr.getD t.length none=some x->0<=x/\x<ts.length:=by
   rw[yab,yad hk];exact hg _ (ybF hk)
  show((chs ts gr c false t.length s).map fun p=>zc1 ts gr c false m (t.length+1) p.2).sum=((zdt ts c (gr.getD t.length none) t).map (zmW ts gr c m)).sum;unfold chs zdt;rw[ziP ho,ybu,ybu]
  have e:(zh3 ts (gr.getD t.length none)).filter (zi0 ts c false t.length s)=(zh3 ts (gr.getD t.length none)).filter (zmV ts c t):=by
   congr 1;funext x;exact zmg h hc hk
  rw[e];congr 1;apply ycz;intro x _;show zc1 ts gr c false m (t.length+1) (zi9 ts gr.length c false t.length s x)=zmW ts gr c m (t++[x]);have:=zhL hc hg m (t++[x]) _ (h.next (x:=x) hc) (by rw[yao,yba];omega);rwa[yao,yba]at this
def zkx{ts:Z2}{r c:Nat}{g:Z1}(hg:InT ts g):∀o∈zas r c g,∀x,o=some x->0<=x/\x<ts.length:=by
 intro o ho x hx;obtain⟨i,_,ho⟩:=ybk.mp ho;obtain⟨j,_,rfl⟩:=yay.mp ho;exact hg i j x hx
def zix{ts:Z2}{r c:Nat}{g:Z1}(hc:1<=c)(hg:InT ts g):zlc ts r c g false=(zaE ts (zas r c g) c (r*c)).length:=by
 rw[zkA];unfold zlc;exact zhL hc (zkx hg) (r*c) [] _ (by rw[za1];exact SeamOk.first) (by rw[za1];simp)
theorem zoH{α:Type}{l:List α}{n:Nat}:zdG l (some (n:Int)) none=l.drop n:=by
 unfold zdG;rw[HT.zg8];simp[HT.sIx]
 by_cases h:n<=l.length
 ·rw[ycB h];exact ybH (by simp)
 ·rw[List.drop_eq_nil_of_le (show l.length<=n by omega),List.drop_eq_nil_of_le (by omega)];simp
def zrf{α:Type}{l:List α}{n:Nat}(h:n<=l.length):zdG l none (some (n:Int))=l.take n:=by
 unfold zdG;rw[HT.zg8];simp[HT.sIx,ycB h]
noncomputable def zgW(g:Z1)(i j:Nat)(o:Option Int):Nat->Nat->Option Int:=fun a b=>if a=i/\b=j then o else g a b
def znI{c j:Nat}{g:Nat->Option Int}{o:Option Int}:(zce c g).set j (oD o)=zce c fun b=>if b=j then o else g b:=by
 apply yaV;intro k
 by_cases hk:k<c
 ·rw[zbj hk]
  by_cases e:j=k
  ·subst e;rw[yap (by rw[zbH];exact hk),if_pos rfl]
  ·rw[yaE e,zbj hk,if_neg (fun z=>e z.symm)]
 ·rw[yaB (by rw[yaw,zbH];omega),yaB (by rw[zbH];omega)]
def zoE{r c i j:Nat}{g:Z1}{o:Option Int}:(zbY r c g).set i (zcf c fun b=>if b=j then o else g i b)=zbY r c (zgW g i j o):=by
 apply yaV;intro k
 by_cases hk:k<r
 ·rw[zbn hk]
  by_cases e:i=k
  ·subst e;rw[yap (by rw[zco];exact hk)];congr 3;funext b;unfold zgW
   by_cases z:b=j<;>simp[z]
  ·rw[yaE e,zbn hk];congr 3;funext b;unfold zgW;rw[if_neg (fun z=>e z.1.symm)]
 ·rw[yaB (by rw[yaw,zco];omega),yaB (by rw[zco];omega)]
theorem zkG{α:Type}{l:List α}{j:Nat}{x:α}(h:j<l.length):zdG l none (some (j:Int))++x::zdG l (some ((j:Int)+1)) none=l.set j x:=by
 rw[zrf (by omega),show((j:Int)+1)=((j+1:Nat):Int)by omega,zoH,List.set_eq_take_append_cons_drop,if_pos h]
theorem zcC{r c i j:Nat}{g:Z1}{o:Option Int}{S:Sto}(hi:i<r)(hj:j<c)(hr:r<=100)(hc:c<=100):zbk [flr r c g,plD i j,oD o] S=.ok (flr r c (zgW g i j o)) S:=by
 have e0:atI (zbY r c g) (i:Int)=some (zcf c (g i)):=by rw[zal,zbn hi]
 have e1:zdG (zce c (g i)) none (some (j:Int))++oD o::zdG (zce c (g i)) (some ((j:Int)+1)) none=zce c fun b=>if b=j then o else g i b:=by rw[zkG (by rw[zbH];exact hj),znI]
 have e2:zdG (zbY r c g) none (some (i:Int))++(zcf c fun b=>if b=j then o else g i b)::zdG (zbY r c g) (some ((i:Int)+1)) none=zbY r c (zgW g i j o):=by rw[zkG (by rw[zco];exact hi),zoE]
 have l1:=congrArg List.length e1;have l2:=congrArg List.length e2;rw[yao,yae,zbH]at l1;rw[yao,yae,zco]at l2;unfold flr;rw[<-e2];unfold zcf at e0 ⊢;rw[<-e1];generalize q1:zdG (zce c (g i)) none (some (j:Int))=a1 at*;generalize q2:zdG (zce c (g i)) (some ((j:Int)+1)) none=a2 at*;generalize q3:zdG (zbY r c g) none (some (i:Int))=b1 at*;generalize q4:zdG (zbY r c g) (some ((i:Int)+1)) none=b2 at*
 have p1:a1.length+1<=100000:=by omega
 have p2:a1.length+1+a2.length<=100000:=by omega
 have p3:b1.length+1<=100000:=by omega
 have p4:b1.length+1+b2.length<=100000:=by omega
 simp[zbk,zap,zcp,plD,e0,q1,q2,q3,q4,p1,p2,p3,p4]
@[simp] def zwl{x y:Bool}:zxG (.bl x) (.bl y)=some (.bl (decide (x=y))):=(rfl)
theorem zel{r c i j:Nat}{g:Z1}{S:Sto}(h1:1<=r)(hi:i<r)(hj:j<c):zaq [flr r c g,plD i j] S=.ok .non S:=by
 have hp:zaW [flr r c g,plD i j] S=.ok (.bl true) S:=by rw[zci h1];congr 3;simp;omega
 simp[zaq,zap,zbd,hp]
def zhc{ts:List D}{o:Option Int}{S:Sto}(h:∀x,o=some x->0<=x/\x<ts.length):zcG [.tup ts,oD o] S=.ok (.bl true) S:=by
 have e:=zc2 (ts:=ts) (o:=o) (S:=S) h
 cases o with
 |none=>simp[zcG,zap,zdy,oD]|some x=>
  simp only[oD]at e;simp[zcG,zap,zdy,oD,e]
def zfy{ts:Z2}{r c i j:Nat}{g:Z1}{o:Option Int}{S:Sto}(h:∀x,o=some x->0<=x/\x<ts.length)(h1:1<=r)(hi:i<r)(hj:j<c)(hr:r<=100)(hc:c<=100):zbP [.tup (ts.map zaw),flr r c g,plD i j,oD o] S=.ok (flr r c (zgW g i j o)) S:=by
 have e1:=zel (g:=g) (S:=S) h1 hi hj;have e2:=zhc (ts:=ts.map zaw) (o:=o) (S:=S) (fun x hx=>by simpa using h x hx);have e3:=zcC (g:=g) (o:=o) (S:=S) hi hj hr hc;generalize flr r c g=fl at*;generalize flr r c (zgW g i j o)=fl' at*;generalize plD i j=pp at*;generalize oD o=od at*;simp[zbP,zap,zdd,e1,e2,e3]
noncomputable def zna(q m:Nat):Prop:=zc7 q m+m*(zc7 q m+q*zc7 q m)<=1000000/\q ^ m<=80000
noncomputable instance{q m:Nat}:Decidable (zna q m):=by unfold zna;exact inferInstance
def zd2(ts:Z2)(r c:Nat)(g:Z1):List (List Int):=zaE ts (zas r c g) c (r*c)
noncomputable def zdp(r c:Nat):List (Nat×Nat):=(List.range r).flatMap fun i=>(List.range c).map fun j=>(i,j)
def zcM{r c:Nat}{g:Z1}:zas r c g=(zdp r c).map fun p=>g p.1 p.2:=by
 unfold zas zdp;rw[ycm];congr 1;funext i;rw[ybu];rfl
noncomputable def zoW(g h:Z1):D->Bool|.tup [.int i,.int j]=>!decide (g i.toNat j.toNat=h i.toNat j.toNat)|_=>false
def zqt{g h:Z1}{i j:Nat}:zoW g h (plD i j)=!decide (g i j=h i j):=by
 show(!decide (g ((i:Int).toNat) ((j:Int).toNat)=h ((i:Int).toNat) ((j:Int).toNat)))=_;rw[ya8,ya8]
def zsU{a b:Option Int}:neD (oD a) (oD b)=some (.bl (!decide (a=b))):=by
 cases a<;>cases b<;>simp[neD,zfa,D.py,PyData.eqv,oD]<;>rfl
def zfB{r c:Nat}{g h:Z1}{S:Sto}(h1:1<=r)(hr:r<=100)(hc:c<=100):zcj [flr r c g,flr r c h] S=.ok (.lst ((zcA r c).filter (zoW g h))) S:=by
 have e1:=zcV (g:=g) (S:=S) (c:=c) h1 hr hc
 have e2:=zcR (tg:=.one 0) (c:=zac neD (eFn zaG [(zad 1),(zad 0)]) (eFn zaG [(zad 2),(zad 0)])) (elt:=zad 0) (ρ0:=[none,some (false,flr r c g),some (false,flr r c h)]) (S:=S) (g:=id) (p:=zoW g h) (ds:=zcA r c) (by
  intro d hd;obtain⟨i,j,hi,hj,rfl⟩:=zc9 hd;have n1:=zdJ (g:=g) (S:=S) hi hj;have n2:=zdJ (g:=h) (S:=S) hi hj;refine⟨_,rfl,?_,fun _=>rfl⟩;rw[zqt];have n3:=zsU (a:=g i j) (b:=h i j);generalize flr r c g=fg at*;generalize flr r c h=fh at*;generalize plD i j=pp at*
  simp[n1,n2,n3])
 rw[List.map_id]at e2
 have hl:((zcA r c).filter (zoW g h)).length<=100000:=by
  refine yan (ybx _ _) ?_;rw[zfE];exact yan (ybU hr hc) (by decide)
 generalize (zcA r c).filter (zoW g h)=res at*;generalize flr r c g=fg at*;generalize flr r c h=fh at*;simp[zcj,zap,zdh,e1,e2,hl]
noncomputable def agN(gr:Z4)(k:Nat)(t:List Int):Bool:=(List.range k).all fun i=>okO (gr.getD i none) (t.getD i 0)
def zmv{gr:Z4}{k:Nat}{t:List Int}:agN gr (k+1) t=(agN gr k t&&okO (gr.getD k none) (t.getD k 0)):=by
 unfold agN;rw[ybB,List.all_append];simp
def zoP{gr:Z4}{k:Nat}{t u:List Int}(h:k<=t.length):agN gr k (t++u)=agN gr k t:=by
 unfold agN;rw[ybA,ybj,ybj]
 have e:∀i∈List.range k,(t++u).getD i 0=t.getD i 0:=fun i hi=>by
  have:=yaS.mp hi;rw[yab,yab,yaC (by omega)]
 constructor
 ·intro z i hi;have:=z i hi;rwa[e i hi]at this
 ·intro z i hi;rw[e i hi];exact z i hi
theorem zd1{ts:Z2}{gr:Z4}{c:Nat}:∀k,zaE ts gr c k=(zaE ts [] c k).filter (agN gr k)
 |0=>rfl|k+1=>by
  show(zaE ts gr c k).flatMap _=((zaE ts [] c k).flatMap _).filter _;rw[zd1 k];have hl:∀t∈zaE ts [] c k,t.length=k:=fun t ht=>((zdx k).mem t ht).1
  generalize zaE ts [] c k=F at hl;have hn:([]:Z4).getD k none=none:=rfl;rw[hn]
  induction F with
  |nil=>rfl|cons t F ih=>
   have ih':=ih fun u hu=>hl u (yas _ hu)
   have ht:=hl t yaz;rw[ybb,List.filter_append,<-ih',ycl]
   have key:(zdt ts c none t).filter (agN gr (k+1))=if agN gr k t then zdt ts c (gr.getD k none) t else[]:=by
    unfold zdt;rw[List.filter_map]
    have ef:(agN gr (k+1)∘fun x=>t++[x])=fun x=>agN gr k t&&okO (gr.getD k none) x:=by
     funext x;show agN gr (k+1) (t++[x])=_;rw[zmv,zoP (by omega)]
     have:(t++[x]).getD k 0=x:=by rw[yab,yat (by omega),ht];simp
     rw[this]
    rw[ef,List.filter_filter]
    cases ha:agN gr k t with
    |true=>
     simp only[Bool.true_and,yci];rfl
    |false=>
     have:∀l:List Int,l.filter (fun a=>(false&&okO (gr.getD k none) a)&&(okO none a&&zmV ts c t a))=[]:=by
      intro l;rw[List.filter_eq_nil_iff];intro a _;simp
     rw[this];rfl
   rw[key]
   cases agN gr k t with
   |true=>simp only[yci,ybb]|false=>simp
def zvW(ts:Z2)(r c:Nat):List (List Int):=zaE ts [] c (r*c)
def agG(r c:Nat)(g:Z1)(t:List Int):Bool:=agN (zas r c g) (r*c) t
def zdw{ts:Z2}{r c:Nat}{g:Z1}:zd2 ts r c g=(zvW ts r c).filter (agG r c g):=zd1 _
theorem zes{r c:Nat}(hc:1<=c):∀{k:Nat},k<r*c->(zdp r c)[k]?=some (k / c,k % c):=by
 induction r with
 |zero=>intro k h;omega|succ r ih=>
  intro k h
  have hl:(zdp r c).length=r*c:=by
   have:=za1 (r:=r) (c:=c) (g:=fun _ _=>none);rwa[zcM,yaf]at this
  have e:zdp (r+1) c=zdp r c++(List.range c).map fun j=>(r,j):=by
   unfold zdp;rw[ybB,List.flatMap_append];simp
  rw[e]
  by_cases z:k<r*c
  ·rw[yaC (by omega)];exact ih z
  ·rw[yat (by omega),hl,yar]
   have h2:k<r*c+c:=by rwa[ycg]at h
   rw[ybE (by omega)]
   have hd:k / c=r:=by
    rw[Nat.div_eq_iff (by omega)];have:r*c=c*r:=yaX _ _
    constructor<;>first|omega|(rw[yaX];omega)|skip
    all_goals omega
   have hm:k % c=k-r*c:=by
    have:=ybO k c;rw[hd]at this;rw[yaX]at this;omega
   rw[hd,hm];rfl
def zfg{r c k:Nat}{g:Z1}(hc:1<=c)(h:k<r*c):(zas r c g).getD k none=g (k / c) (k % c):=by
 rw[zcM,yab,yar,zes hc h];rfl
def zhz{r c k:Nat}(hc:1<=c)(h:k<r*c):k / c<r:=ycq (by rw[yaX];exact h)
theorem ziY{r c i j:Nat}(hi:i<r)(hj:j<c):i*c+j<r*c:=by
 have:=ycp c (show i+1<=r by omega);rw[ycg]at this;omega
theorem zgB{c i j:Nat}(hj:j<c):(i*c+j) / c=i/\(i*c+j) % c=j:=by
 have hc:0<c:=by omega
 constructor
 ·rw[yaX,Nat.mul_add_div hc,Nat.div_eq_of_lt hj,Nat.add_zero]
 ·rw[yaX,Nat.mul_add_mod,Nat.mod_eq_of_lt hj]
def zoQ{r c:Nat}{g:Z1}{t:List Int}(hc:1<=c):agG r c g t=true↔∀i j,i<r->j<c->okO (g i j) (t.getD (i*c+j) 0)=true:=by
 unfold agG agN;rw[ybj];constructor
 ·intro h i j hi hj;have:=h (i*c+j) (yaS.mpr (ziY hi hj));rwa[zfg hc (ziY hi hj),(zgB hj).1,(zgB hj).2]at this
 ·intro h k hk;have hk:=yaS.mp hk;rw[zfg hc hk];have:=h (k / c) (k % c) (zhz hc hk) (ycN _ hc);rwa[yaX,ybO]at this
def zj1{o:Option Int}{x:Int}:okO o x=true↔o=none\/o=some x:=by
 cases o with
 |none=>simp[okO]|some y=>simp[okO]
structure RtL(ts:Z2)(c k:Nat)(t:List Int):Prop where
 len:t.length=k
 inr:InR ts t
 fit:∀i,i<k->zmV ts c (t.take i) (t.getD i 0)=true
theorem zfd{ts:Z2}{x:Int}:x∈zcI ts↔0<=x/\x<ts.length:=by
 unfold zcI;rw[yay];constructor
 ·rintro⟨i,hi,rfl⟩;have:=yaS.mp hi;omega
 ·intro h;exact⟨x.toNat,yaS.mpr (by omega),by omega⟩
theorem zex{ts:Z2}{c:Nat}:∀{k:Nat}{t:List Int},t∈zaE ts [] c k↔RtL ts c k t
 |0,t=>by
  constructor
  ·intro h;rw[yaO.mp h];exact⟨rfl,fun x hx=>(yaL hx).elim,fun i hi=>by omega⟩
  ·intro h;rw[yaM h.len];exact yaO.mpr rfl
 |k+1,t=>by
  show t∈(zaE ts [] c k).flatMap _↔_;rw[ybk];constructor
  ·rintro⟨u,hu,ht⟩;have R:=zex.mp hu;unfold zdt at ht;obtain⟨x,hx,rfl⟩:=yay.mp ht;obtain⟨h1,h2⟩:=yaZ.mp hx;rw[yac]at h2;have hx:=zfd.mp h1;refine⟨by rw[yao,R.len];rfl,fun y hy=>?_,fun i hi=>?_⟩
   ·rcases ybK.mp hy with hy|hy
    ·exact R.inr y hy
    ·rw[yaO.mp hy];exact hx
   ·by_cases z:i<k
    ·have e1:(u++[x]).take i=u.take i:=List.take_append_of_le_length (by rw[R.len];omega)
     have e2:(u++[x]).getD i 0=u.getD i 0:=by
      rw[yab,yab,yaC (by rw[R.len];exact z)]
     rw[e1,e2];exact R.fit i z
    ·have hi':i=u.length:=by rw[R.len];omega
     subst hi'
     have e1:(u++[x]).take u.length=u:=by simp
     have e2:(u++[x]).getD u.length 0=x:=by
      rw[yab,yat (yal _)];simp
     rw[e1,e2];exact h2.2
  ·intro R
   have hk:k<t.length:=by rw[R.len];omega
   have e:t=t.take k++[t.getD k 0]:=by
    have h1:t.getD k 0=t[k]:=by rw[yab,yad hk];rfl
    rw[h1,List.take_append_getElem hk,ybH (by rw[R.len];omega)]
   refine⟨t.take k,zex.mpr ⟨by rw[ybi,R.len];omega,fun x hx=>R.inr x (List.mem_of_mem_take hx),fun i hi=>?_⟩,?_⟩
   ·have h1:(t.take k).take i=t.take i:=by rw[List.take_take,ycB (by omega)]
    have h2:(t.take k).getD i 0=t.getD i 0:=by
     rw[yab,yab,ybz hi]
    rw[h1,h2];exact R.fit i (by omega)
   ·have:t.take k++[t.getD k 0]∈zdt ts c none (t.take k):=by
     unfold zdt;refine yay.mpr ⟨t.getD k 0,yaZ.mpr ⟨zfd.mpr ?_,?_⟩,rfl⟩
     ·have h1:t.getD k 0=t[k]:=by rw[yab,yad hk];rfl
      rw[h1];exact R.inr _ (ybF hk)
     ·rw[R.fit k (by omega)];rfl
    rwa[<-e]at this
theorem zev{ts:Z2}{c:Nat}:∀{k:Nat},(zaE ts [] c k).Nodup
 |0=>by simp[zaE]
 |k+1=>by
  show((zaE ts [] c k).flatMap _).Nodup;have hl:∀t∈zaE ts [] c k,t.length=k:=fun t ht=>((zdx k).mem t ht).1
  have hn:=zev (ts:=ts) (c:=c) (k:=k);generalize zaE ts [] c k=F at hl hn
  have hN:(zcI ts).Nodup:=by
   unfold zcI;rw[ybe,ybR];refine List.Pairwise.imp ?_ List.nodup_range;intro a b h;omega
  induction F with
  |nil=>simp|cons t F ih=>
   rw[ya7]at hn;rw[ybb,ycf];refine⟨?_,ih (fun u hu=>hl u (yas _ hu)) hn.2,?_⟩
   ·unfold zdt;rw[ybe,ybR];refine List.Pairwise.imp ?_ (List.Pairwise.filter _ (ybe.mp hN));intro a b h z;have:=List.append_cancel_left z;simp at this;exact h this
   ·intro a ha b hb e;subst e;unfold zdt at ha;obtain⟨x,_,rfl⟩:=yay.mp ha;obtain⟨u,hu,hb⟩:=ybk.mp hb;unfold zdt at hb;obtain⟨y,_,e⟩:=yay.mp hb;have:=List.append_inj_left' e rfl;subst this;exact hn.1 hu
def zkZ{ts:Z2}{r c:Nat}:(zvW ts r c).Nodup:=zev
def zgE{ts:Z2}{r c:Nat}{g:Z1}:(zd2 ts r c g).Nodup:=by
 rw[zdw,ybe];exact List.Pairwise.filter _ (ybe.mp zkZ)
def ziR{ts:Z2}{r c:Nat}{g:Z1}{t:List Int}:t∈zd2 ts r c g↔RtL ts c (r*c) t/\agG r c g t=true:=by
 rw[zdw,yaZ];show t∈zaE ts [] c (r*c)/\_↔_;rw[zex]
structure RtG(ts:Z2)(r c:Nat)(G:Nat->Nat->Int):Prop where
 inr:∀i j,i<r->j<c->0<=G i j/\G i j<ts.length
 east:∀i j,i<r->j+1<c->za5 ts (G i j) 1=za5 ts (G i (j+1)) 3
 south:∀i j,i+1<r->j<c->za5 ts (G i j) 2=za5 ts (G (i+1) j) 0
noncomputable def tnG(c:Nat)(t:List Int)(i j:Nat):Int:=t.getD (i*c+j) 0
def lsG(r c:Nat)(G:Nat->Nat->Int):List Int:=(zdp r c).map fun p=>G p.1 p.2
def zjW{r c:Nat}:(zdp r c).length=r*c:=by
 have:=za1 (r:=r) (c:=c) (g:=fun _ _=>none);rwa[zcM,yaf]at this
def zey{r c:Nat}{G:Nat->Nat->Int}:(lsG r c G).length=r*c:=by unfold lsG;rw[yaf,zjW]
def zkd{r c k:Nat}{G:Nat->Nat->Int}(hc:1<=c)(h:k<r*c):(lsG r c G).getD k 0=G (k / c) (k % c):=by
 unfold lsG;rw[yab,yar,zes hc h];rfl
theorem zgZ{r c i j:Nat}{G:Nat->Nat->Int}(hi:i<r)(hj:j<c):tnG c (lsG r c G) i j=G i j:=by
 unfold tnG;rw[zkd (by omega) (ziY hi hj),(zgB hj).1,(zgB hj).2]
def zoc{r c:Nat}{t:List Int}(hc:1<=c)(hl:t.length=r*c):lsG r c (tnG c t)=t:=by
 apply yaV;intro k
 by_cases h:k<r*c
 ·have e1:(lsG r c (tnG c t))[k]?=some ((lsG r c (tnG c t)).getD k 0):=by
   rw[yab,yad (by rw[zey];exact h)];rfl
  have e2:t[k]?=some (t.getD k 0):=by
   rw[yab,yad (by omega)];rfl
  rw[e1,e2,zkd hc h];unfold tnG;rw[yaX,ybO]
 ·rw[yaB (by rw[zey];omega),yaB (by omega)]
def zjl{t:List Int}{i j:Nat}(h:j<i):(t.take i).getD j 0=t.getD j 0:=by
 rw[yab,yab,ybz h]
theorem zjk{t:List Int}{i:Nat}(h:i<t.length)(h0:0<i):(t.take i).getLastD 0=t.getD (i-1) 0:=by
 rw[ybV,List.getLast?_eq_getElem?,ybi,ycB (by omega),ybz (by omega),yab]
theorem zil{ts:Z2}{r c i j:Nat}{t:List Int}(hc:1<=c)(hl:t.length=r*c)(hi:i<r)(hj:j<c):zmV ts c (t.take (i*c+j)) (t.getD (i*c+j) 0)=true↔((0<j->za5 ts (tnG c t i (j-1)) 1=za5 ts (tnG c t i j) 3)/\(0<i->za5 ts (tnG c t (i-1) j) 2=za5 ts (tnG c t i j) 0)):=by
 have hk:=ziY hi hj
 have e1:(t.take (i*c+j)).length=i*c+j:=by rw[ybi];omega
 unfold zmV;rw[decide_eq_true_iff,e1,(zgB hj).2]
 have a:0<j->(t.take (i*c+j)).getLastD 0=tnG c t i (j-1):=fun h=>by
  rw[zjk (by omega) (by omega)];unfold tnG;congr 1;omega
 have hmul:0<i->(i-1)*c+c=i*c:=fun h=>by
  have:i=(i-1)+1:=by omega
  conv=>rhs;rw[this,ycg]
 have b:0<i->(t.take (i*c+j)).getD (i*c+j-c) 0=tnG c t (i-1) j:=fun h=>by
  have:=hmul h;rw[zjl (by omega)];unfold tnG;congr 1;omega
 have cc:c<=i*c+j↔0<i:=by
  constructor
  ·intro h
   rcases Nat.eq_zero_or_pos i with z|z
   ·subst z;omega
   ·exact z
  ·intro h;have:=hmul h;omega
 rw[cc];constructor
 ·rintro⟨x,y⟩;exact⟨fun h=>by rw[<-a h];exact x h,fun h=>by rw[<-b h];exact y h⟩
 ·rintro⟨x,y⟩;exact⟨fun h=>by rw[a h];exact x h,fun h=>by rw[b h];exact y h⟩
theorem znH{ts:Z2}{r c:Nat}{t:List Int}(hc:1<=c):RtL ts c (r*c) t↔t.length=r*c/\RtG ts r c (tnG c t):=by
 constructor
 ·intro R;have key:∀i j,i<r->j<c->_:=fun i j hi hj=>(zil hc R.len hi hj).mp (R.fit _ (ziY hi hj))
  refine⟨R.len,⟨fun i j hi hj=>?_,fun i j hi hj=>?_,fun i j hi hj=>?_⟩⟩
  ·have hk:=ziY hi hj
   have e:tnG c t i j=t[i*c+j]'(by rw[R.len];exact hk):=by
    unfold tnG;rw[yab,yad (by rw[R.len];exact hk)];rfl
   rw[e];exact R.inr _ (ybF _)
  ·exact(key i (j+1) hi hj).1 (by omega)
  ·exact(key (i+1) j hi hj).2 (by omega)
 ·rintro⟨hl,G⟩;refine⟨hl,fun x hx=>?_,fun k hk=>?_⟩
  ·obtain⟨k,hk,rfl⟩:=List.mem_iff_getElem.mp hx
   have hk':k<r*c:=by omega
   have:=G.inr (k / c) (k % c) (zhz hc hk') (ycN _ hc);unfold tnG at this;rwa[yaX,ybO,yab,yad hk]at this
  ·have hi:=zhz hc hk;have hj:=ycN k hc;have:=(zil (ts:=ts) hc hl hi hj).mpr ⟨fun h=>by have:=G.east (k / c) (k % c-1) hi (by omega);rw[show k % c-1+1=k % c by omega]at this;exact this,fun h=>by have:=G.south (k / c-1) (k % c) (by omega) hj;rwa[show k / c-1+1=k / c by omega]at this⟩;rwa[yaX,ybO]at this
def RtG.congr{ts:Z2}{r c:Nat}{G G':Nat->Nat->Int}(h:∀i j,i<r->j<c->G i j=G' i j)(R:RtG ts r c G):RtG ts r c G' where
 inr:=fun i j hi hj=>by rw[<-h i j hi hj];exact R.inr i j hi hj
 east:=fun i j hi hj=>by rw[<-h i j hi (by omega),<-h i (j+1) hi hj];exact R.east i j hi hj
 south:=fun i j hi hj=>by rw[<-h i j (by omega) hj,<-h (i+1) j hi hj];exact R.south i j hi hj
def zfe{ts:Z2}{r c:Nat}{g:Z1}{t:List Int}(hc:1<=c):t∈zd2 ts r c g↔t.length=r*c/\RtG ts r c (tnG c t)/\∀i j,i<r->j<c->g i j=none\/g i j=some (tnG c t i j):=by
 rw[ziR,znH hc,zoQ hc,and_assoc];constructor
 ·rintro⟨a,b,h⟩;exact⟨a,b,fun i j hi hj=>zj1.mp (h i j hi hj)⟩
 ·rintro⟨a,b,h⟩;exact⟨a,b,fun i j hi hj=>zj1.mpr (h i j hi hj)⟩
def ziQ{ts:Z2}{r c:Nat}{g:Z1}{G:Nat->Nat->Int}(hc:1<=c):lsG r c G∈zd2 ts r c g↔RtG ts r c G/\∀i j,i<r->j<c->g i j=none\/g i j=some (G i j):=by
 rw[zfe hc];have e:∀i j,i<r->j<c->tnG c (lsG r c G) i j=G i j:=fun i j hi hj=>zgZ hi hj
 constructor
 ·rintro⟨_,b,h⟩;exact⟨b.congr e,fun i j hi hj=>by rw[<-e i j hi hj];exact h i j hi hj⟩
 ·rintro⟨b,h⟩;exact⟨zey,b.congr (fun i j hi hj=>(e i j hi hj).symm),fun i j hi hj=>by rw[e i j hi hj];exact h i j hi hj⟩
noncomputable def adm:List (Option Int)->List (List Int)
 |[]=>[[]]|none::l=>(adm l).flatMap fun v=>[0::v,1::v]|some b::l=>(adm l).map (b::·)
def free:List (Option Int)->Nat
 |[]=>0|none::l=>free l+1|some _::l=>free l
theorem zgC{α:Type}{f g:α->α}:∀l:List α,(l.flatMap fun v=>[f v,g v]).length=2*l.length
 |[]=>rfl|a::l=>by simp only[ybb,yao,yae,List.length_nil,zgC l];omega
theorem zhF:∀l,(adm l).length=2 ^ free l
 |[]=>rfl|none::l=>by
  show((adm l).flatMap fun v=>[0::v,1::v]).length=2 ^ (free l+1);rw[zgC,zhF l,Nat.pow_succ];omega
 |some b::l=>by
  show((adm l).map (b::·)).length=_;rw[yaf,zhF l];rfl
theorem zcK:∀{l:Z4}{v:List Int},v∈adm l↔v.length=l.length/\∀i,i<l.length->(l.getD i none=none/\(v.getD i 0=0\/v.getD i 0=1))\/l.getD i none=some (v.getD i 0)
 |[],v=>by
  show v∈[[]]↔_;rw[yaO];constructor
  ·rintro rfl;exact⟨rfl,fun i h=>absurd h (by simp)⟩
  ·rintro⟨h,_⟩;exact yaM h
 |none::l,v=>by
  show v∈((adm l).flatMap fun v=>[0::v,1::v])↔_;rw[ybk];constructor
  ·rintro⟨u,hu,hv⟩;obtain⟨h1,h2⟩:=zcK.mp hu
   have hv':v=0::u\/v=1::u:=by simpa using hv
   have key:∀b:Int,b=0\/b=1->(b::u).length=(none::l).length/\∀i,i<(none::l).length->((none::l).getD i none=none/\((b::u).getD i 0=0\/(b::u).getD i 0=1))\/(none::l).getD i none=some ((b::u).getD i 0):=fun b hb=>by
    refine⟨by rw[yae,yae,h1],fun i hi=>?_⟩
    cases i with
    |zero=>exact .inl ⟨rfl,hb⟩|succ i=>exact h2 i (by simpa using hi)
   rcases hv' with rfl|rfl
   ·exact key 0 (.inl rfl)
   ·exact key 1 (.inr rfl)
  ·rintro⟨h1,h2⟩
   cases v with
   |nil=>cases h1|cons b u=>
    refine⟨u,zcK.mpr ⟨by simpa using h1,fun i hi=>h2 (i+1) (by simpa using hi)⟩,?_⟩
    rcases h2 0 (by simp)with⟨_,h|h⟩|h
    ·have:b=0:=h;rw[this];simp
    ·have:b=1:=h;rw[this];simp
    ·cases h
 |some b::l,v=>by
  show v∈(adm l).map (b::·)↔_;rw[yay];constructor
  ·rintro⟨u,hu,rfl⟩;obtain⟨h1,h2⟩:=zcK.mp hu;refine⟨by rw[yae,yae,h1],fun i hi=>?_⟩
   cases i with
   |zero=>exact .inr rfl|succ i=>exact h2 i (by simpa using hi)
  ·rintro⟨h1,h2⟩
   cases v with
   |nil=>cases h1|cons a u=>
    refine⟨u,zcK.mpr ⟨by simpa using h1,fun i hi=>h2 (i+1) (by simpa using hi)⟩,?_⟩
    rcases h2 0 (by simp)with⟨h,_⟩|h
    ·cases h
    ·have h':b=a:=Option.some.inj h;rw[h']
theorem zeU:∀l,(adm l).Nodup
 |[]=>by show[[]].Nodup;simp
 |none::l=>by
  show((adm l).flatMap fun v=>[0::v,1::v]).Nodup;have hnd:=zeU l;generalize adm l=A at*
  induction A with
  |nil=>exact ycH|cons v A ih=>
   rw[ya7]at hnd;rw[ybb,ycf];refine⟨by simp,ih hnd.2,fun x hx y hy e=>?_⟩;subst e;obtain⟨u,hu,hx2⟩:=ybk.mp hy
   have h1:x=0::v\/x=1::v:=by simpa using hx
   have h2:x=0::u\/x=1::u:=by simpa using hx2
   have:v=u:=by
    rcases h1 with rfl|rfl<;>rcases h2 with h|h<;>injection h
   exact hnd.1 (this ▸ hu)
 |some b::l=>by
  show((adm l).map (b::·)).Nodup;exact ybR.mpr ((zeU l).imp fun h e=>h (by injection e))
noncomputable def KvL(c:Nat)(v:List Int):Kf:=fun i j=>v.getD (i*(c+1)+j) 0
def zdC{x y:Int}(hx:0<=x/\x<16)(hy:0<=y/\y<16):za5 tsC x 1=za5 tsC y 3↔x / 4 % 2=y / 8 % 2/\x / 2 % 2=y % 2:=by
 rw[(zrT hx.1 hx.2).2.1,(zrT hy.1 hy.2).2.2.2];omega
def zdH{x y:Int}(hx:0<=x/\x<16)(hy:0<=y/\y<16):za5 tsC x 2=za5 tsC y 0↔x % 2=y / 8 % 2/\x / 2 % 2=y / 4 % 2:=by
 rw[(zrT hx.1 hx.2).2.2.1,(zrT hy.1 hy.2).1];omega
noncomputable def zfR(r c:Nat)(n:Kf):Kf:=fun a b=>if a<r then(if b<c then n a b / 8 % 2 else n a (c-1) / 4 % 2)else(if b<c then n (r-1) b % 2 else n (r-1) (c-1) / 2 % 2)
def zrg{r c:Nat}{n:Kf}(a b:Nat):zfR r c n a b=0\/zfR r c n a b=1:=by unfold zfR;split<;>split<;>omega
def zj3{r c:Nat}{n:Kf}(R:RtG tsC r c n){i j:Nat}(hi:i<r)(hj:j<c):zaQ (zfR r c n) i j=n i j:=by
 have rg:∀i j,i<r->j<c->0<=n i j/\n i j<16:=fun i j hi hj=>by have:=R.inr i j hi hj;rwa[zfp]at this
 have h0:=rg i j hi hj
 have c1:zfR r c n i j=n i j / 8 % 2:=by unfold zfR;rw[if_pos hi,if_pos hj]
 have c2:zfR r c n i (j+1)=n i j / 4 % 2:=by
  unfold zfR;rw[if_pos hi]
  by_cases h:j+1<c
  ·rw[if_pos h];exact((zdC h0 (rg i (j+1) hi h)).mp (R.east i j hi h)).1.symm
  ·rw[if_neg h,show c-1=j by omega]
 have c3:zfR r c n (i+1) j=n i j % 2:=by
  unfold zfR
  by_cases h:i+1<r
  ·rw[if_pos h,if_pos hj];exact((zdH h0 (rg (i+1) j h hj)).mp (R.south i j h hj)).1.symm
  ·rw[if_neg h,if_pos hj,show r-1=i by omega]
 have c4:zfR r c n (i+1) (j+1)=n i j / 2 % 2:=by
  unfold zfR
  by_cases h:i+1<r
  ·have s:=(zdH h0 (rg (i+1) j h hj)).mp (R.south i j h hj);rw[if_pos h]
   by_cases h':j+1<c
   ·rw[if_pos h',s.2];exact((zdC (rg (i+1) j h hj) (rg (i+1) (j+1) h h')).mp (R.east (i+1) j h h')).1.symm
   ·rw[if_neg h',show c-1=j by omega,s.2]
  ·rw[if_neg h,show r-1=i by omega]
   by_cases h':j+1<c
   ·rw[if_pos h'];exact((zdC h0 (rg i (j+1) hi h')).mp (R.east i j hi h')).2.symm
   ·rw[if_neg h',show c-1=j by omega]
 unfold zaQ;rw[c1,c2,c3,c4];omega
def zqq{r c:Nat}{K:Kf}(h:∀i j,i<=r->j<=c->0<=K i j/\K i j<=1):RtG tsC r c (zaQ K):=by
 have bt:∀i j,i<r->j<c->(0<=zaQ K i j/\zaQ K i j<16)/\zaQ K i j / 8 % 2=K i j/\zaQ K i j / 4 % 2=K i (j+1)/\zaQ K i j / 2 % 2=K (i+1) (j+1)/\zaQ K i j % 2=K (i+1) j:=fun i j hi hj=>by
  have a:=h i j (by omega) (by omega);have b:=h i (j+1) (by omega) (by omega);have d:=h (i+1) (j+1) (by omega) (by omega);have e:=h (i+1) j (by omega) (by omega);unfold zaQ;omega
 refine⟨fun i j hi hj=>by rw[zfp];exact(bt i j hi hj).1,fun i j hi hj=>?_,fun i j hi hj=>?_⟩
 ·have x:=bt i j hi (by omega);have y:=bt i (j+1) hi hj;exact(zdC x.1 y.1).mpr ⟨by rw[x.2.2.1,y.2.1],by rw[x.2.2.2.1,y.2.2.2.2]⟩
 ·have x:=bt i j (by omega) hj;have y:=bt (i+1) j hi hj;exact(zdH x.1 y.1).mpr ⟨by rw[x.2.2.2.2,y.2.1],by rw[x.2.2.2.1,y.2.2.1]⟩
section
variable{r c:Nat}{K:Kf}{ps:List IP}
noncomputable def ptI(c q:Nat):IP:=((q / (c+1):Nat),(q % (c+1):Nat))
def cst(r c:Nat)(K:Kf)(ps:List IP):List (Option Int):=(List.range ((r+1)*(c+1))).map fun q=>if ptI c q∈ps then some (K (q / (c+1)) (q % (c+1)))else none
def zmw{a b:Nat}(ha:a<=r)(hb:b<=c):a*(c+1)+b<(r+1)*(c+1):=by
 have:a*(c+1)<=r*(c+1):=ycp _ ha;rw[ycg];omega
def zfn{a b:Nat}(hb:b<=c):(a*(c+1)+b) / (c+1)=a/\(a*(c+1)+b) % (c+1)=b:=by
 constructor
 ·rw[yaX,Nat.mul_add_div (by omega),Nat.div_eq_of_lt (by omega)];rfl
 ·rw[yaX,Nat.mul_add_mod,Nat.mod_eq_of_lt (by omega)]
def zrH{q:Nat}(h:q<(r+1)*(c+1)):q / (c+1)<=r/\q % (c+1)<=c/\q / (c+1)*(c+1)+q % (c+1)=q:=by
 refine⟨?_,?_,?_⟩
 ·have:q / (c+1)<r+1:=ycq (by rw[yaX];exact h);omega
 ·have:=ycN q (show 0<c+1 by omega);omega
 ·rw[yaX];exact ybO q (c+1)
def zfQ:(cst r c K ps).length=(r+1)*(c+1):=by unfold cst;rw[yaf,ybn]
def zkH{a b:Nat}(ha:a<=r)(hb:b<=c):(cst r c K ps).getD (a*(c+1)+b) none=if((a:Int),(b:Int))∈ps then some (K a b)else none:=by
 unfold cst;rw[yab,yar,ybE (zmw ha hb)];show(if ptI c _∈ps then _ else _)=_;unfold ptI;rw[(zfn hb).1,(zfn hb).2]
noncomputable def B01(r c:Nat)(K:Kf):Prop:=∀i j,i<=r->j<=c->0<=K i j/\K i j<=1
def nb(h:B01 r c K){i j:Nat}(hi:i<r)(hj:j<c):zaQ K i j / 8 % 2=K i j/\zaQ K i j / 4 % 2=K i (j+1)/\zaQ K i j / 2 % 2=K (i+1) (j+1)/\zaQ K i j % 2=K (i+1) j:=by
 have a:=h i j (by omega) (by omega);have b:=h i (j+1) (by omega) (by omega);have d:=h (i+1) (j+1) (by omega) (by omega);have e:=h (i+1) j (by omega) (by omega);unfold zaQ;omega
def zqv{K':Kf}(h:B01 r c K)(h':B01 r c K'){i j a b:Nat}(hi:i<r)(hj:j<c)(e:zaQ K i j=zaQ K' i j)(ha:a=i\/a=i+1)(hb:b=j\/b=j+1):K a b=K' a b:=by
 obtain⟨x1,x2,x3,x4⟩:=nb h hi hj;obtain⟨y1,y2,y3,y4⟩:=nb h' hi hj;rw[e]at x1 x2 x3 x4
 rcases ha with rfl|rfl<;>rcases hb with rfl|rfl
 ·rw[<-x1,y1]
 ·rw[<-x2,y2]
 ·rw[<-x4,y4]
 ·rw[<-x3,y3]
def zoR{v:List Int}(hK:B01 r c K)(hv:v∈adm (cst r c K ps)):B01 r c (KvL c v)/\∀a b:Nat,a<=r->b<=c->((a:Int),(b:Int))∈ps->KvL c v a b=K a b:=by
 obtain⟨h1,h2⟩:=zcK.mp hv
 have key:∀a b:Nat,a<=r->b<=c->(¬ ((a:Int),(b:Int))∈ps/\(KvL c v a b=0\/KvL c v a b=1))\/(((a:Int),(b:Int))∈ps/\KvL c v a b=K a b):=fun a b ha hb=>by
  have:=h2 (a*(c+1)+b) (by rw[zfQ];exact zmw ha hb);rw[zkH ha hb]at this
  by_cases hm:((a:Int),(b:Int))∈ps
  ·rw[if_pos hm]at this
   rcases this with⟨z,_⟩|z
   ·cases z
   ·exact .inr ⟨hm,(Option.some.inj z).symm⟩
  ·rw[if_neg hm]at this
   rcases this with⟨_,z⟩|z
   ·exact .inl ⟨hm,z⟩
   ·cases z
 refine⟨fun a b ha hb=>?_,fun a b ha hb hm=>?_⟩
 ·rcases key a b ha hb with⟨_,z|z⟩|⟨_,z⟩
  ·rw[z];omega
  ·rw[z];omega
  ·rw[z];exact hK a b ha hb
 ·rcases key a b ha hb with⟨z,_⟩|⟨_,z⟩
  ·exact absurd hm z
  ·exact z
def zlU{G G':Nat->Nat->Int}(hc:1<=c)(e:∀i j,i<r->j<c->G i j=G' i j):lsG r c G=lsG r c G':=by
 apply yaV;intro k
 by_cases h:k<r*c
 ·have q:∀G:Nat->Nat->Int,(lsG r c G)[k]?=some (G (k / c) (k % c)):=fun G=>by
   unfold lsG;rw[yar,zes hc h];rfl
  rw[q,q,e _ _ (ycq (by rw[yaX];exact h)) (ycN _ hc)]
 ·rw[yaB (by rw[zey];omega),yaB (by rw[zey];omega)]
def zi1(hr:1<=r)(hc:1<=c)(hK:B01 r c K){U:Nat->Nat->Bool}{g:Z1}(hg:∀i j,i<r->j<c->g i j=if U i j then some (zaQ K i j)else none)
  (hps:∀a b:Nat,a<=r->b<=c->(((a:Int),(b:Int))∈ps↔∃i j,i<r/\j<c/\U i j=true/\(a=i\/a=i+1)/\(b=j\/b=j+1))):(zd2 tsC r c g).length=2 ^ free (cst r c K ps):=by
 rw[<-zhF]
 have inj:∀v∈adm (cst r c K ps),∀u∈adm (cst r c K ps),lsG r c (zaQ (KvL c v))=lsG r c (zaQ (KvL c u))->v=u:=fun v hv u hu e=>by
  have bv:=(zoR hK hv).1;have bu:=(zoR hK hu).1;have lv:=(zcK.mp hv).1;have lu:=(zcK.mp hu).1;rw[zfQ]at lv lu
  have en:∀i j,i<r->j<c->zaQ (KvL c v) i j=zaQ (KvL c u) i j:=fun i j hi hj=>by
   rw[<-zgZ (G:=zaQ (KvL c v)) hi hj,e,zgZ hi hj]
  apply yaV;intro q
  by_cases hq:q<(r+1)*(c+1)
  ·obtain⟨q1,q2,q3⟩:=zrH hq
   have:KvL c v (q / (c+1)) (q % (c+1))=KvL c u (q / (c+1)) (q % (c+1)):=by
    generalize q / (c+1)=a at*;generalize q % (c+1)=b at*;refine zqv bv bu (i:=if a<r then a else r-1) (j:=if b<c then b else c-1) (by split<;>omega) (by split<;>omega) (en _ _ (by split<;>omega) (by split<;>omega)) ?_ ?_
    ·split<;>omega
    ·split<;>omega
   unfold KvL at this;rw[q3]at this;rw[yab,yab,yad (by omega),yad (by omega)]at this;rw[yad (by omega),yad (by omega)];exact congrArg some this
  ·rw[yaB (by omega),yaB (by omega)]
 have pe:(zd2 tsC r c g).Perm ((adm (cst r c K ps)).map fun v=>lsG r c (zaQ (KvL c v))):=by
  refine(List.perm_ext_iff_of_nodup zgE ?_).mpr fun t=>?_
  ·have hn:=zeU (cst r c K ps);refine ybR.mpr ?_;exact List.Pairwise.imp_of_mem (fun {v u} hv hu h e=>h (inj v hv u hu e)) hn
  ·rw[yay];constructor
   ·intro ht;obtain⟨hl,R,ag⟩:=(zfe hc).mp ht
    have bc:B01 r c (zfR r c (tnG c t)):=fun a b _ _=>by rcases zrg (r:=r) (c:=c) (n:=tnG c t) a b with z|z<;>rw[z]<;>omega
    refine⟨(List.range ((r+1)*(c+1))).map fun q=>zfR r c (tnG c t) (q / (c+1)) (q % (c+1)),?_,?_⟩
    ·refine zcK.mpr ⟨by rw[yaf,ybn,zfQ],fun q hq=>?_⟩;rw[zfQ]at hq;obtain⟨q1,q2,q3⟩:=zrH hq
     have ev:((List.range ((r+1)*(c+1))).map fun q=>zfR r c (tnG c t) (q / (c+1)) (q % (c+1))).getD q 0=zfR r c (tnG c t) (q / (c+1)) (q % (c+1)):=by
      rw[yab,yar,ybE hq];rfl
     have eL:=zkH (K:=K) (ps:=ps) q1 q2;rw[q3]at eL;rw[ev,eL];generalize q / (c+1)=a at*;generalize q % (c+1)=b at*
     by_cases hm:((a:Int),(b:Int))∈ps
     ·rw[if_pos hm];obtain⟨i,j,hi,hj,hu,ha,hb⟩:=(hps a b q1 q2).mp hm;have:=ag i j hi hj;rw[hg i j hi hj,hu,if_pos rfl]at this
      rcases this with z|z
      ·cases z
      ·refine .inr (congrArg some (zqv hK bc hi hj ?_ ha hb));rw[zj3 R hi hj];exact Option.some.inj z
     ·rw[if_neg hm];exact .inl ⟨rfl,zrg _ _⟩
    ·refine Eq.trans ?_ (zoc hc hl);refine zlU hc fun i j hi hj=>?_
     rw[<-zj3 R hi hj]
     have ek:∀a b,a<=r->b<=c->KvL c ((List.range ((r+1)*(c+1))).map fun q=>zfR r c (tnG c t) (q / (c+1)) (q % (c+1))) a b=zfR r c (tnG c t) a b:=fun a b ha hb=>by
      unfold KvL;rw[yab,yar,ybE (zmw ha hb)];show zfR r c (tnG c t) _ _=_;rw[(zfn hb).1,(zfn hb).2]
     unfold zaQ;rw[ek i j (by omega) (by omega),ek i (j+1) (by omega) (by omega),ek (i+1) (j+1) (by omega) (by omega),ek (i+1) j (by omega) (by omega)]
   ·rintro⟨v,hv,rfl⟩;obtain⟨bv,kv⟩:=zoR hK hv;refine(ziQ hc).mpr ⟨zqq bv,fun i j hi hj=>?_⟩;rw[hg i j hi hj]
    cases hu:U i j with
    |false=>exact .inl rfl|true=>
     refine .inr (congrArg some ?_);have ek:∀a b,(a=i\/a=i+1)->(b=j\/b=j+1)->KvL c v a b=K a b:=fun a b ha hb=>kv a b (by omega) (by omega) ((hps a b (by omega) (by omega)).mpr ⟨i,j,hi,hj,hu,ha,hb⟩)
     unfold zaQ;rw[ek i j (.inl rfl) (.inl rfl),ek i (j+1) (.inl rfl) (.inr rfl),ek (i+1) (j+1) (.inr rfl) (.inr rfl),ek (i+1) j (.inr rfl) (.inl rfl)]
 rw[pe.length_eq,yaf]
theorem ze5{α:Type}(p:α->Bool):∀l:List α,(l.filter fun x=>!p x).length+(l.filter p).length=l.length
 |[]=>rfl|a::l=>by
  have:=ze5 p l;rw[ycl,ycl]
  cases p a<;>simp<;>omega
theorem zfO:∀l:List (Option Int),free l=(l.filter fun o=>o.isNone).length
 |[]=>rfl|none::l=>by show free l+1=_;rw[zfO l];rfl
 |some b::l=>by show free l=_;rw[zfO l];rfl
def zmd(hnd:ps.Nodup)(hin:∀p∈ps,∃a b:Nat,a<=r/\b<=c/\p=((a:Int),(b:Int))):free (cst r c K ps)+ps.length=(r+1)*(c+1):=by
 have e1:free (cst r c K ps)=((List.range ((r+1)*(c+1))).filter fun q=>!decide (ptI c q∈ps)).length:=by
  rw[zfO];unfold cst;rw[List.filter_map,yaf];congr 2;funext q;show(if ptI c q∈ps then some _ else none).isNone=_
  by_cases h:ptI c q∈ps
  ·rw[if_pos h,yaK h];rfl
  ·rw[if_neg h,yaN h];rfl
 have e2:ps.length=((List.range ((r+1)*(c+1))).filter fun q=>decide (ptI c q∈ps)).length:=by
  have pe:ps.Perm (((List.range ((r+1)*(c+1))).filter fun q=>decide (ptI c q∈ps)).map (ptI c)):=by
   refine(List.perm_ext_iff_of_nodup hnd ?_).mpr fun p=>?_
   ·refine ybR.mpr (List.Pairwise.imp_of_mem (fun {x y} hx hy h e=>h ?_) ((List.nodup_range (n:=(r+1)*(c+1))).filter _));have lx:=yaS.mp (yaZ.mp hx).1;have ly:=yaS.mp (yaZ.mp hy).1;obtain⟨_,_,x3⟩:=zrH lx;obtain⟨_,_,y3⟩:=zrH ly;unfold ptI at e
    injection e with e1 e2
    rw[<-x3,<-y3,Int.ofNat.inj e1,Int.ofNat.inj e2]
   ·rw[yay];constructor
    ·intro hp;obtain⟨a,b,ha,hb,rfl⟩:=hin p hp
     have e:ptI c (a*(c+1)+b)=((a:Int),(b:Int)):=by unfold ptI;rw[(zfn hb).1,(zfn hb).2]
     exact⟨a*(c+1)+b,yaZ.mpr ⟨yaS.mpr (zmw ha hb),yaK (by rw[e];exact hp)⟩,e⟩
    ·rintro⟨q,hq,rfl⟩;exact yak (yaZ.mp hq).2
  rw[pe.length_eq,yaf]
 rw[e1,e2];have:=ze5 (fun q=>decide (ptI c q∈ps)) (List.range ((r+1)*(c+1)));rwa[ybn]at this
end
end S2
namespace S2.L61
open PySem
open L2 hiding D
noncomputable def zuB:List (Str×Str):=[("NoPlace","FloorError"),("NoTile","FloorError")]
def isL:Str->Str->Option Bool:=zrQ ["NoPlace","NoTile"] ["FloorError","NoPlace","NoTile","NoFill","Unlike","Nothing","NoText"]
noncomputable def zdi:Fs:=
  (zai (sFz [] (zbi 1 true (zgI [(eUn (zkn isL "NoFill") (zaf 0)),(eUn (zkn isL "NoPlace") (zaf 0)),(eUn (zkn isL "NoText") (zaf 0)),(eUn (zkn isL "NoTile") (zaf 0))])))
  (zai (sFz [] (zpQ 1 (zgI [(eUn (zkn isL "Nothing") (zaf 0)),(eUn (zkn isL "Unlike") (zaf 0))])))
  (zai (sFz [] (sIf (eOr (zac neD (eMt zeQ 1 (zab (.bl true))) (zab (.int 1))) (eUn zd6 (eUn (zkn isL "ValueError") (zaf 0)))) (zai (sFz [] (za4 (zab (.str "wrong")))) sNx) sNx))
  (zai (sFz [] (za4 (zac ixD (zgI [(zab (.str "no fill")),(zab (.str "no place")),(zab (.str "no text")),(zab (.str "no tile")),(zab (.str "nothing")),(zab (.str "unlike"))]) (eMt zeG 1 (zab (.bl true))))))
  sNx))))
noncomputable def zck:List S2.D->Sto->Out S2.D:=zbt 2 false zdi
noncomputable def zdz:Fs:=
  (zai (sFz [] (zbi 3 false (zab .non)))
  (zai (sFz [] (zbi 4 false (zab .non)))
  (zai (sFz [] (zpN (zrF zuB) "FloorError" 5 3 (zai (sFz [0,1,2] (zbi 4 false (eFn zax [(zad 0),(zad 1),(zad 2)]))) sNx)))
  (zai (sFz [] (sIf (zac zl6 (zaf 3) (zab .non)) (zai (sFz [4] (za4 (zad 4))) sNx) sNx))
  (zai (sFz [3] (za4 (eFn zck [(zad 3)])))
  sNx)))))
noncomputable def zbm:List S2.D->Sto->Out S2.D:=zbt 6 false zdz
noncomputable def zfW:Fs:=
  (zai (sFz [] (zgg 14 (zcb [(zad 7),(zac ixD (zaf 10) (zab (.int 1)))]))) (zai (sFz [] (zgg 14 (zcb [(zad 7),(zac zbC (zac ixD (zaf 10) (zab (.int 1))) (zab (.int 1)))]))) sNx))
noncomputable def zeT:Fs:=
  (zai (sFz [0] (sIf (zac eqD (eFn zaI [(zad 0),(zac zbC (zab (.int 100)) (zaf 16)),(zab (.int 2))]) (zab (.int 0))) (zai (sFz [12,15,10] (zbi 15 false (eFn zbP [(zad 12),(zad 15),(zad 10),(zac ixD (zac ixD (zaf 4) (zac ixD (zaf 10) (zab (.int 0)))) (zac ixD (zaf 10) (zab (.int 1))))]))) (zai (sFz [] (zjc (.one 7) (za6 (zcb [(zac ixD (zaf 10) (zab (.int 0))),(zac zbC (zac ixD (zaf 10) (zab (.int 0))) (zab (.int 1)))])) zfW)) sNx)) sNx)) sNx)
noncomputable def zfq:Fs:=zai (sFz [12,15] (za4 (zac eqD (eFn zay [(zad 12),(zad 15)]) (eFn zbA [(zac zft (zac zdY (zac zbC (zaf 1) (zab (.int 1))) (zac zbC (zaf 2) (zab (.int 1)))) (zkE 14))])))) sNx
noncomputable def zhM:Fs:=zai (sFz [4] (zjc (.tup [16,10]) (zkF (eFn zaV [(zad 4)])) zeT)) zfq
noncomputable def zhN:Fs:=zai (sFz [13] (zbi 15 false (zad 13))) zhM
noncomputable def zhO:Fs:=zai (sFz [] (zbi 14 true zmj)) zhN
noncomputable def zjn:Fs:=zai (sFz [12,13] (sIf (zac neD (eFn zay [(zad 12),(zad 13)]) (eFn zbA [(zac zdY (zac zbC (zaf 1) (zab (.int 1))) (zac zbC (zaf 2) (zab (.int 1))))])) (zai (sFz [] (za4 (zab (.bl false)))) sNx) sNx)) zhO
noncomputable def zjo:Fs:=zai (sFz [1,2] (zbi 13 false (eFn zfD [(zad 1),(zad 2)]))) zjn
noncomputable def zg0:Fs:=zai (sFz [] (zbi 12 false (eFn zb1 []))) zjo
noncomputable def zcB:Fs:=zai (sFz [] (sIf (eOr (eUn zd6 (zb5 leD leD (zab (.int 0)) (zac ixD (zaf 5) (zab (.int 0))) (zaf 1))) (eUn zd6 (zb5 leD leD (zab (.int 0)) (zac ixD (zaf 5) (zab (.int 1))) (zaf 2)))) (zai (sFz [] (sIf (zac neD (zaf 6) (zab (.str "no place"))) (zai (sFz [] (za4 (zab (.bl false)))) sNx) sNx)) sNx) (zai (sFz [3] (zg9 8 (zfj 1 (.one 0) (za6 (zad 3)) zeM (zaR zhl [(zaf 0)]) []))) (zai (sFz [] (zg6 8 5 0 1 (zab (.int 1)))) (zai (sFz [8] (sIf (zac neD (zaf 6) (zaR zcd [(zcQ 1 (.one 0) (za6 (zad 8)) zeM (zaR zcd [(zaf 0)]) [])])) (zai (sFz [] (za4 (zab (.bl false)))) sNx) sNx)) (zai (sFz [3,5] (zbi 9 false (eFn zbN [(eFn zbm [(zad 3),(zad 5),(zac zft (zab (.int 1)) (zac ixD (zac ixD (zaf 3) (zac ixD (zaf 5) (zab (.int 0)))) (zac ixD (zaf 5) (zab (.int 1)))))])]))) (zai (sFz [4,5] (zbi 11 true (zcQ 1 (.one 0) (za6 (eFn zaV [(zad 4)])) (zf2 (zac inD (zac zft (zac ixD (zaf 1) (zab (.int 0))) (zac ixD (zaf 0) (zab (.int 0)))) (zcb [(zab (.int 0)),(zab (.int 1))])) (zac inD (zac zft (zac ixD (zaf 1) (zab (.int 1))) (zac ixD (zaf 0) (zab (.int 1)))) (zcb [(zab (.int 0)),(zab (.int 1))]))) (zad 0) [5]))) (zai (sFz [4,9,3,5] (sIf (eOr (zac neD (eFn zcj [(zad 4),(zad 9)]) (zaf 11)) (zac neD (eFn zby [(zad 3),(zad 5)]) (zaf 11))) (zai (sFz [] (za4 (zab (.bl false)))) sNx) sNx)) sNx)))))))) zg0
noncomputable def zg1:Fs:=zai (sFz [3,5] (zbi 6 false (eFn zbm [(zad 3),(zad 5),(zab (.int 1))]))) zcB
noncomputable def zg2:Fs:=zai (sFz [0,0] (zbi 5 false (zcb [(zac zft (eFn zaI [(zad 0),(zab (.int 91)),(zac zbC (zaf 1) (zab (.int 3)))]) (zab (.int 1))),(zac zft (eFn zaI [(zad 0),(zab (.int 92)),(zac zbC (zaf 2) (zab (.int 3)))]) (zab (.int 1)))]))) zg1
noncomputable def zg3:Fs:=zai (sFz [3] (zbi 4 false (eFn zbN [(zad 3)]))) zg2
noncomputable def zg4:Fs:=zai (sFz [0,1,2] (zbi 3 false (eFn za9 [(zad 0),(zab (.int 0)),(zad 1),(zad 2)]))) zg3
noncomputable def zg5:Fs:=zai (sFz [0] (ziJ (.tup [1,2]) (zac ixD (zgI [(zcb [(zab (.int 1)),(zab (.int 1))]),(zcb [(zab (.int 1)),(zab (.int 2))]),(zcb [(zab (.int 2)),(zab (.int 1))]),(zcb [(zab (.int 2)),(zab (.int 2))]),(zcb [(zab (.int 1)),(zab (.int 3))])]) (eFn zaI [(zad 0),(zab (.int 90)),(zab (.int 5))])))) zg4
noncomputable def zmh:Fs:=
  zg5
noncomputable def znM:List S2.D->Sto->Out S2.D:=zbt 17 false zmh
def zgh{n:Nat}{S:Sto}(hn:n<=30):zbA [.int n] S=.ok (.int ((2 ^ n:Nat):Int)) S:=by
 obtain⟨ρ',e,y,rfl⟩:=zdv (tg:=.one 2) (body:=zcc) (ds:=zaA 0 n) (S:=S) (fun k ρ=>∃y,ρ=[some (false,.int n),some (false,.int ((2 ^ k:Nat):Int)),y]) (by
  rintro k d ρ hd ⟨y,rfl⟩;obtain⟨rfl,hk⟩:=zcE hd;refine⟨_,_,rfl,?_,some (false,.int k),rfl⟩
  have e2:(2:Int)*((2 ^ k:Nat):Int)=((2 ^ (k+1):Nat):Int):=by rw[Nat.pow_succ];omega
  rw[<-e2];generalize ((2 ^ k:Nat):Int)=z
  simp[zcc,zq6]) (ρ:=[some (false,.int n),some (false,.int 1),none]) ⟨none,rfl⟩
 rw[zgn]at e;simp only[ya8]at e
 have hb:-1000000<=(n:Int)/\(n:Int)<=1000000:=by omega
 generalize ((2 ^ n:Nat):Int)=z at*;simp[zbA,zap,zcP,e,hb]
section
variable{r c i j:Nat}{g:Z1}{o:Option Int}{S:Sto}{K:Kf}
def zmJ(h1:1<=r)(hi:i<r)(hj:j<c)(hr:r<=100)(hc:c<=100):zax [flr r c g,plD i j,oD o] S=.ok (flr r c (zgW g i j o)) S:=by
 have e1:=zel (g:=g) (S:=S) h1 hi hj;have e2:=zcC (g:=g) (o:=o) (S:=S) hi hj hr hc;generalize flr r c (zgW g i j o)=F at*;generalize flr r c g=G at*;generalize plD i j=P at*;generalize oD o=O at*;simp[zax,zap,zbJ,e1,e2]
def ziK{a b:Int}{d:D}(h1:1<=r)(h:¬ ((0<=a/\a<r)/\0<=b/\b<c)):zax [flr r c g,.tup [.int a,.int b],d] S=.exc "NoPlace" S:=by
 have hp:zaW [flr r c g,.tup [.int a,.int b]] S=.ok (.bl false) S:=by rw[zci h1,yaN h]
 have e1:zaq [flr r c g,.tup [.int a,.int b]] S=.exc "NoPlace" S:=by
  generalize flr r c g=G at*;simp[zaq,zap,zbd,hp]
 generalize flr r c g=G at*;simp[zax,zap,zbJ,e1]
def zlr:zck [.exc "NoPlace"] S=.ok (.str "no place") S:=by
 have e1:isL "NoPlace" "NoFill"=some false:=by decide
 have e2:isL "NoPlace" "NoPlace"=some true:=by decide
 have e3:isL "NoPlace" "NoText"=some false:=by decide
 have e4:isL "NoPlace" "NoTile"=some false:=by decide
 have e5:isL "NoPlace" "Nothing"=some false:=by decide
 have e6:isL "NoPlace" "Unlike"=some false:=by decide
 have e7:isL "NoPlace" "ValueError"=some true:=by decide
 have c1:zeQ [.bl false,.bl true,.bl false,.bl false,.bl false,.bl false] (.bl true)=some (.int 1):=by rfl
 have c2:zeG [.bl false,.bl true,.bl false,.bl false,.bl false,.bl false] (.bl true)=some (.int 1):=by rfl
 have c3:atI [D.str "no fill",.str "no place",.str "no text",.str "no tile",.str "nothing",.str "unlike"] 1=some (.str "no place"):=by rfl
 simp[zck,zap,zdi,e1,e2,e3,e4,e5,e6,e7,c1,c2,c3]
def zrd{x y z d:D}(h:zax [x,y,z] S=.ok d S):zbm [x,y,z] S=.ok d S:=by
 simp[zbm,zap,zdz,h]
def zrc{x y z:D}(h:zax [x,y,z] S=.exc "NoPlace" S):zbm [x,y,z] S=.ok (.str "no place") S:=by
 have u:zrF zuB "NoPlace" "FloorError"=true:=by decide
 simp[zbm,zap,zdz,h,u,zlr]
noncomputable def zew(a b:Nat):D->Bool|.tup [.int i,.int j]=>decide ((a:Int)-i=0\/(a:Int)-i=1)&&decide ((b:Int)-j=0\/(b:Int)-j=1)|_=>false
noncomputable def inB(r c:Nat):D->Bool|.tup [.int i,.int j]=>decide ((0<=i/\i<(r:Int))/\0<=j/\j<(c:Int))|_=>false
noncomputable def arL(a b:Nat):List D:=[.tup [.int ((a:Int)-1),.int ((b:Int)-1)],.tup [.int ((a:Int)-1),.int b],.tup [.int a,.int ((b:Int)-1)],.tup [.int a,.int b]]
def ziM{a b:Nat}(h1:1<=r)(hr:r<=100)(hc:c<=100):zby [flr (r+1) (c+1) (someK K),plD a b] S=.ok (.lst ((arL a b).filter (inB r c))) S:=by
 have e1:=zcD (K:=K) (S:=S) (r:=r) (c:=c) (by omega) (by omega)
 have e2:=zcR (tg:=.one 0) (c:=eFn zaW [(zad 1),(zad 0)]) (elt:=zad 0) (ρ0:=[none,some (false,flr r c (someK (zaQ K)))]) (S:=S) (g:=id) (p:=inB r c) (ds:=arL a b) (by
  intro d hd
  have hh:∃i j:Int,d=.tup [.int i,.int j]:=by
   unfold arL at hd;simp only[yav,yaL,yb4]at hd
   rcases hd with rfl|rfl|rfl|rfl<;>exact⟨_,_,rfl⟩
  obtain⟨i,j,rfl⟩:=hh;have hp:=zci (r:=r) (c:=c) (g:=someK (zaQ K)) (i:=i) (j:=j) (S:=S) h1;refine⟨_,rfl,?_,fun _=>?_⟩
  ·generalize flr r c (someK (zaQ K))=F at*;simp[hp,inB]
  ·simp)
 rw[List.map_id]at e2
 have hl:((arL a b).filter (inB r c)).length<=100000:=by
  have:=ybx (inB r c) (arL a b);have h4:(arL a b).length=4:=rfl;omega
 unfold arL at e2 hl ⊢;unfold plD;generalize flr (r+1) (c+1) (someK K)=F0 at*;generalize flr r c (someK (zaQ K))=F at*;have d0:ixD (.tup [.int (a:Int),.int (b:Int)]) (.int 0)=some (.int a):=zal _ 0;have d1:ixD (.tup [.int (a:Int),.int (b:Int)]) (.int 1)=some (.int b):=zal _ 1;generalize List.filter (inB r c) _=R at*;simp[zby,zap,zb8,e1,e2,hl,d0,d1]
end
end S2.L61
namespace S2
open PySem
open L2 hiding D
noncomputable def R3(f:Nat):=zk5 8 5 4 ze1 zct zdA f
def ziL{r c:Nat}{S:Sto}(hr1:1<=r)(hr:r<=100)(hc1:1<=c)(hc:c<=100):zfD [.int r,.int c] S=.ok (flr r c fun _ _=>none) S:=by
 have e1:zdY (.tup [.non]) (.int (c:Int))=some (.tup (zce c fun _=>none)):=by
  show(if _ then _ else _)=_;rw[if_pos (by simp;omega),ya8,znK]
 have e2:zdY (.tup [.tup (zce c fun _=>none)]) (.int (r:Int))=some (flr r c fun _ _=>none):=by
  show(if _ then _ else _)=_;rw[if_pos (by simp;omega),ya8,znL];rfl
 simp[zfD,zap,zht,e1,e2]
section
variable{ts:Z2}{r c:Nat}{g h:Z1}
def zmY{a b:Int}:eqD (.int a) (.int b)=some (.bl (decide (a=b))):=by
 simp[eqD,zfa,D.py,PyData.eqv];rfl
end
end S2
namespace S2.L61
open PySem
open L2 hiding D
section
variable{r c a b:Nat}{K:Kf}{S:Sto}{ρ:Env}
noncomputable def Sz(r c:Nat):Prop:=(r=1/\c=1)\/(r=1/\c=2)\/(r=2/\c=1)\/(r=2/\c=2)\/(r=1/\c=3)
def zhE(h:Sz r c)(ha:a<=r)(hb:b<=c):(arL a b).filter (inB r c)=(zcA r c).filter (zew a b):=by
 rcases h with⟨rfl,rfl⟩|⟨rfl,rfl⟩|⟨rfl,rfl⟩|⟨rfl,rfl⟩|⟨rfl,rfl⟩ <;>
 ·have h1:a=0\/a=1\/a=2:=by omega
  have h2:b=0\/b=1\/b=2\/b=3:=by omega
  rcases h1 with rfl|rfl|rfl<;>rcases h2 with rfl|rfl|rfl|rfl<;>first|omega|rfl
noncomputable def chK(K:Kf)(a b:Nat)(x:Int):Kf:=fun i j=>if i=a/\j=b then x else K i j
def zkP{x:Int}:zgW (someK K) a b (some x)=someK (chK K a b x):=by
 funext i j;show(if i=a/\j=b then some x else some (K i j))=some (if i=a/\j=b then x else K i j);split<;>rfl
def zn8{i j:Nat}:zew a b (plD i j)=true↔(a=i\/a=i+1)/\(b=j\/b=j+1):=by
 show(decide _&&decide _)=true↔_;rw[yac,ybp,ybp];omega
def zhA:(zcA r c).filter (zoW (someK (zaQ K)) (someK (zaQ (chK K a b (1-K a b)))))=(zcA r c).filter (zew a b):=by
 apply List.filter_congr;intro d hd;obtain⟨i,j,hi,hj,rfl⟩:=zc9 hd;rw[zqt,ybA,zn8,yaW,yb7];have e:(someK (zaQ K) i j=someK (zaQ (chK K a b (1-K a b))) i j)↔zaQ K i j=zaQ (chK K a b (1-K a b)) i j:=⟨fun h=>Option.some.inj h,fun h=>congrArg some h⟩;rw[e];unfold zaQ chK
 by_cases h1:a=i
 ·subst h1
  by_cases h2:b=j
  ·subst h2;simp;omega
  ·by_cases h3:b=j+1
   ·subst h3;simp;omega
   ·have h2':¬ j=b:=fun z=>h2 z.symm
    have h3':¬ j+1=b:=fun z=>h3 z.symm
    simp[h2,h3,h2',h3']
 ·have h1':¬ i=a:=fun z=>h1 z.symm
  by_cases h4:a=i+1
  ·subst h4
   by_cases h2:b=j
   ·subst h2;simp;omega
   ·by_cases h3:b=j+1
    ·subst h3;simp;omega
    ·have h2':¬ j=b:=fun z=>h2 z.symm
     have h3':¬ j+1=b:=fun z=>h3 z.symm
     simp[h2,h3,h2',h3']
  ·have h4':¬ i+1=a:=fun z=>h4 z.symm
   simp[h1,h4,h1',h4']
def zuC{x:Int}:inD (.int x) (.tup [.int 0,.int 1])=some (.bl (decide (x=0\/x=1))):=by
 have e:∀a:Int,zfa (.int a) (.int x)=decide (a=x):=fun a=>by simp[zfa,D.py,PyData.eqv];rfl
 have m:zk6 (.int x) [.int 0,.int 1]=decide (x=0\/x=1):=by
  unfold zk6;rw[ybA];simp[e];omega
 show some (D.bl (zk6 (.int x) [.int 0,.int 1]))=_;rw[m]
def zj5:zaS (.one 0) (zf2 (zac inD (zac zft (zac ixD (zaf 1) (zab (.int 0))) (zac ixD (zaf 0) (zab (.int 0)))) (zcb [(zab (.int 0)),(zab (.int 1))])) (zac inD (zac zft (zac ixD (zaf 1) (zab (.int 1))) (zac ixD (zaf 0) (zab (.int 1)))) (zcb [(zab (.int 0)),(zab (.int 1))]))) (zad 0) [none,some (false,plD a b)] (zcA r c) S=.ok ((zcA r c).filter (zew a b)) S:=by
 have e:=zcR (tg:=.one 0) (c:=(zf2 (zac inD (zac zft (zac ixD (zaf 1) (zab (.int 0))) (zac ixD (zaf 0) (zab (.int 0)))) (zcb [(zab (.int 0)),(zab (.int 1))])) (zac inD (zac zft (zac ixD (zaf 1) (zab (.int 1))) (zac ixD (zaf 0) (zab (.int 1)))) (zcb [(zab (.int 0)),(zab (.int 1))])))) (elt:=zad 0) (ρ0:=[none,some (false,plD a b)]) (S:=S) (g:=id) (p:=zew a b) (ds:=zcA r c) (by
  intro d hd;obtain⟨i,j,hi,hj,rfl⟩:=zc9 hd;have d0:ixD (plD a b) (.int 0)=some (.int a):=zal _ 0;have d1:ixD (plD a b) (.int 1)=some (.int b):=zal _ 1;have f0:ixD (plD i j) (.int 0)=some (.int i):=zal _ 0;have f1:ixD (plD i j) (.int 1)=some (.int j):=zal _ 1;have en:zew a b (plD i j)=(decide ((a:Int)-i=0\/(a:Int)-i=1)&&decide ((b:Int)-j=0\/(b:Int)-j=1)):=rfl;refine⟨_,rfl,?_,fun _=>rfl⟩;rw[en];have t1:=zuC (x:=(a:Int)-i);have t2:=zuC (x:=(b:Int)-j);generalize plD a b=P at*;generalize plD i j=Q at*
  by_cases h1:(a:Int)-i=0\/(a:Int)-i=1
  ·rw[yaK h1]at t1 ⊢;simp[d0,d1,f0,f1,t1,t2]
  ·rw[yaN h1]at t1 ⊢
   simp[d0,d1,f0,f1,t1])
 rwa[List.map_id]at e
def zl1(i:Nat)(ρ:Env)(ps:List IP):Out D->Fo|.ok d S1=>(match zhi d with|some p=>if ps.length<=100000 then .nx (ρ.set i (some (true,zd9 (zdb ps p)))) S1 else .bad|none=>.bad)|.exc c S1=>.ex c ρ S1|.bad=>.bad
def isd(ps:List IP):ziX (zd9 ps)=some ps:=zhZ ps
noncomputable def zok(i:Nat)(f:Fe)(ρ:Env)(S:Sto)(o:Option (Option (Bool×D))):Fo:=match(match o with|some (some (true,d))=>ziX d|_=>none)with|some ps=>zl1 i ρ ps (f ρ S)|none=>.bad
@[simp] def zr3{i:Nat}{f:Fe}:zgg i f ρ S=zok i f ρ S ρ[i]?:=by
 show zgg i f ρ S=(match zgc i ρ with|some ps=>zl1 i ρ ps (f ρ S)|none=>.bad);unfold zgg
 cases zgc i ρ with
 |none=>rfl|some ps=>cases f ρ S<;>rfl
@[simp] def zs1{i:Nat}{f:Fe}{ps:List IP}:zok i f ρ S (some (some (true,zd9 ps)))=zl1 i ρ ps (f ρ S):=by
 unfold zok;dsimp only;rw[isd]
@[simp] def zva{i:Nat}{x y:Int}{ps:List IP}:zl1 i ρ ps (.ok (.tup [.int x,.int y]) S)=if ps.length<=100000 then .nx (ρ.set i (some (true,zd9 (zdb ps (x,y))))) S else .bad:=(rfl)
noncomputable def zom(S:Sto)(o:Option (Option (Bool×D))):Out D:=match(match o with|some (some (true,d))=>ziX d|_=>none)with|some ps=>if ps.length<=100000 then .ok (.int ps.length) S else .bad|none=>.bad
@[simp] def zsc{i:Nat}:zkE i ρ S=zom S ρ[i]?:=(rfl)
@[simp] def zve{ps:List IP}:zom S (some (some (true,zd9 ps)))=if ps.length<=100000 then .ok (.int ps.length) S else .bad:=by
 unfold zom;dsimp only;rw[isd]
@[simp] def zsd:zmj ρ S=.ok (zd9 []) S:=(rfl)
def znG{g:Z1}(h:Sz r c)(hg:InT tsC g)(S:Sto):∃S',zay [.tup (tsC.map zaw),flr r c g] S=.ok (.int ((zd2 tsC r c g).length:Nat)) S':=by
 have hb:1<=r/\r<=100/\1<=c/\c<=100/\r*c<=30/\tsC.length ^ (r*c)<=1000000/\zc7 tsC.length (r*c)<=1000000:=by
  rcases h with⟨rfl,rfl⟩|⟨rfl,rfl⟩|⟨rfl,rfl⟩|⟨rfl,rfl⟩|⟨rfl,rfl⟩<;>decide
 obtain⟨b1,b2,b3,b4,b5,b6,b7⟩:=hb;obtain⟨S',e⟩:=zeo (S:=S) zo4 (by rw[zfp];decide) hg b1 b2 b3 b4 b5 b6 b7;rw[zix b3 hg]at e;exact⟨S',e⟩
end
noncomputable abbrev Sl:=Option (Bool×D)
section
variable{l:List Int}{r c:Nat}{K:Kf}{S:Sto}{s1 s2 s3 s4 s5 s6 s7 s8 s9 s10 s11 s12 s13 s16:Sl}{ps:List IP}{F:D}
def zmT(ps:List IP)(i j:Nat):List IP:=zdb (zdb (zdb (zdb ps ((i:Int),(j:Int))) ((i:Int),(j:Int)+1)) ((i:Int)+1,(j:Int))) ((i:Int)+1,(j:Int)+1)
def zfL{p:IP}:(zdb ps p).length<=ps.length+1:=by unfold zdb;split<;>simp
def zfK{p:IP}(h:ps.Nodup):(zdb ps p).Nodup:=by
 unfold zdb;split
 ·exact h
 ·rename_i hn;rw[ycf];refine⟨h,by simp,?_⟩;intro x hx y hy;rw[yaO]at hy;subst hy;exact fun z=>hn (z ▸ hx)
def zef{p q:IP}:q∈zdb ps p↔q∈ps\/q=p:=by
 unfold zdb;split
 ·rename_i h;exact⟨.inl,fun z=>z.elim id fun e=>e ▸ h⟩
 ·simp
def zoA{i j:Nat}(h:ps.Nodup):(zmT ps i j).Nodup:=zfK (zfK (zfK (zfK h)))
def zif{i j:Nat}{q:IP}:q∈zmT ps i j↔q∈ps\/((q.1=i\/q.1=(i:Int)+1)/\(q.2=j\/q.2=(j:Int)+1)):=by
 unfold zmT;rw[zef,zef,zef,zef];obtain⟨x,y⟩:=q;simp only[Prod.mk.injEq]
 by_cases h:(x,y)∈ps
 ·simp[h]
 ·simp only[h,false_or];omega
theorem zsZ{i j:Nat}(hl:ps.length<=1000):∃x7,zf1 (.one 7) zfW [.int i,.int ((i:Int)+1)] [some (false,.scr l),s1,s2,s3,s4,s5,s6,s7,s8,s9,some (false,plD i j),s11,s12,s13,some (true,zd9 ps),some (false,F),s16] S
  = .nx [some (false,.scr l),s1,s2,s3,s4,s5,s6,x7,s8,s9,some (false,plD i j),s11,s12,s13,some (true,zd9 (zmT ps i j)),some (false,F),s16] S:=by
 have d1:ixD (plD i j) (.int 1)=some (.int j):=zal _ 1;have l1:(zdb ps ((i:Int),(j:Int))).length<=ps.length+1:=zfL;have l2:(zdb (zdb ps ((i:Int),(j:Int))) ((i:Int),(j:Int)+1)).length<=_:=zfL;have l3:(zdb (zdb (zdb ps ((i:Int),(j:Int))) ((i:Int),(j:Int)+1)) ((i:Int)+1,(j:Int))).length<=_:=zfL
 have m0:ps.length<=100000:=by omega
 have m1:(zdb ps ((i:Int),(j:Int))).length<=100000:=by omega
 have m2:(zdb (zdb ps ((i:Int),(j:Int))) ((i:Int),(j:Int)+1)).length<=100000:=by omega
 have m3:(zdb (zdb (zdb ps ((i:Int),(j:Int))) ((i:Int),(j:Int)+1)) ((i:Int)+1,(j:Int))).length<=100000:=by omega
 generalize plD i j=P at*;refine⟨some (false,.int ((i:Int)+1)),?_⟩;unfold zmT
 have st:∀(x:Int) (qs:List IP) (y:Sl),qs.length<=100000->(zdb qs (x,(j:Int))).length<=100000->zfW [some (false,.scr l),s1,s2,s3,s4,s5,s6,some (false,.int x),s8,s9,some (false,P),s11,s12,s13,some (true,zd9 qs),some (false,F),s16] S=.nx [some (false,.scr l),s1,s2,s3,s4,s5,s6,some (false,.int x),s8,s9,some (false,P),s11,s12,s13,some (true,zd9 (zdb (zdb qs (x,(j:Int))) (x,(j:Int)+1))),some (false,F),s16] S:=by
  intro x qs y h1 h2;simp[zfW,d1,h1,h2]
 have a1:=st i ps s7 m0 m1;have a2:=st ((i:Int)+1) _ s7 m2 m3;simp[zf1,Tg.put,a1,a2]
end
section
variable{l:List Int}{r c:Nat}{K:Kf}{S:Sto}{s1 s2 s3 s5 s6 s7 s8 s9 s10 s11 s13 s16:Sl}{ps:List IP}{U:Nat->Nat->Bool}
def gU(K:Kf)(U:Nat->Nat->Bool):Nat->Nat->Option Int:=fun i j=>if U i j then some (zaQ K i j)else none
structure Iv(r c:Nat)(U:Nat->Nat->Bool)(ps:List IP):Prop where
 nd:ps.Nodup
 hin:∀p∈ps,∃a b:Nat,a<=r/\b<=c/\p=((a:Int),(b:Int))
 iff:∀a b:Nat,a<=r->b<=c->(((a:Int),(b:Int))∈ps↔∃i j,i<r/\j<c/\U i j=true/\(a=i\/a=i+1)/\(b=j\/b=j+1))
noncomputable def upU(U:Nat->Nat->Bool)(i j:Nat):Nat->Nat->Bool:=fun a b=>if a=i/\b=j then true else U a b
def zqX{i j:Nat}:zgW (gU K U) i j (some (zaQ K i j))=gU K (upU U i j):=by
 funext a b;show(if a=i/\b=j then some (zaQ K i j)else(if U a b then some (zaQ K a b)else none))=(if(if a=i/\b=j then true else U a b)=true then some (zaQ K a b)else none)
 by_cases h:a=i/\b=j
 ·obtain⟨rfl,rfl⟩:=h;simp
 ·rw[if_neg h,if_neg h]
def ztm(hK:K01 K):InT tsC (gU K U):=by
 intro i j x hx;unfold gU at hx;split at hx
 ·exact zj4 hK i j x hx
 ·cases hx
def Iv.up{i j:Nat}(h:Iv r c U ps)(hi:i<r)(hj:j<c):Iv r c (upU U i j) (zmT ps i j):=by
 refine⟨zoA h.nd,fun p hp=>?_,fun a b ha hb=>?_⟩
 ·rcases zif.mp hp with hp|⟨h1,h2⟩
  ·exact h.hin p hp
  ·obtain⟨x,y⟩:=p;dsimp only at h1 h2;refine⟨x.toNat,y.toNat,by omega,by omega,?_⟩;rw[Int.toNat_of_nonneg (by omega),Int.toNat_of_nonneg (by omega)]
 ·rw[zif,h.iff a b ha hb];dsimp only;constructor
  ·rintro(⟨i',j',h1,h2,h3,h4⟩|⟨h1,h2⟩)
   ·refine⟨i',j',h1,h2,?_,h4⟩;unfold upU;split
    ·rfl
    ·exact h3
   ·refine⟨i,j,hi,hj,?_,by omega,by omega⟩;unfold upU;rw[if_pos ⟨rfl,rfl⟩]
  ·rintro⟨i',j',h1,h2,h3,h4⟩;unfold upU at h3
   by_cases e:i'=i/\j'=j
   ·obtain⟨rfl,rfl⟩:=e;exact .inr (by omega)
   ·rw[if_neg e]at h3;exact .inl ⟨i',j',h1,h2,h3,h4⟩
def Iv.len(hz:Sz r c)(h:Iv r c U ps):ps.length<=9/\∀K,free (cst r c K ps)+ps.length=(r+1)*(c+1):=by
 have e:=fun K=>zmd (r:=r) (c:=c) (K:=K) h.nd h.hin
 refine⟨?_,e⟩;have:=e fun _ _=>0
 have:(r+1)*(c+1)<=9:=by rcases hz with⟨rfl,rfl⟩|⟨rfl,rfl⟩|⟨rfl,rfl⟩|⟨rfl,rfl⟩|⟨rfl,rfl⟩<;>decide
 omega
def Iv.zero:Iv r c (fun _ _=>false) []:=⟨.nil,fun p hp=>(by cases hp),fun a b _ _=>⟨fun h=>(by cases h),fun⟨_,_,_,_,h,_⟩=>(by cases h)⟩⟩
def Sz.bd(h:Sz r c):1<=r/\r<=3/\1<=c/\c<=3:=by unfold Sz at h;omega
def zsY(hz:Sz r c)(hK:K01 K):∃U ps x7 x10 x16,Iv r c U ps/\zf1 (.tup [16,10]) zeT (zdl (zcA r c)) [some (false,.scr l),s1,s2,s3,some (false,flr r c (someK (zaQ K))),s5,s6,s7,s8,s9,s10,s11,some (false,.tup (tsC.map zaw)),s13,some (true,zd9 []),some (false,flr r c fun _ _=>none),s16] S
  = .nx [some (false,.scr l),s1,s2,s3,some (false,flr r c (someK (zaQ K))),s5,s6,x7,s8,s9,x10,s11,some (false,.tup (tsC.map zaw)),s13,some (true,zd9 ps),some (false,flr r c (gU K U)),x16] S:=by
 obtain⟨b1,b2,b3,b4⟩:=hz.bd
 obtain⟨ρ',e,U,ps,x7,x10,x16,iv,rfl⟩:=zdv (tg:=.tup [16,10]) (body:=zeT) (ds:=zdl (zcA r c)) (S:=S) (fun k ρ=>∃U ps x7 x10 x16,Iv r c U ps/\ρ=[some (false,.scr l),s1,s2,s3,some (false,flr r c (someK (zaQ K))),s5,s6,x7,s8,s9,x10,s11,some (false,.tup (tsC.map zaw)),s13,some (true,zd9 ps),some (false,flr r c (gU K U)),x16]) (by
  rintro k d ρ hd ⟨U,ps,x7,x10,x16,iv,rfl⟩;obtain⟨y,hy,rfl⟩:=zgH hd;obtain⟨i,j,hi,hj,rfl⟩:=zc9 (ybl hy);have hp:=zdn (l:=l) (k:=100+(k:Int)) (many:=2) (S:=S) (by omega) (by omega);have q:=zmY (a:=zbX l (100+(k:Int)) 2) (b:=0)
  by_cases h0:zbX l (100+(k:Int)) 2=0
  ·rw[yaK h0]at q;have hw:=zfy (ts:=tsC) (g:=gU K U) (o:=some (zaQ K i j)) (S:=S) (fun x hx=>by cases hx;exact zj4 hK i j _ rfl) b1 hi hj (by omega) (by omega);rw[zqX]at hw;obtain⟨y7,e1⟩:=zsZ (l:=l) (s1:=s1) (s2:=s2) (s3:=s3) (s4:=some (false,flr r c (someK (zaQ K)))) (s5:=s5) (s6:=s6) (s7:=x7) (s8:=s8) (s9:=s9) (s11:=s11) (s12:=some (false,.tup (tsC.map zaw))) (s13:=s13) (s16:=some (false,.int k)) (ps:=ps) (F:=flr r c (gU K (upU U i j))) (i:=i) (j:=j) (S:=S) (by have:=(iv.len hz).1;omega);have d0:ixD (plD i j) (.int 0)=some (.int i):=zal _ 0;have d1:ixD (plD i j) (.int 1)=some (.int j):=zal _ 1;have r0:ixD (flr r c (someK (zaQ K))) (.int i)=some (zcf c (someK (zaQ K) i)):=(zal _ i).trans (zbn hi);have r1:ixD (zcf c (someK (zaQ K) i)) (.int j)=some (.int (zaQ K i j)):=(zal _ j).trans (zbj hj);have hw':zbP [.tup (tsC.map zaw),flr r c (gU K U),plD i j,.int (zaQ K i j)] S=.ok (flr r c (gU K (upU U i j))) S:=hw;refine⟨_,_,rfl,?_,upU U i j,zmT ps i j,y7,some (false,plD i j),some (false,.int k),iv.up hi hj,rfl⟩;generalize zcf c (someK (zaQ K) i)=R at*;generalize flr r c (someK (zaQ K))=F0 at*;generalize flr r c (gU K (upU U i j))=F1 at*;generalize flr r c (gU K U)=F2 at*;generalize zd9 (zmT ps i j)=D2 at*;generalize zd9 ps=D1 at*;generalize plD i j=P at*;generalize D.tup (tsC.map zaw)=T at*;generalize zbX l (100+(k:Int)) 2=x at*;generalize zaQ K i j=y at*;simp[zeT,hp,q,d0,d1,r0,r1,hw',e1]
  ·rw[yaN h0]at q;refine⟨_,_,rfl,?_,U,ps,x7,some (false,plD i j),some (false,.int k),iv,rfl⟩;generalize flr r c (someK (zaQ K))=F0 at*;generalize flr r c (gU K U)=F2 at*;generalize zd9 ps=D1 at*;generalize plD i j=P at*;generalize D.tup (tsC.map zaw)=T at*;generalize zbX l (100+(k:Int)) 2=x at*
   simp[zeT,hp,q])
  (ρ:=[some (false,.scr l),s1,s2,s3,some (false,flr r c (someK (zaQ K))),s5,s6,s7,s8,s9,s10,s11,some (false,.tup (tsC.map zaw)),s13,some (true,zd9 []),some (false,flr r c fun _ _=>none),s16]) ⟨fun _ _=>false,[],s7,s10,s16,Iv.zero,rfl⟩
 exact⟨U,ps,x7,x10,x16,iv,e⟩
end
section
variable{l:List Int}{r c:Nat}{K:Kf}{S:Sto}{s3 s5 s6 s7 s8 s9 s10 s11 s12 s13 s14 s15 s16:Sl}{ps:List IP}{U:Nat->Nat->Bool}
def Sz.f64(hz:Sz r c):zbG ((r:Int)+1)=true:=by rcases hz with⟨rfl,rfl⟩|⟨rfl,rfl⟩|⟨rfl,rfl⟩|⟨rfl,rfl⟩|⟨rfl,rfl⟩<;>decide
def zm6(hz:Sz r c)(hK:K01 K)(iv:Iv r c U ps)(S:Sto):∃S',zay [.tup (tsC.map zaw),flr r c (gU K U)] S=.ok (.int ((2 ^ ((r+1)*(c+1)-ps.length):Nat):Int)) S':=by
 obtain⟨b1,b2,b3,b4⟩:=hz.bd;obtain⟨S',e⟩:=znG hz (ztm (U:=U) hK) S;rw[zi1 (ps:=ps) (g:=gU K U) (U:=U) b1 b3 (fun i j _ _=>hK i j) (fun i j _ _=>rfl) iv.iff]at e;have:=(iv.len hz).2 K;rw[show free (cst r c K ps)=(r+1)*(c+1)-ps.length by omega]at e;exact⟨S',e⟩
def zo7(hz:Sz r c)(hK:K01 K)(iv:Iv r c U ps):∃S',zfq [some (false,.scr l),some (false,.int r),some (false,.int c),s3,some (false,flr r c (someK (zaQ K))),s5,s6,s7,s8,s9,s10,s11,some (false,.tup (tsC.map zaw)),s13,some (true,zd9 ps),some (false,flr r c (gU K U)),s16] S=.rt (.bl true) S':=by
 obtain⟨S',e⟩:=zm6 hz hK iv S;have hl:=(iv.len hz).1;have hf:=(iv.len hz).2 K
 have h9:(r+1)*(c+1)<=9:=by rcases hz with⟨rfl,rfl⟩|⟨rfl,rfl⟩|⟨rfl,rfl⟩|⟨rfl,rfl⟩|⟨rfl,rfl⟩<;>decide
 have e2:=zgh (n:=(r+1)*(c+1)-ps.length) (S:=S') (by omega)
 have e3:(((r+1)*(c+1)-ps.length:Nat):Int)=((r:Int)+1)*((c:Int)+1)-(ps.length:Int):=by
  rw[Int.ofNat_sub (by omega),Int.natCast_mul];rfl
 rw[e3]at e2;have q:=zmY (a:=((2 ^ ((r+1)*(c+1)-ps.length):Nat):Int)) (b:=((2 ^ ((r+1)*(c+1)-ps.length):Nat):Int));rw[yaK rfl]at q
 have h100:ps.length<=100000:=by omega
 generalize ((2 ^ ((r+1)*(c+1)-ps.length):Nat):Int)=z at*;generalize flr r c (gU K U)=F2 at*;generalize D.tup (tsC.map zaw)=T at*;have hfit:=hz.f64;refine⟨S',?_⟩;simp[zfq,e,e2,q,h100,hfit]
def zo6(hz:Sz r c)(hK:K01 K):∃S',zg0 [some (false,.scr l),some (false,.int r),some (false,.int c),s3,some (false,flr r c (someK (zaQ K))),s5,s6,s7,s8,s9,s10,s11,s12,s13,s14,s15,s16] S=.rt (.bl true) S':=by
 obtain⟨b1,b2,b3,b4⟩:=hz.bd;have c1:=zeZ (S:=S);have c2:=ziL (S:=S) b1 (show r<=100 by omega) b3 (show c<=100 by omega);obtain⟨S1,c3⟩:=zm6 (K:=K) hz hK (Iv.zero (r:=r) (c:=c)) S;have c3':zay [.tup (tsC.map zaw),flr r c fun _ _=>none] S=.ok (.int ((2 ^ ((r+1)*(c+1)):Nat):Int)) S1:=c3
 have h9:(r+1)*(c+1)<=9:=by rcases hz with⟨rfl,rfl⟩|⟨rfl,rfl⟩|⟨rfl,rfl⟩|⟨rfl,rfl⟩|⟨rfl,rfl⟩<;>decide
 have c4:=zgh (n:=(r+1)*(c+1)) (S:=S1) (by omega);rw[show(((r+1)*(c+1):Nat):Int)=((r:Int)+1)*((c:Int)+1)from Int.natCast_mul _ _]at c4
 have q:∀z:Int,neD (.int z) (.int z)=some (.bl false):=fun z=>by simp[neD,zfa,D.py,PyData.eqv]
 obtain⟨U,ps,x7,x10,x16,iv,e1⟩:=zsY (l:=l) (s1:=some (false,.int r)) (s2:=some (false,.int c)) (s3:=s3) (s5:=s5) (s6:=s6) (s7:=s7) (s8:=s8) (s9:=s9) (s10:=s10) (s11:=s11) (s13:=some (false,flr r c fun _ _=>none)) (s16:=s16) (S:=S1) hz hK;obtain⟨S2,e2⟩:=zo7 (l:=l) (S:=S1) (s3:=s3) (s5:=s5) (s6:=s6) (s7:=x7) (s8:=s8) (s9:=s9) (s10:=x10) (s11:=s11) (s13:=some (false,flr r c fun _ _=>none)) (s16:=x16) hz hK iv;have p1:=zcV (g:=someK (zaQ K)) (S:=S1) b1 (show r<=100 by omega) (show c<=100 by omega);clear c3;generalize ((2 ^ ((r+1)*(c+1)):Nat):Int)=z at*;generalize flr r c (gU K U)=F2 at*;generalize (flr r c fun _ _=>none)=F3 at*;generalize flr r c (someK (zaQ K))=F4 at*;generalize zd9 ps=D2 at*;generalize D.tup (tsC.map zaw)=T at*;generalize zcA r c=P at*;have hfit:=hz.f64;refine⟨S2,?_⟩;simp[zg0,zjo,zjn,zhO,zhN,zhM,c1,c2,c3',c4,q,p1,e1,e2,hfit]
end
end S2.L61
namespace S2
open PySem
open L2 hiding D
def znJ{c:Nat}{f:Nat->Option Int}:(zcf c f).pl=true:=by
 show D.pls (zce c f)=true;rw[D.pls_iff];intro d hd;obtain⟨j,_,rfl⟩:=yay.mp hd
 cases f j<;>rfl
def zoF{r c:Nat}{g:Z1}:(flr r c g).pl=true:=by
 show D.pls (zbY r c g)=true;rw[D.pls_iff];intro d hd;obtain⟨i,_,rfl⟩:=yay.mp hd;exact znJ
def zlv{c n:Nat}{f:Nat->Option Int}:(zcf c f).fit (n+1)=true:=by
 show D.fits n (zce c f)=true;rw[D.fits_iff];intro d hd;obtain⟨j,_,rfl⟩:=yay.mp hd
 cases f j<;>simp[oD]
def zmf{r c n:Nat}{g:Z1}:(flr r c g).fit (n+2)=true:=by
 show D.fits (n+1) (zbY r c g)=true;rw[D.fits_iff];intro d hd;obtain⟨i,_,rfl⟩:=yay.mp hd;exact zlv
def zqu{r c:Nat}{g:Z1}:neD (flr r c g) (flr r c g)=some (.bl false):=zhk zoF zmf
end S2
namespace S2.L61
open PySem
open L2 hiding D
theorem zeR{α:Type}{tg:Tg}{elt:Fe}{ρ0:Env}{S:Sto}{f h:α->D}:∀{F:List α},(∀t∈F,∃ρ1,tg.put ρ0 (f t)=some ρ1/\elt ρ1 S=.ok (h t) S)->zaS tg zeM elt ρ0 (F.map f) S=.ok (F.map h) S
 |[],_=>rfl|d::F,hh=>by
  obtain⟨ρ1,e1,e2⟩:=hh d yaz;have ih:=zeR (F:=F) fun x hx=>hh x (yas _ hx)
  rw[yaA];unfold zaS;rw[e1];simp[e2,ih]
section
variable{r c:Nat}{g:Z1}
noncomputable def lnL(r c:Nat)(h:Z1):List D:=(List.range r).map fun i=>D.lst (zce c (h i))
def zh8{h:Z1}:(lnL r c h).length=r:=by unfold lnL;rw[yaf,ybn]
def zkf{h:Z1}{i:Nat}(hi:i<r):(lnL r c h)[i]?=some (.lst (zce c (h i))):=by unfold lnL;rw[yar,ybE hi];rfl
def zi3{S:Sto}:zaS (.one 0) zeM (zaR zhl [(zaf 0)]) [none] (zbY r c g) S=.ok (lnL r c g) S:=by
 unfold zbY lnL;refine zeR fun i _=>⟨_,rfl,by simp[zcf]⟩
def zkJ{S:Sto}{h:Z1}:zaS (.one 0) zeM (zaR zcd [(zaf 0)]) [none] (lnL r c h) S=.ok (zbY r c h) S:=by
 unfold zbY lnL;refine zeR fun i _=>⟨_,rfl,by simp[zcf]⟩
def zny{h:Z1}{i j:Nat}{x:Int}(hj:j<c):(zce c (h i)).set j (.int x)=zce c (zgW h i j (some x) i):=by
 apply yaV;intro a;rw[List.getElem?_set,zbH]
 by_cases ha:a<c
 ·rw[zbj ha,zbj ha];unfold zgW
  by_cases hja:j=a
  ·subst hja;rw[if_pos rfl,if_pos hj,if_pos ⟨rfl,rfl⟩];rfl
  ·rw[if_neg hja,if_neg (fun z=>hja z.2.symm)]
 ·have hz:∀f,(zce c f)[a]?=none:=fun f=>by rw[List.getElem?_eq_none_iff,zbH];omega
  rw[hz,hz,if_neg (by omega)]
def zpy{h:Z1}{i j:Nat}{x:Int}(hi:i<r)(hj:j<c):(lnL r c h).set i (.lst ((zce c (h i)).set j (.int x)))=lnL r c (zgW h i j (some x)):=by
 rw[zny hj];apply yaV;intro a;rw[List.getElem?_set,zh8]
 by_cases ha:a<r
 ·rw[zkf ha,zkf ha]
  by_cases hia:i=a
  ·subst hia;rw[if_pos rfl,if_pos hi]
  ·rw[if_neg hia];congr 3;funext b;unfold zgW;rw[if_neg (fun z=>hia z.1.symm)]
 ·have hz:∀f,(lnL r c f)[a]?=none:=fun f=>by rw[List.getElem?_eq_none_iff,zh8];omega
  rw[hz,hz,if_neg (by omega)]
def zkm{n k:Nat}(h:k<n):ixN n (k:Int)=some k:=by unfold ixN;simp[h]
def zpx{h:Z1}{i j:Nat}{ρ:Env}{S:Sto}(hh:ρ[8]?=some (some (true,zhj (lnL r c h))))(hp:ρ[5]?=some (some (false,plD i j)))(hi:i<r)(hj:j<c):
  zg6 8 5 0 1 (zab (.int 1)) ρ S=.nx (ρ.set 8 (some (true,zhj (lnL r c (zgW h i j (some 1)))))) S:=by
 have e:zab (.int 1) ρ S=.ok (.int 1) S:=by simp
 rw[zne e hh hp];unfold zmP;rw[show pkI [D.int i,D.int j] 0=some (i:Int)from rfl,show pkI [D.int i,D.int j] 1=some (j:Int)from rfl];dsimp only;rw[zh8,zkm hi];dsimp only;rw[zkf hi];dsimp only;rw[zbH,zkm hj];dsimp only;rw[zpy hi hj]
def zn9{a b:Nat}:neD (.lst ((zcA r c).filter (zew a b))) (.lst ((zcA r c).filter (zew a b)))=some (.bl false):=by
 apply zhk
 ·show D.pls _=true;rw[D.pls_iff];intro d hd;obtain⟨i,j,_,_,rfl⟩:=zc9 (yaZ.mp hd).1;rfl
 ·show D.fits 8 _=true;rw[D.fits_iff];intro d hd;obtain⟨i,j,_,_,rfl⟩:=zc9 (yaZ.mp hd).1;simp[plD,D.fit,D.fits]
def zlg{l:List Int}{K:Kf}{S:Sto}{a b:Nat}{s7 s8 s9 s10 s11 s12 s13 s14 s15 s16:Sl}(hz:Sz r c)(hK:K01 K)(ha:a<=r)(hb:b<=c):∃S',zcB [some (false,.scr l),some (false,.int r),some (false,.int c),some (false,flr (r+1) (c+1) (someK K)),some (false,flr r c (someK (zaQ K))),some (false,plD a b),some (false,flr (r+1) (c+1) (someK (chK K a b 1))),s7,s8,s9,s10,s11,s12,s13,s14,s15,s16] S=.rt (.bl true) S':=by
 obtain⟨b1,b2,b3,b4⟩:=hz.bd;obtain⟨S',e⟩:=zo6 (l:=l) (r:=r) (c:=c) (K:=K) (S:=S) (s3:=some (false,flr (r+1) (c+1) (someK K))) (s5:=some (false,plD a b)) (s6:=some (false,flr (r+1) (c+1) (someK (chK K a b 1)))) (s7:=s7) (s8:=some (false,.lst (lnL (r+1) (c+1) (someK (chK K a b 1))))) (s9:=some (false,flr r c (someK (zaQ (chK K a b (1-K a b)))))) (s10:=s10) (s11:=some (true,.lst ((zcA r c).filter (zew a b)))) (s12:=s12) (s13:=s13) (s14:=s14) (s15:=s15) (s16:=s16) hz hK;refine⟨S',?_⟩;have d0:ixD (plD a b) (.int 0)=some (.int a):=zal _ 0;have d1:ixD (plD a b) (.int 1)=some (.int b):=zal _ 1
 have ha':(a:Int)<=(r:Int):=by omega
 have hb':(b:Int)<=(c:Int):=by omega
 have c1:=zi3 (r:=r+1) (c:=c+1) (g:=someK K) (S:=S)
 have km:=zoh (S:=S) (ys:=lnL (r+1) (c+1) (someK K)) (by rw[zh8];omega) (by
  rw[ybj];intro d hd;unfold lnL at hd;obtain⟨i,_,rfl⟩:=yay.mp hd;rfl)
 have st:=fun(ρ:Env) (hh:ρ[8]?=some (some (true,zhj (lnL (r+1) (c+1) (someK K))))) (hp:ρ[5]?=some (some (false,plD a b)))=>zpx (S:=S) (ρ:=ρ) hh hp (show a<r+1 by omega) (show b<c+1 by omega)
 rw[zkP]at st;have c2:=zkJ (r:=r+1) (c:=c+1) (h:=someK (chK K a b 1)) (S:=S)
 have l1:(zbY (r+1) (c+1) (someK (chK K a b 1))).length<=100000:=by rw[zco];omega
 have q2:=zqu (r:=r+1) (c:=c+1) (g:=someK (chK K a b 1));have r0:ixD (flr (r+1) (c+1) (someK K)) (.int a)=some (zcf (c+1) (someK K a)):=(zal _ a).trans (zbn (by omega));have r1:ixD (zcf (c+1) (someK K a)) (.int b)=some (.int (K a b)):=(zal _ b).trans (zbj (by omega));have w:=zmJ (r:=r+1) (c:=c+1) (g:=someK K) (i:=a) (j:=b) (o:=some (1-K a b)) (S:=S) (by omega) (by omega) (by omega) (by omega) (by omega);rw[zkP]at w;have w1:zbm [flr (r+1) (c+1) (someK K),plD a b,.int (1-K a b)] S=_:=zrd w;have w2:=zcD (r:=r) (c:=c) (K:=chK K a b (1-K a b)) (S:=S) (by omega) (by omega);have p1:=zcV (g:=someK (zaQ K)) (S:=S) b1 (show r<=100 by omega) (show c<=100 by omega);have p2:=zj5 (r:=r) (c:=c) (a:=a) (b:=b) (S:=S);have p3:=zfB (r:=r) (c:=c) (g:=someK (zaQ K)) (h:=someK (zaQ (chK K a b (1-K a b)))) (S:=S) b1 (by omega) (by omega);rw[zhA]at p3;have p4:=ziM (r:=r) (c:=c) (K:=K) (a:=a) (b:=b) (S:=S) b1 (by omega) (by omega);rw[zhE hz ha hb]at p4;have q3:=zn9 (r:=r) (c:=c) (a:=a) (b:=b)
 have l2:((zcA r c).filter (zew a b)).length<=100000:=by
  refine yan (ybx _ _) ?_;rw[zfE];exact yan (ybU b2 b4) (by decide)
 clear w;generalize List.filter (zew a b) (zcA r c)=NL at*;generalize zcA r c=PL at*;generalize lnL (r+1) (c+1) (someK (chK K a b 1))=L2' at*;generalize lnL (r+1) (c+1) (someK K)=L1' at*;generalize flr r c (someK (zaQ (chK K a b (1-K a b))))=F9 at*;generalize flr r c (someK (zaQ K))=F4 at*;generalize zcf (c+1) (someK K a)=R at*;generalize flr (r+1) (c+1) (someK (chK K a b (1-K a b)))=C9 at*;unfold flr at*;generalize zbY (r+1) (c+1) (someK (chK K a b 1))=C6 at*;generalize zbY (r+1) (c+1) (someK K)=C3 at*;generalize plD a b=P at*;simp[zcB,d0,d1,ha',hb',c1,km,st,c2,l1,q2,r0,r1,w1,w2,p1,p2,l2,p3,p4,q3,e]
def zjm{l:List Int}{K:Kf}{S:Sto}{x y:Int}{C:D}{s7 s8 s9 s10 s11 s12 s13 s14 s15 s16:Sl}(hz:Sz r c)(hK:K01 K)(h:¬ ((0<=x/\x<=r)/\0<=y/\y<=c)):∃S',zcB [some (false,.scr l),some (false,.int r),some (false,.int c),some (false,C),some (false,flr r c (someK (zaQ K))),some (false,.tup [.int x,.int y]),some (false,.str "no place"),s7,s8,s9,s10,s11,s12,s13,s14,s15,s16] S=.rt (.bl true) S':=by
 obtain⟨S',e⟩:=zo6 (l:=l) (r:=r) (c:=c) (K:=K) (S:=S) (s3:=some (false,C)) (s5:=some (false,.tup [.int x,.int y])) (s6:=some (false,.str "no place")) (s7:=s7) (s8:=s8) (s9:=s9) (s10:=s10) (s11:=s11) (s12:=s12) (s13:=s13) (s14:=s14) (s15:=s15) (s16:=s16) hz hK;refine⟨S',?_⟩;have d0:ixD (.tup [.int x,.int y]) (.int 0)=some (.int x):=zal _ 0;have d1:ixD (.tup [.int x,.int y]) (.int 1)=some (.int y):=zal _ 1;have q:neD (.str "no place") (.str "no place")=some (.bl false):=zhk rfl (by show PyData.strOk _=true;decide +kernel);generalize flr r c (someK (zaQ K))=F at*;generalize D.tup [.int x,.int y]=P at*
 by_cases h1:0<=x
 ·by_cases h2:x<=r
  ·by_cases h3:0<=y
   ·have h4:¬ y<=c:=fun z=>h ⟨⟨h1,h2⟩,h3,z⟩
    simp[zcB,d0,d1,q,e,h1,h2,h3,h4]
   ·simp[zcB,d0,d1,q,e,h1,h2,h3]
  ·simp[zcB,d0,d1,q,e,h1,h2]
 ·simp[zcB,d0,d1,q,e,h1]
end
theorem zlX:∀l:List Int,l.length<=63->∃S,znM [.scr l] []=.ok (.bl true) S:=by
 intro l _;have k1:=zdn (l:=l) (k:=90) (many:=5) (S:=[]) (by omega) (by omega);have p1:=zjK l 90 (many:=5) (by omega);generalize zbX l 90 5=a at*
 obtain⟨r,c,hz,hat⟩:∃r c:Nat,Sz r c/\atI [D.tup [.int 1,.int 1],.tup [.int 1,.int 2],.tup [.int 2,.int 1],.tup [.int 2,.int 2],.tup [.int 1,.int 3]] a=some (.tup [.int r,.int c]):=by
  have:a=0\/a=1\/a=2\/a=3\/a=4:=by omega
  rcases this with rfl|rfl|rfl|rfl|rfl
  ·exact⟨1,1,.inl ⟨rfl,rfl⟩,rfl⟩
  ·exact⟨1,2,.inr (.inl ⟨rfl,rfl⟩),rfl⟩
  ·exact⟨2,1,.inr (.inr (.inl ⟨rfl,rfl⟩)),rfl⟩
  ·exact⟨2,2,.inr (.inr (.inr (.inl ⟨rfl,rfl⟩))),rfl⟩
  ·exact⟨1,3,.inr (.inr (.inr (.inr ⟨rfl,rfl⟩))),rfl⟩
 obtain⟨b1,b2,b3,b4⟩:=hz.bd;have e2:=zen (l:=l) (at':=0) (r:=r) (c:=c) (S:=[]) (by omega) (by omega) (by omega)
 have hK:K01 fun i j=>zbX l (0+8*(i:Int)+j) 2:=fun i j=>by
  have:=zjK l (0+8*(i:Int)+j) (many:=2) (by omega);exact⟨this.1,Int.le_of_lt_add_one this.2⟩
 generalize hKe:(fun i j:Nat=>zbX l (0+8*(i:Int)+j) 2)=K at*;have e2':za9 [.scr l,.int 0,.int r,.int c] []=.ok (flr (r+1) (c+1) (someK K)) []:=e2;clear e2;have e3:=zcD (K:=K) (S:=[]) (show r<=1000 by omega) (show c<=1000 by omega);have k2:=zdn (l:=l) (k:=91) (many:=(r:Int)+3) (S:=[]) (by omega) (by omega);have k3:=zdn (l:=l) (k:=92) (many:=(c:Int)+3) (S:=[]) (by omega) (by omega);generalize zbX l 91 ((r:Int)+3)=x at*;generalize zbX l 92 ((c:Int)+3)=y at*
 by_cases h:(0<=x-1/\x-1<=r)/\0<=y-1/\y-1<=c
 ·obtain⟨a',ha⟩:=ybD h.1.1;obtain⟨b',hb⟩:=ybD h.2.1
  have hp:D.tup [.int (x-1),.int (y-1)]=plD a' b':=by rw[ha,hb]
  have w:=zmJ (r:=r+1) (c:=c+1) (g:=someK K) (i:=a') (j:=b') (o:=some 1) (S:=[]) (by omega) (by omega) (by omega) (by omega) (by omega);rw[zkP]at w
  have w1:zbm [flr (r+1) (c+1) (someK K),D.tup [.int (x-1),.int (y-1)],.int 1] []=.ok (flr (r+1) (c+1) (someK (chK K a' b' 1))) []:=by rw[hp];exact zrd w
  obtain⟨S',e⟩:=zlg (l:=l) (r:=r) (c:=c) (K:=K) (S:=[]) (a:=a') (b:=b') (s7:=none) (s8:=none) (s9:=none) (s10:=none) (s11:=none) (s12:=none) (s13:=none) (s14:=none) (s15:=none) (s16:=none) hz hK (by omega) (by omega);rw[<-hp]at e;refine⟨S',?_⟩;clear w hp;generalize flr (r+1) (c+1) (someK (chK K a' b' 1))=C6 at*;generalize flr (r+1) (c+1) (someK K)=C3 at*;generalize flr r c (someK (zaQ K))=F4 at*;simp[znM,zap,zmh,zg5,zg4,zg3,zg2,zg1,k1,hat,e2',e3,k2,k3,w1,e]
 ·have w:=ziK (r:=r+1) (c:=c+1) (g:=someK K) (a:=x-1) (b:=y-1) (d:=.int 1) (S:=[]) (by omega) (fun z=>h (by omega));have w1:=zrc w;obtain⟨S',e⟩:=zjm (l:=l) (r:=r) (c:=c) (K:=K) (S:=[]) (C:=flr (r+1) (c+1) (someK K)) (x:=x-1) (y:=y-1) (s7:=none) (s8:=none) (s9:=none) (s10:=none) (s11:=none) (s12:=none) (s13:=none) (s14:=none) (s15:=none) (s16:=none) hz hK h;refine⟨S',?_⟩;clear w;generalize flr (r+1) (c+1) (someK K)=C3 at*;generalize flr r c (someK (zaQ K))=F4 at*;simp[znM,zap,zmh,zg5,zg4,zg3,zg2,zg1,k1,hat,e2',e3,k2,k3,w1,e]
end S2.L61
namespace M61
open PySem L2 S2 S2.L61
noncomputable def top(i:Nat):Stmt:=PySem.Challenge.pw_floorfits_k61_whole_corners_painted.main.body.getD i (.Pass ⟨0,0,0,0⟩)
noncomputable def T:Tab:=⟨[("NORTH",.int 0),("EAST",.int 1),("SOUTH",.int 2),("WEST",.int 3),("CHOICES",.int 16),("NORTHWEST",.int 0),("NORTHEAST",.int 1),("SOUTHEAST",.int 2),("SOUTHWEST",.int 3)],["isinstance","int","bool","tuple","list","len","range","sum","enumerate","zip","ValueError"],["FloorError","NoPlace","NoTile","NoFill","Unlike","Nothing","NoText"],[("NoPlace","FloorError"),("NoTile","FloorError")],["NoPlace","NoTile"],[("Ways","tiles"),("Ways","ground"),("Ways","size"),("Ways","is_round"),("Ways","known")],["known"],["_law_lines"],["_law_known"]⟩
noncomputable def F0:Fn3:=⟨"",[],[],[]⟩
noncomputable def F1:Fn3:=F0.fn "is_whole" ⟨1,false,zaP⟩
def d1:zak (Gn T F0) false ["thing"] (top 14)=some zcY:=by kernel_rfl
theorem s1:FnScope ["thing"] ["thing"] (zaa (top 14)):=⟨rfl,rfl,rfl,by decide +kernel,rfl,by decide +kernel,by decide +kernel⟩
noncomputable def F2:Fn3:=F1.fn "is_tuple_of" ⟨3,false,zaH⟩
def d2:zak (Gn T F1) false ["thing","least","most"] (top 15)=some zbK:=by kernel_rfl
theorem s2:FnScope ["thing","least","most"] ["thing","least","most"] (zaa (top 15)):=⟨rfl,rfl,rfl,by decide +kernel,rfl,by decide +kernel,by decide +kernel⟩
noncomputable def F3:Fn3:=F2.fn "has_number" ⟨2,false,zbh⟩
def d3:zak (Gn T F2) false ["tiles","thing"] (top 16)=some zb4:=by kernel_rfl
theorem s3:FnScope ["tiles","thing"] ["tiles","thing"] (zaa (top 16)):=⟨rfl,rfl,rfl,by decide +kernel,rfl,by decide +kernel,by decide +kernel⟩
noncomputable def F4:Fn3:=F3.fn "may_lie" ⟨2,false,zcG⟩
def d4:zak (Gn T F3) false ["tiles","thing"] (top 17)=some zdy:=by kernel_rfl
theorem s4:FnScope ["tiles","thing"] ["tiles","thing"] (zaa (top 17)):=⟨rfl,rfl,rfl,by decide +kernel,rfl,by decide +kernel,by decide +kernel⟩
noncomputable def F5:Fn3:=F4.fn "empty" ⟨2,false,zfD⟩
def d5:zak (Gn T F4) false ["rows","columns"] (top 18)=some zht:=by kernel_rfl
theorem s5:FnScope ["rows","columns"] ["rows","columns"] (zaa (top 18)):=⟨rfl,rfl,rfl,by decide +kernel,rfl,by decide +kernel,by decide +kernel⟩
noncomputable def F6:Fn3:=F5.fn "size_of" ⟨1,false,zbz⟩
def d6:zak (Gn T F5) false ["floor","columns"] (top 19)=some zeL:=by kernel_rfl
theorem s6:FnScope ["floor","columns"] ["floor"] (zaa (top 19)):=⟨rfl,rfl,rfl,by decide +kernel,rfl,by decide +kernel,by decide +kernel⟩
noncomputable def F7:Fn3:=F6.fn "places_of" ⟨1,true,zaV⟩
def d7:zak (Gn T F6) true ["floor","size","places","row","column"] (top 20)=some zde:=by kernel_rfl
theorem s7:FnScope ["floor","size","places","row","column"] ["floor"] (zaa (top 20)):=⟨rfl,rfl,rfl,by decide +kernel,rfl,by decide +kernel,by decide +kernel⟩
noncomputable def F8:Fn3:=F7.fn "number_at" ⟨2,false,zaG⟩
def d8:zak (Gn T F7) false ["floor","place"] (top 21)=some zdf:=by kernel_rfl
theorem s8:FnScope ["floor","place"] ["floor","place"] (zaa (top 21)):=⟨rfl,rfl,rfl,by decide +kernel,rfl,by decide +kernel,by decide +kernel⟩
noncomputable def F9:Fn3:=F8.fn "has_place" ⟨2,false,zaW⟩
def d9:zak (Gn T F8) false ["floor","place","size"] (top 22)=some zdg:=by kernel_rfl
theorem s9:FnScope ["floor","place","size"] ["floor","place"] (zaa (top 22)):=⟨rfl,rfl,rfl,by decide +kernel,rfl,by decide +kernel,by decide +kernel⟩
noncomputable def F10:Fn3:=F9.fn "refuse_outside" ⟨2,false,zaq⟩
def d10:zak (Gn T F9) false ["floor","place"] (top 23)=some zbd:=by kernel_rfl
theorem s10:FnScope ["floor","place"] ["floor","place"] (zaa (top 23)):=⟨rfl,rfl,rfl,by decide +kernel,rfl,by decide +kernel,by decide +kernel⟩
noncomputable def F11:Fn3:=F10.fn "with_number" ⟨3,false,zbk⟩
def d11:zak (Gn T F10) false ["floor","place","number","old","row"] (top 24)=some zcp:=by kernel_rfl
theorem s11:FnScope ["floor","place","number","old","row"] ["floor","place","number"] (zaa (top 24)):=⟨rfl,rfl,rfl,by decide +kernel,rfl,by decide +kernel,by decide +kernel⟩
noncomputable def F12:Fn3:=F11.fn "with_tile" ⟨4,false,zbP⟩
def d12:zak (Gn T F11) false ["tiles","floor","place","number"] (top 25)=some zdd:=by kernel_rfl
theorem s12:FnScope ["tiles","floor","place","number"] ["tiles","floor","place","number"] (zaa (top 25)):=⟨rfl,rfl,rfl,by decide +kernel,rfl,by decide +kernel,by decide +kernel⟩
noncomputable def F13:Fn3:=F12.fn "corner_tile" ⟨4,false,zbI⟩
def d13:zak (Gn T F12) false ["northwest","northeast","southeast","southwest"] (top 32)=some zcs:=by kernel_rfl
theorem s13:FnScope ["northwest","northeast","southeast","southwest"] ["northwest","northeast","southeast","southwest"] (zaa (top 32)):=⟨rfl,rfl,rfl,by decide +kernel,rfl,by decide +kernel,by decide +kernel⟩
noncomputable def F14:Fn3:=F13.fn "corner_number" ⟨4,false,zaX⟩
def d14:zak (Gn T F13) false ["northwest","northeast","southeast","southwest"] (top 33)=some zbT:=by kernel_rfl
theorem s14:FnScope ["northwest","northeast","southeast","southwest"] ["northwest","northeast","southeast","southwest"] (zaa (top 33)):=⟨rfl,rfl,rfl,by decide +kernel,rfl,by decide +kernel,by decide +kernel⟩
noncomputable def F15:Fn3:=F14.fn "corners_at" ⟨1,false,zb0⟩
def d15:zak (Gn T F14) false ["number"] (top 34)=some zcN:=by kernel_rfl
theorem s15:FnScope ["number"] ["number"] (zaa (top 34)):=⟨rfl,rfl,rfl,by decide +kernel,rfl,by decide +kernel,by decide +kernel⟩
noncomputable def F16:Fn3:=F15.fn "tile_by" ⟨1,false,zcF⟩
def d16:zak (Gn T F15) false ["number","around"] (top 35)=some zeK:=by kernel_rfl
theorem s16:FnScope ["number","around"] ["number"] (zaa (top 35)):=⟨rfl,rfl,rfl,by decide +kernel,rfl,by decide +kernel,by decide +kernel⟩
noncomputable def F17:Fn3:=F16.fn "corner_set" ⟨0,false,zb1⟩
def d17:zak (Gn T F16) false [] (top 36)=some zcO:=by kernel_rfl
theorem s17:FnScope [] [] (zaa (top 36)):=⟨rfl,rfl,rfl,by decide +kernel,rfl,by decide +kernel,by decide +kernel⟩
noncomputable def F18:Fn3:=F17.fn "number_between" ⟨3,false,zaM⟩
def d18:zak (Gn T F17) false ["upper","lower","column"] (top 37)=some zbD:=by kernel_rfl
theorem s18:FnScope ["upper","lower","column"] ["upper","lower","column"] (zaa (top 37)):=⟨rfl,rfl,rfl,by decide +kernel,rfl,by decide +kernel,by decide +kernel⟩
noncomputable def F19:Fn3:=F18.fn "row_between" ⟨2,false,zbl⟩
def d19:zak (Gn T F18) false ["upper","lower"] (top 38)=some zcq:=by kernel_rfl
theorem s19:FnScope ["upper","lower"] ["upper","lower"] (zaa (top 38)):=⟨rfl,rfl,rfl,by decide +kernel,rfl,by decide +kernel,by decide +kernel⟩
noncomputable def F20:Fn3:=F19.fn "floor_of" ⟨1,false,zbN⟩
def d20:zak (Gn T F19) false ["corners"] (top 39)=some zdR:=by kernel_rfl
theorem s20:FnScope ["corners"] ["corners"] (zaa (top 39)):=⟨rfl,rfl,rfl,by decide +kernel,rfl,by decide +kernel,by decide +kernel⟩
noncomputable def F21:Fn3:=F20.fn "with_corner" ⟨3,false,zax⟩
def d21:zak (Gn T F20) false ["corners","place","colour"] (top 40)=some zbJ:=by kernel_rfl
theorem s21:FnScope ["corners","place","colour"] ["corners","place","colour"] (zaa (top 40)):=⟨rfl,rfl,rfl,by decide +kernel,rfl,by decide +kernel,by decide +kernel⟩
noncomputable def F22:Fn3:=F21.fn "tiles_around" ⟨2,true,zby⟩
def d22:zak (Gn T F21) true ["corners","place","floor","row","column","around"] (top 41)=some zb8:=by kernel_rfl
theorem s22:FnScope ["corners","place","floor","row","column","around"] ["corners","place"] (zaa (top 41)):=⟨rfl,rfl,rfl,by decide +kernel,rfl,by decide +kernel,by decide +kernel⟩
noncomputable def F23:Fn3:=F22.fn "suits" ⟨2,false,zeq⟩
def d23:zak (Gn T F22) false ["wanted","colour"] (top 43)=some zhs:=by kernel_rfl
theorem s23:FnScope ["wanted","colour"] ["wanted","colour"] (zaa (top 43)):=⟨rfl,rfl,rfl,by decide +kernel,rfl,by decide +kernel,by decide +kernel⟩
noncomputable def F24:Fn3:=F23.cls "Ways" [.bl false] ⟨4,false,zaY⟩
def d24:zak (Gn T (F23.at "Ways")) false ["self","tiles","floor","is_round"] (inC 0 (top 44))=some zbW:=by kernel_rfl
theorem s24:FnScope ["self","tiles","floor","is_round"] ["self","tiles","floor","is_round"] (zaa (inC 0 (top 44))):=⟨rfl,rfl,rfl,by decide +kernel,rfl,by decide +kernel,by decide +kernel⟩
noncomputable def F25:Fn3:=F24.mt "first_seam" "Ways" ⟨1,false,za0⟩
def d25:zak (Gn T (F24.at "Ways")) false ["self"] (inC 1 (top 44))=some zbw:=by kernel_rfl
theorem s25:FnScope ["self"] ["self"] (zaa (inC 1 (top 44))):=⟨rfl,rfl,rfl,by decide +kernel,rfl,by decide +kernel,by decide +kernel⟩
noncomputable def F26:Fn3:=F25.mt "ends_row" "Ways" ⟨2,false,zaD⟩
def d26:zak (Gn T (F25.at "Ways")) false ["self","step"] (inC 2 (top 44))=some zbV:=by kernel_rfl
theorem s26:FnScope ["self","step"] ["self","step"] (zaa (inC 2 (top 44))):=⟨rfl,rfl,rfl,by decide +kernel,rfl,by decide +kernel,by decide +kernel⟩
noncomputable def F27:Fn3:=F26.mt "colour_round" "Ways" ⟨4,false,zam⟩
def d27:zak (Gn T (F26.at "Ways")) false ["self","step","seam","tile"] (inC 3 (top 44))=some zaK:=by kernel_rfl
theorem s27:FnScope ["self","step","seam","tile"] ["self","step","seam","tile"] (zaa (inC 3 (top 44))):=⟨rfl,rfl,rfl,by decide +kernel,rfl,by decide +kernel,by decide +kernel⟩
noncomputable def F28:Fn3:=F27.mt "seam_behind" "Ways" ⟨4,false,zaT⟩
def d28:zak (Gn T (F27.at "Ways")) false ["self","step","seam","tile","is_last","in_last_row","east","south","around"] (inC 4 (top 44))=some zbo:=by kernel_rfl
theorem s28:FnScope ["self","step","seam","tile","is_last","in_last_row","east","south","around"] ["self","step","seam","tile"] (zaa (inC 4 (top 44))):=⟨rfl,rfl,rfl,by decide +kernel,rfl,by decide +kernel,by decide +kernel⟩
noncomputable def F29:Fn3:=F28.mt "numbers_for" "Ways" ⟨2,false,zaz⟩
def d29:zak (Gn T (F28.at "Ways")) false ["self","step","laid"] (inC 5 (top 44))=some zaU:=by kernel_rfl
theorem s29:FnScope ["self","step","laid"] ["self","step"] (zaa (inC 5 (top 44))):=⟨rfl,rfl,rfl,by decide +kernel,rfl,by decide +kernel,by decide +kernel⟩
noncomputable def F30:Fn3:=F29.mt "fits_round" "Ways" ⟨4,false,zaC⟩
def d30:zak (Gn T (F29.at "Ways")) false ["self","step","seam","tile"] (inC 6 (top 44))=some za2:=by kernel_rfl
theorem s30:FnScope ["self","step","seam","tile"] ["self","step","seam","tile"] (zaa (inC 6 (top 44))):=⟨rfl,rfl,rfl,by decide +kernel,rfl,by decide +kernel,by decide +kernel⟩
noncomputable def F31:Fn3:=F30.mt "fits" "Ways" ⟨4,false,zcl⟩
def d31:zak (Gn T (F30.at "Ways")) false ["self","step","seam","tile"] (inC 7 (top 44))=some zdk:=by kernel_rfl
theorem s31:FnScope ["self","step","seam","tile"] ["self","step","seam","tile"] (zaa (inC 7 (top 44))):=⟨rfl,rfl,rfl,by decide +kernel,rfl,by decide +kernel,by decide +kernel⟩
noncomputable def F32:Fn3:=F31.mt "choices" "Ways" ⟨3,true,zba⟩
def d32:zak (Gn T (F31.at "Ways")) true ["self","step","seam","found","number","tile"] (inC 8 (top 44))=some zca:=by kernel_rfl
theorem s32:FnScope ["self","step","seam","found","number","tile"] ["self","step","seam"] (zaa (inC 8 (top 44))):=⟨rfl,rfl,rfl,by decide +kernel,rfl,by decide +kernel,by decide +kernel⟩
noncomputable def F33:Fn3:=F32.mt "count_from" "Ways" ⟨3,false,zbv⟩
def d33:∀r,zak (Gn T ((F32.mt "count_from" "Ways" ⟨["self","step","seam"].length,false,r⟩).at "Ways")) false ["self","step","seam","key"] (inC 9 (top 44))=some (zag r):=by intro r;kernel_rfl
theorem s33:FnScope ["self","step","seam","key"] ["self","step","seam"] (zaa (inC 9 (top 44))):=⟨rfl,rfl,rfl,by decide +kernel,rfl,by decide +kernel,by decide +kernel⟩
noncomputable def F34:Fn3:=F33.mt "count_all" "Ways" ⟨1,false,zbc⟩
def d34:zak (Gn T (F33.at "Ways")) false ["self"] (inC 10 (top 44))=some zbE:=by kernel_rfl
theorem s34:FnScope ["self"] ["self"] (zaa (inC 10 (top 44))):=⟨rfl,rfl,rfl,by decide +kernel,rfl,by decide +kernel,by decide +kernel⟩
noncomputable def F35:Fn3:=F34.fn "count_fills" ⟨2,false,zay⟩
def d35:zak (Gn T F34) false ["tiles","floor"] (top 45)=some zcr:=by kernel_rfl
theorem s35:FnScope ["tiles","floor"] ["tiles","floor"] (zaa (top 45)):=⟨rfl,rfl,rfl,by decide +kernel,rfl,by decide +kernel,by decide +kernel⟩
noncomputable def F36:Fn3:=F35.fn "differing" ⟨2,true,zcj⟩
def d36:zak (Gn T F35) true ["one","other"] (top 47)=some zdh:=by kernel_rfl
theorem s36:FnScope ["one","other"] ["one","other"] (zaa (top 47)):=⟨rfl,rfl,rfl,by decide +kernel,rfl,by decide +kernel,by decide +kernel⟩
noncomputable def F37:Fn3:=F36.fn "_law_cell" ⟨2,false,zbu⟩
def d37:zak (Gn T F36) false ["_law_script","_law_k"] (top 49)=some zbU:=by kernel_rfl
theorem s37:FnScope ["_law_script","_law_k"] ["_law_script","_law_k"] (zaa (top 49)):=⟨rfl,rfl,rfl,by decide +kernel,rfl,by decide +kernel,by decide +kernel⟩
noncomputable def F38:Fn3:=F37.fn "_law_pick" ⟨3,false,zaI⟩
def d38:zak (Gn T F37) false ["_law_script","_law_k","_law_many","_law_drawn"] (top 50)=some zdj:=by kernel_rfl
theorem s38:FnScope ["_law_script","_law_k","_law_many","_law_drawn"] ["_law_script","_law_k","_law_many"] (zaa (top 50)):=⟨rfl,rfl,rfl,by decide +kernel,rfl,by decide +kernel,by decide +kernel⟩
noncomputable def F39:Fn3:=F38.fn "_law_corners" ⟨4,false,za9⟩
def d39:zak (Gn T F38) false ["_law_script","_law_at","_law_rows","_law_columns","_law_made","_law_row"] (top 54)=some zb9:=by kernel_rfl
theorem s39:FnScope ["_law_script","_law_at","_law_rows","_law_columns","_law_made","_law_row"] ["_law_script","_law_at","_law_rows","_law_columns"] (zaa (top 54)):=⟨rfl,rfl,rfl,by decide +kernel,rfl,by decide +kernel,by decide +kernel⟩
noncomputable def F40:Fn3:=F39.fn "_law_word" ⟨1,false,zck⟩
def d40:zak (Gn T F39) false ["_law_kept","_law_kinds"] (top 55)=some zdi:=by kernel_rfl
theorem s40:FnScope ["_law_kept","_law_kinds"] ["_law_kept"] (zaa (top 55)):=⟨rfl,rfl,rfl,by decide +kernel,rfl,by decide +kernel,by decide +kernel⟩
noncomputable def F41:Fn3:=F40.fn "_law_do" ⟨3,false,zbm⟩
def d41:zak (Gn T F40) false ["_law_corners_here","_law_place","_law_colour","_law_kept","_law_answer","e"] (top 56)=some zdz:=by kernel_rfl
theorem s41:FnScope ["_law_corners_here","_law_place","_law_colour","_law_kept","_law_answer","e"] ["_law_corners_here","_law_place","_law_colour"] (zaa (top 56)):=⟨rfl,rfl,rfl,by decide +kernel,rfl,by decide +kernel,by decide +kernel⟩
noncomputable def F42:Fn3:=F41.fn "_law_twice" ⟨1,false,zbA⟩
def d42:zak (Gn T F41) false ["_law_many","_law_made","_law_again"] (top 57)=some zcP:=by kernel_rfl
theorem s42:FnScope ["_law_many","_law_made","_law_again"] ["_law_many"] (zaa (top 57)):=⟨rfl,rfl,rfl,by decide +kernel,rfl,by decide +kernel,by decide +kernel⟩
def d43:zak (Gn T F42) false ["_law_script","_law_rows","_law_columns","_law_corners_here","_law_floor_here","_law_place","_law_told","_law_row","_law_lines","_law_other","_law_one","_law_near","_law_tiles_here","_law_bare","_law_known","_law_laid","_law_k"] (top 58)=some zmh:=by kernel_rfl
theorem s43:FnScope ["_law_script","_law_rows","_law_columns","_law_corners_here","_law_floor_here","_law_place","_law_told","_law_row","_law_lines","_law_other","_law_one","_law_near","_law_tiles_here","_law_bare","_law_known","_law_laid","_law_k"] ["_law_script"] (zaa (top 58)):=⟨rfl,rfl,rfl,by decide +kernel,rfl,by decide +kernel,by decide +kernel⟩
def zm9{L M:List (Str×Addr)}:∀{C:Str},C∈L.map (·.1)->(L++M).lookup C=L.lookup C:=by
 induction L with
 |nil=>intro C h;simp at h|cons p L ih=>
  intro C h;rw[List.cons_append,yax,yax]
  cases e:C==p.1 with
  |true=>rfl|false=>
   have:C∈L.map (·.1):=by
    rw[yaA,yav]at h
    rcases h with h|h
    ·rw[h]at e;simp at e
    ·exact h
   exact ih this
def zfY{L M:List (Str×Addr)}(nd:(L.map (·.2)).Nodup){C c:Str}(hC:C∈L.map (·.1))(hc:c∈L.map (·.1)):((L++M).lookup C).getD 0=((L++M).lookup c).getD 0↔C=c:=by
 rw[zm9 hC,zm9 hc];exact zrw nd hC hc
def gm{K:PySem.W.Frag}{x:Str}{st:Stmt}{f:Addr}{oc kV dc pm cd ct:Value}{od an:Option Addr}{sl:Array (Option Value)}(a:PySem.W.nsIn K mainGlobals x=some (some (.ref f)))(l:K.lookup f=some ⟨oc,od,.func (PySem.W.fnOf x x (zbq st) (za7 st) (zaa st) .none kV dc pm an cd ct),sl⟩)(c:PySem.W.codeIn K cd x=true)(k:PySem.W.keepIn K (.ref f)=true)(i:PySem.W.isFn K (.ref f)=true):GFn K x st:=⟨f,a,oc,od,kV,dc,pm,an,cd,ct,sl,l,c,k,i⟩
def mm{K:PySem.W.Frag}{x q:Str}{st:Stmt}{f:Addr}{oc kV dc pm cd ct:Value}{od an:Option Addr}{sl:Array (Option Value)}{C:Addr}(a:PySem.W.findIn K (.ref C) x=some (some (.ref f)))(l:K.lookup f=some ⟨oc,od,.func (PySem.W.fnOf x q (zbq st) (za7 st) (zaa st) .none kV dc pm an cd ct),sl⟩)(c:PySem.W.codeIn K cd q=true)(k:PySem.W.keepIn K (.ref f)=true)(i:PySem.W.isFn K (.ref f)=true):MFn K C x q st:=⟨f,a,oc,od,kV,dc,pm,an,cd,ct,sl,l,c,k,i⟩
def all_mk{l:PySem.W.OpenLaw}{w:PySem.World}{K:PySem.W.Frag}{h:Heap}{mg:Z6}{fa f43:Addr}(X:K.In h)(G:h.Ns mainGlobals mg)(hfa:mg "law"=some (.ref fa))
  {od43 an43:Option Addr}{sl43:Array (Option Value)}{oc43 kV43 dc43 pm43 cd43 ct43:Value}
  {yWays:Addr}
  (nyWays:PySem.W.nsIn K mainGlobals "Ways"=some (some (.ref yWays))) (pgWays:PySem.W.plainGet K yWays Str.empty=true) (hdWays:PySem.W.hasDictIn K yWays=true) (poWays:PySem.W.plainOver K yWays=true) (saWays:PySem.W.findIn K (.ref yWays) "__setattr__"=some (some (.builtin "object.__setattr__"))) (mkWays:PySem.W.makesIn K yWays=true) (kpWays:PySem.W.keepIn K (.ref yWays)=true)
  (naWaystiles:PySem.W.findIn K (.ref yWays) "tiles"=some none)
  (naWaysground:PySem.W.findIn K (.ref yWays) "ground"=some none)
  (naWayssize:PySem.W.findIn K (.ref yWays) "size"=some none)
  (naWaysis_round:PySem.W.findIn K (.ref yWays) "is_round"=some none)
  (naWaysknown:PySem.W.findIn K (.ref yWays) "known"=some none)
  {f24:Addr}{od24 an24:Option Addr}{sl24:Array (Option Value)}{oc24 kV24 dc24 pm24 cd24 ct24:Value}
  {dt24:Addr}{dl24:Value}{dm24:Option Addr}{dn24:Nat}{dq24:Array (Option Value)}
  (a24:PySem.W.findIn K (.ref yWays) "__init__"=some (some (.ref f24))) (i24:PySem.W.isFn K (.ref f24)=true)
  (l24:K.lookup f24=some ⟨oc24,od24,.func (PySem.W.fnOf "__init__" "Ways.__init__" (zbq (inC 0 (top 44))) (za7 (inC 0 (top 44))) (zaa (inC 0 (top 44))) (.ref dt24) kV24 dc24 pm24 an24 cd24 ct24),sl24⟩) (c24:PySem.W.codeIn K cd24 "Ways.__init__"=true) (k24:PySem.W.keepIn K (.ref f24)=true)
  (dk24:K.lookup dt24=some ⟨dl24,dm24,.seq #[Value.bool false] dn24,dq24⟩)
  (a43:PySem.W.nsIn K mainGlobals "law"=some (some (.ref f43)))
  (l43:K.lookup f43=some ⟨oc43,od43,.func (PySem.W.fnOf "law" "law" (zbq (top 58)) (za7 (top 58)) (zaa (top 58)) .none kV43 dc43 pm43 an43 cd43 ct43),sl43⟩) (c43:PySem.W.codeIn K cd43 "law"=true) (k43:PySem.W.keepIn K (.ref f43)=true)
  (z1:PySem.W.nsIn K mainGlobals "isinstance"=some none)
  (z2:PySem.W.nsIn K mainGlobals "int"=some none)
  (z3:PySem.W.nsIn K mainGlobals "bool"=some none)
  (z4:PySem.W.nsIn K mainGlobals "tuple"=some none)
  (z5:PySem.W.nsIn K mainGlobals "list"=some none)
  (z6:PySem.W.nsIn K mainGlobals "len"=some none)
  (z7:PySem.W.nsIn K mainGlobals "range"=some none)
  (z8:PySem.W.nsIn K mainGlobals "sum"=some none)
  (z9:PySem.W.nsIn K mainGlobals "enumerate"=some none)
  (z10:PySem.W.nsIn K mainGlobals "zip"=some none)
  (z11:PySem.W.nsIn K mainGlobals "ValueError"=some none)
  {gt1:Tok} (gl1:PySem.W.nsIn K mainGlobals "NORTH"=some (some (.int 0 gt1)))
  {gt2:Tok} (gl2:PySem.W.nsIn K mainGlobals "EAST"=some (some (.int 1 gt2)))
  {gt3:Tok} (gl3:PySem.W.nsIn K mainGlobals "SOUTH"=some (some (.int 2 gt3)))
  {gt4:Tok} (gl4:PySem.W.nsIn K mainGlobals "WEST"=some (some (.int 3 gt4)))
  {gt5:Tok} (gl5:PySem.W.nsIn K mainGlobals "CHOICES"=some (some (.int 16 gt5)))
  {gt6:Tok} (gl6:PySem.W.nsIn K mainGlobals "NORTHWEST"=some (some (.int 0 gt6)))
  {gt7:Tok} (gl7:PySem.W.nsIn K mainGlobals "NORTHEAST"=some (some (.int 1 gt7)))
  {gt8:Tok} (gl8:PySem.W.nsIn K mainGlobals "SOUTHEAST"=some (some (.int 2 gt8)))
  {gt9:Tok} (gl9:PySem.W.nsIn K mainGlobals "SOUTHWEST"=some (some (.int 3 gt9)))
  {e0 e1 e2 e3 e4 e5 e6:Addr}
  (n0:PySem.W.nsIn K mainGlobals "FloorError"=some (some (.ref e0))) (x0:PySem.W.excIn K e0 bmV "ValueError.__new__"=true)
  (n1:PySem.W.nsIn K mainGlobals "NoPlace"=some (some (.ref e1))) (x1:PySem.W.excIn K e1 bmV "ValueError.__new__"=true)
  (n2:PySem.W.nsIn K mainGlobals "NoTile"=some (some (.ref e2))) (x2:PySem.W.excIn K e2 bmV "ValueError.__new__"=true)
  (n3:PySem.W.nsIn K mainGlobals "NoFill"=some (some (.ref e3))) (x3:PySem.W.excIn K e3 bmV "ValueError.__new__"=true)
  (n4:PySem.W.nsIn K mainGlobals "Unlike"=some (some (.ref e4))) (x4:PySem.W.excIn K e4 bmV "ValueError.__new__"=true)
  (n5:PySem.W.nsIn K mainGlobals "Nothing"=some (some (.ref e5))) (x5:PySem.W.excIn K e5 bmV "ValueError.__new__"=true)
  (n6:PySem.W.nsIn K mainGlobals "NoText"=some (some (.ref e6))) (x6:PySem.W.excIn K e6 bmV "ValueError.__new__"=true)
  {el1:Value}{ed1:Option Addr}{ec1:ClassData}{es1:Array (Option Value)} (lk1:K.lookup e1=some ⟨el1,ed1,.cls ec1,es1⟩) (mr1:ec1.mro=.ref e1::.ref e0::bmV)
  (ga1:PySem.W.findIn K (.ref e1) "__getattribute__"=some (some (.builtin "BaseException.__getattribute__"))) (gt1:PySem.W.findIn K (.ref e1) "__getattr__"=some none) (cc1:PySem.W.findIn K (.ref e1) "__class__"=some (some (.builtin "object.__class__")))
  {el2:Value}{ed2:Option Addr}{ec2:ClassData}{es2:Array (Option Value)} (lk2:K.lookup e2=some ⟨el2,ed2,.cls ec2,es2⟩) (mr2:ec2.mro=.ref e2::.ref e0::bmV)
  (ga2:PySem.W.findIn K (.ref e2) "__getattribute__"=some (some (.builtin "BaseException.__getattribute__"))) (gt2:PySem.W.findIn K (.ref e2) "__getattr__"=some none) (cc2:PySem.W.findIn K (.ref e2) "__class__"=some (some (.builtin "object.__class__")))
  (nd:[e0,e1,e2,e3,e4,e5,e6].Nodup)
  (p1:GFn K "is_whole" (top 14)) (p2:GFn K "is_tuple_of" (top 15)) (p3:GFn K "has_number" (top 16)) (p4:GFn K "may_lie" (top 17)) (p5:GFn K "empty" (top 18)) (p6:GFn K "size_of" (top 19)) (p7:GFn K "places_of" (top 20)) (p8:GFn K "number_at" (top 21)) (p9:GFn K "has_place" (top 22)) (p10:GFn K "refuse_outside" (top 23)) (p11:GFn K "with_number" (top 24)) (p12:GFn K "with_tile" (top 25)) (p13:GFn K "corner_tile" (top 32)) (p14:GFn K "corner_number" (top 33)) (p15:GFn K "corners_at" (top 34)) (p16:GFn K "tile_by" (top 35)) (p17:GFn K "corner_set" (top 36)) (p18:GFn K "number_between" (top 37)) (p19:GFn K "row_between" (top 38)) (p20:GFn K "floor_of" (top 39)) (p21:GFn K "with_corner" (top 40)) (p22:GFn K "tiles_around" (top 41)) (p23:GFn K "suits" (top 43)) (p25:MFn K yWays "first_seam" "Ways.first_seam" (inC 1 (top 44))) (p26:MFn K yWays "ends_row" "Ways.ends_row" (inC 2 (top 44))) (p27:MFn K yWays "colour_round" "Ways.colour_round" (inC 3 (top 44))) (p28:MFn K yWays "seam_behind" "Ways.seam_behind" (inC 4 (top 44))) (p29:MFn K yWays "numbers_for" "Ways.numbers_for" (inC 5 (top 44))) (p30:MFn K yWays "fits_round" "Ways.fits_round" (inC 6 (top 44))) (p31:MFn K yWays "fits" "Ways.fits" (inC 7 (top 44))) (p32:MFn K yWays "choices" "Ways.choices" (inC 8 (top 44))) (p33:MFn K yWays "count_from" "Ways.count_from" (inC 9 (top 44))) (p34:MFn K yWays "count_all" "Ways.count_all" (inC 10 (top 44))) (p35:GFn K "count_fills" (top 45)) (p36:GFn K "differing" (top 47)) (p37:GFn K "_law_cell" (top 49)) (p38:GFn K "_law_pick" (top 50)) (p39:GFn K "_law_corners" (top 54)) (p40:GFn K "_law_word" (top 55)) (p41:GFn K "_law_do" (top 56)) (p42:GFn K "_law_twice" (top 57))
  : ∃fd:FuncData,(∀(s:Shared) (v:Value),BindsTo s fd ⟨[v],[]⟩ [("_law_script",v)])/\∀base:Heap,K.In base->base.Ns mainGlobals mg->FnOk l.prog w K mg base (CXE l.prog w) 83 fa fd ["_law_script"] (S2.zlj K):=by
 have e:=hfa.symm.trans (yaJ X G a43);cases e;have CLWays:Cls K yWays:=⟨pgWays,hdWays,poWays,saWays⟩;have U24:FunD K "__init__" "Ways.__init__" (inC 0 (top 44)) f24 _ #[Value.bool false]:=⟨⟨_,_,_,_,dn24,_,_,_,_,_,_,_,rfl,l24,c24,dk24,rfl⟩⟩;have b24:zbZ K (PySem.W.fnOf "__init__" "Ways.__init__" (zbq (inC 0 (top 44))) (za7 (inC 0 (top 44))) (zaa (inC 0 (top 44))) (.ref dt24) kV24 dc24 pm24 an24 cd24 ct24) ["self","tiles","floor","is_round"] []:=fun s us KX hl=>bb4 (p:=fun us=>BindsTo s _ ⟨us,[]⟩ ((["self","tiles","floor","is_round"]:List Str).zip (us++[]))) (fun _ _ _ _=>PySem.W.binds_K KX rfl dk24 rfl rfl rfl) us (by simpa using hl)
 have bd24:zbZ K (PySem.W.fnOf "__init__" "Ways.__init__" (zbq (inC 0 (top 44))) (za7 (inC 0 (top 44))) (zaa (inC 0 (top 44))) (.ref dt24) kV24 dc24 pm24 an24 cd24 ct24) ["self","tiles","floor","is_round"] [Value.bool false]:=fun s us KX hl=>bb3 (p:=fun us=>BindsTo s _ ⟨us,[]⟩ ((["self","tiles","floor","is_round"]:List Str).zip (us++[Value.bool false]))) (fun _ _ _=>PySem.W.binds_K KX rfl dk24 rfl rfl rfl) us (by simpa using hl)
 have U43:=zmU (st:=(top 58)) l43 c43 k43;refine⟨PySem.W.fnOf "law" "law" (zbq (top 58)) (za7 (top 58)) (zaa (top 58)) .none kV43 dc43 pm43 an43 cd43 ct43,fun s v=>.of_eq rfl,fun base _ _=>?_⟩
 let cl:Cf:=⟨fun x=>(([("FloorError",e0),("NoPlace",e1),("NoTile",e2),("NoFill",e3),("Unlike",e4),("Nothing",e5),("NoText",e6),("Ways",yWays)]:List (Str×Addr)).lookup x).getD 0,K,l.prog,w⟩
 have g0:GOk cl (Gn T F0) l.prog w K mg base 0:=zxL (cl:=cl) (zae ⟨.int 0,_,yaJ X G gl1,⟨_,rfl⟩,fun _=>.int _⟩ (zae ⟨.int 1,_,yaJ X G gl2,⟨_,rfl⟩,fun _=>.int _⟩ (zae ⟨.int 2,_,yaJ X G gl3,⟨_,rfl⟩,fun _=>.int _⟩ (zae ⟨.int 3,_,yaJ X G gl4,⟨_,rfl⟩,fun _=>.int _⟩ (zae ⟨.int 16,_,yaJ X G gl5,⟨_,rfl⟩,fun _=>.int _⟩ (zae ⟨.int 0,_,yaJ X G gl6,⟨_,rfl⟩,fun _=>.int _⟩ (zae ⟨.int 1,_,yaJ X G gl7,⟨_,rfl⟩,fun _=>.int _⟩ (zae ⟨.int 2,_,yaJ X G gl8,⟨_,rfl⟩,fun _=>.int _⟩ (zae ⟨.int 3,_,yaJ X G gl9,⟨_,rfl⟩,fun _=>.int _⟩ zd3))))))))) (zae (yaT X G z1) (zae (yaT X G z2) (zae (yaT X G z3) (zae (yaT X G z4) (zae (yaT X G z5) (zae (yaT X G z6) (zae (yaT X G z7) (zae (yaT X G z8) (zae (yaT X G z9) (zae (yaT X G z10) (zae (yaT X G z11) zd3))))))))))) (zae ⟨yaJ X G n0,x0⟩ (zae ⟨yaJ X G n1,x1⟩ (zae ⟨yaJ X G n2,x2⟩ (zae ⟨yaJ X G n3,x3⟩ (zae ⟨yaJ X G n4,x4⟩ (zae ⟨yaJ X G n5,x5⟩ (zae ⟨yaJ X G n6,x6⟩ zd3))))))) (zae ⟨⟨_,_,x1⟩,_,_,_,_,lk1,zj8 mr1⟩ (zae ⟨⟨_,_,x2⟩,_,_,_,_,lk2,zj8 mr2⟩ zd3)) (zae (zmS (K:=K) (c:="NoPlace") (cl:=cl) lk1 mr1 rfl ga1 gt1 cc1 (zae x0 (zae x1 (zae x2 (zae x3 (zae x4 (zae x5 (zae x6 zd3))))))) (fun C hC=>⟨zfY (L:=[("FloorError",e0),("NoPlace",e1),("NoTile",e2),("NoFill",e3),("Unlike",e4),("Nothing",e5),("NoText",e6)]) (M:=[("Ways",yWays)]) (c:="NoPlace") nd hC (by simp),zfY (L:=[("FloorError",e0),("NoPlace",e1),("NoTile",e2),("NoFill",e3),("Unlike",e4),("Nothing",e5),("NoText",e6)]) (M:=[("Ways",yWays)]) (c:="FloorError") nd hC (by simp)⟩)) (zae (zmS (K:=K) (c:="NoTile") (cl:=cl) lk2 mr2 rfl ga2 gt2 cc2 (zae x0 (zae x1 (zae x2 (zae x3 (zae x4 (zae x5 (zae x6 zd3))))))) (fun C hC=>⟨zfY (L:=[("FloorError",e0),("NoPlace",e1),("NoTile",e2),("NoFill",e3),("Unlike",e4),("Nothing",e5),("NoText",e6)]) (M:=[("Ways",yWays)]) (c:="NoTile") nd hC (by simp),zfY (L:=[("FloorError",e0),("NoPlace",e1),("NoTile",e2),("NoFill",e3),("Unlike",e4),("Nothing",e5),("NoText",e6)]) (M:=[("Ways",yWays)]) (c:="FloorError") nd hC (by simp)⟩)) zd3)) (zae ⟨CLWays,naWaystiles⟩ (zae ⟨CLWays,naWaysground⟩ (zae ⟨CLWays,naWayssize⟩ (zae ⟨CLWays,naWaysis_round⟩ (zae ⟨CLWays,naWaysknown⟩ zd3)))));have g1:GOk cl (Gn T F1) l.prog w K mg base 1:=g0.addG X G p1 s1 rfl rfl rfl (fun _ _ _ _ _ _=>bb1 fun _=>rfl) d1;have g2:GOk cl (Gn T F2) l.prog w K mg base 2:=g1.addG X G p2 s2 rfl rfl rfl (fun _ _ _ _ _ _=>bb3 fun _ _ _=>rfl) d2;have g3:GOk cl (Gn T F3) l.prog w K mg base 3:=g2.addG X G p3 s3 rfl rfl rfl (fun _ _ _ _ _ _=>bb2 fun _ _=>rfl) d3;have g4:GOk cl (Gn T F4) l.prog w K mg base 4:=g3.addG X G p4 s4 rfl rfl rfl (fun _ _ _ _ _ _=>bb2 fun _ _=>rfl) d4;have g5:GOk cl (Gn T F5) l.prog w K mg base 5:=g4.addG X G p5 s5 rfl rfl rfl (fun _ _ _ _ _ _=>bb2 fun _ _=>rfl) d5;have g6:GOk cl (Gn T F6) l.prog w K mg base 6:=g5.addG X G p6 s6 rfl rfl rfl (fun _ _ _ _ _ _=>bb1 fun _=>rfl) d6;have g7:GOk cl (Gn T F7) l.prog w K mg base 7:=g6.addG X G p7 s7 rfl rfl rfl (fun _ _ _ _ _ _=>bb1 fun _=>rfl) d7;have g8:GOk cl (Gn T F8) l.prog w K mg base 8:=g7.addG X G p8 s8 rfl rfl rfl (fun _ _ _ _ _ _=>bb2 fun _ _=>rfl) d8;have g9:GOk cl (Gn T F9) l.prog w K mg base 9:=g8.addG X G p9 s9 rfl rfl rfl (fun _ _ _ _ _ _=>bb2 fun _ _=>rfl) d9;have g10:GOk cl (Gn T F10) l.prog w K mg base 10:=g9.addG X G p10 s10 rfl rfl rfl (fun _ _ _ _ _ _=>bb2 fun _ _=>rfl) d10;have g11:GOk cl (Gn T F11) l.prog w K mg base 11:=g10.addG X G p11 s11 rfl rfl rfl (fun _ _ _ _ _ _=>bb3 fun _ _ _=>rfl) d11;have g12:GOk cl (Gn T F12) l.prog w K mg base 12:=g11.addG X G p12 s12 rfl rfl rfl (fun _ _ _ _ _ _=>bb4 fun _ _ _ _=>rfl) d12;have g13:GOk cl (Gn T F13) l.prog w K mg base 13:=g12.addG X G p13 s13 rfl rfl rfl (fun _ _ _ _ _ _=>bb4 fun _ _ _ _=>rfl) d13;have g14:GOk cl (Gn T F14) l.prog w K mg base 14:=g13.addG X G p14 s14 rfl rfl rfl (fun _ _ _ _ _ _=>bb4 fun _ _ _ _=>rfl) d14;have g15:GOk cl (Gn T F15) l.prog w K mg base 15:=g14.addG X G p15 s15 rfl rfl rfl (fun _ _ _ _ _ _=>bb1 fun _=>rfl) d15;have g16:GOk cl (Gn T F16) l.prog w K mg base 16:=g15.addG X G p16 s16 rfl rfl rfl (fun _ _ _ _ _ _=>bb1 fun _=>rfl) d16;have g17:GOk cl (Gn T F17) l.prog w K mg base 17:=g16.addG X G p17 s17 rfl rfl rfl (fun _ _ _ _ _ _=>bb0 rfl) d17;have g18:GOk cl (Gn T F18) l.prog w K mg base 18:=g17.addG X G p18 s18 rfl rfl rfl (fun _ _ _ _ _ _=>bb3 fun _ _ _=>rfl) d18;have g19:GOk cl (Gn T F19) l.prog w K mg base 19:=g18.addG X G p19 s19 rfl rfl rfl (fun _ _ _ _ _ _=>bb2 fun _ _=>rfl) d19;have g20:GOk cl (Gn T F20) l.prog w K mg base 20:=g19.addG X G p20 s20 rfl rfl rfl (fun _ _ _ _ _ _=>bb1 fun _=>rfl) d20;have g21:GOk cl (Gn T F21) l.prog w K mg base 21:=g20.addG X G p21 s21 rfl rfl rfl (fun _ _ _ _ _ _=>bb3 fun _ _ _=>rfl) d21;have g22:GOk cl (Gn T F22) l.prog w K mg base 22:=g21.addG X G p22 s22 rfl rfl rfl (fun _ _ _ _ _ _=>bb2 fun _ _=>rfl) d22;have g23:GOk cl (Gn T F23) l.prog w K mg base 23:=g22.addG X G p23 s23 rfl rfl rfl (fun _ _ _ _ _ _=>bb2 fun _ _=>rfl) d23;have G24:=zqY (cl:=cl) (wo:=w) (P:=l.prog) U24 s24 (g23.at "Ways") rfl rfl rfl d24;have g24:GOk cl (Gn T F24) l.prog w K mg base 25:=GOk.addK (k':=24) (fi:=⟨4,false,zaY⟩) (dvs:=[.bl false]) (g23.up (by decide)) (by decide) (yaJ X G nyWays) ⟨mkWays,a24,i24,kpWays⟩ b24 bd24 (.cons rfl .nil) (fun _=>(.cons (.bl _) .nil)) G24;have g25:GOk cl (Gn T F25) l.prog w K mg base 26:=g24.addMG (c:="Ways") CLWays p25 s25 rfl rfl rfl (fun _ _ _ _ _ _=>bb1 fun _=>rfl) d25;have g26:GOk cl (Gn T F26) l.prog w K mg base 27:=g25.addMG (c:="Ways") CLWays p26 s26 rfl rfl rfl (fun _ _ _ _ _ _=>bb2 fun _ _=>rfl) d26;have g27:GOk cl (Gn T F27) l.prog w K mg base 28:=g26.addMG (c:="Ways") CLWays p27 s27 rfl rfl rfl (fun _ _ _ _ _ _=>bb4 fun _ _ _ _=>rfl) d27;have g28:GOk cl (Gn T F28) l.prog w K mg base 29:=g27.addMG (c:="Ways") CLWays p28 s28 rfl rfl rfl (fun _ _ _ _ _ _=>bb4 fun _ _ _ _=>rfl) d28;have g29:GOk cl (Gn T F29) l.prog w K mg base 30:=g28.addMG (c:="Ways") CLWays p29 s29 rfl rfl rfl (fun _ _ _ _ _ _=>bb2 fun _ _=>rfl) d29;have g30:GOk cl (Gn T F30) l.prog w K mg base 31:=g29.addMG (c:="Ways") CLWays p30 s30 rfl rfl rfl (fun _ _ _ _ _ _=>bb4 fun _ _ _ _=>rfl) d30;have g31:GOk cl (Gn T F31) l.prog w K mg base 32:=g30.addMG (c:="Ways") CLWays p31 s31 rfl rfl rfl (fun _ _ _ _ _ _=>bb4 fun _ _ _ _=>rfl) d31;have g32:GOk cl (Gn T F32) l.prog w K mg base 33:=g31.addMG (c:="Ways") CLWays p32 s32 rfl rfl rfl (fun _ _ _ _ _ _=>bb3 fun _ _ _=>rfl) d32;have g33:GOk cl (Gn T F33) l.prog w K mg base 73:=g32.addRG (c:="Ways") CLWays p33 s33 rfl rfl rfl (fun _ _ _ _ _ _=>bb3 fun _ _ _=>rfl) d33 40;have g34:GOk cl (Gn T F34) l.prog w K mg base 74:=g33.addMG (c:="Ways") CLWays p34 s34 rfl rfl rfl (fun _ _ _ _ _ _=>bb1 fun _=>rfl) d34;have g35:GOk cl (Gn T F35) l.prog w K mg base 75:=g34.addG X G p35 s35 rfl rfl rfl (fun _ _ _ _ _ _=>bb2 fun _ _=>rfl) d35;have g36:GOk cl (Gn T F36) l.prog w K mg base 76:=g35.addG X G p36 s36 rfl rfl rfl (fun _ _ _ _ _ _=>bb2 fun _ _=>rfl) d36;have g37:GOk cl (Gn T F37) l.prog w K mg base 77:=g36.addG X G p37 s37 rfl rfl rfl (fun _ _ _ _ _ _=>bb2 fun _ _=>rfl) d37;have g38:GOk cl (Gn T F38) l.prog w K mg base 78:=g37.addG X G p38 s38 rfl rfl rfl (fun _ _ _ _ _ _=>bb3 fun _ _ _=>rfl) d38;have g39:GOk cl (Gn T F39) l.prog w K mg base 79:=g38.addG X G p39 s39 rfl rfl rfl (fun _ _ _ _ _ _=>bb4 fun _ _ _ _=>rfl) d39;have g40:GOk cl (Gn T F40) l.prog w K mg base 80:=g39.addG X G p40 s40 rfl rfl rfl (fun _ _ _ _ _ _=>bb1 fun _=>rfl) d40;have g41:GOk cl (Gn T F41) l.prog w K mg base 81:=g40.addG X G p41 s41 rfl rfl rfl (fun _ _ _ _ _ _=>bb3 fun _ _ _=>rfl) d41;have g42:GOk cl (Gn T F42) l.prog w K mg base 82:=g41.addG X G p42 s42 rfl rfl rfl (fun _ _ _ _ _ _=>bb1 fun _=>rfl) d42;have G43:=zme (cl:=cl) (wo:=w) (P:=l.prog) U43 s43 g42 rfl rfl rfl d43;exact G43.imp (zqA (cl:=cl) zlX)
def walk{l:PySem.W.OpenLaw}{q:Program}{loose:List Str}{XP:(Str->Option Value)->Heap->Prop}{YP:PySem.World->Heap->Prop}{d:DefRec}{K:Params->PySem.W.Frag}(hn:l.most=some 63)(hdf:d.params.defaults=[])
  (hY:∀(w:PySem.World) (h:Heap),YP w h->(K w.params).In h)
  (F:∀(w:PySem.World) (mg:Z6) (fa:Addr) (h:Heap),(K w.params).In h->h.Ns mainGlobals mg->mg d.name=some (.ref fa) →
   ∃fd:FuncData,(∀(s:Shared) (u:Value),BindsTo s fd ⟨[u],[]⟩ [("_law_script",u)])/\∀base:Heap,(K w.params).In base->base.Ns mainGlobals mg->FnOk l.prog w (K w.params) mg base (CXE l.prog w) 83 fa fd ["_law_script"] (S2.zlj (K w.params))):
  PySem.W.WalkO q loose XP YP l.row.toRowW d [] (fun f vs=>PySem.call f vs):=
 L2.znd (n:=63) (k:=83) (x:="_law_script") (CX:=fun w=>CXE l.prog w) (sp:=fun w=>S2.zlj (K w.params)) hn (by decide) hdf ⟨rfl,by decide,by decide⟩ hY F (fun _ _ a ns hl hO hS=>⟨a,ns,rfl,hl,hO,hS,fun _=>rfl⟩) (by rintro _ _ _ _ _ ⟨_,_,_,_,_,_,_,_,_,_,_,_,_,_,z⟩;exact z)
end M61
namespace PySem.W.Fast
noncomputable def tw8276283995685081758:=0
noncomputable def tw10998012051575620891:=0
noncomputable def tw8764036856813623165:=0
noncomputable def tw9999991716887540746:=0
noncomputable def tw12397406055841566518:=0
noncomputable def tw1088033454287987727:=0
noncomputable def tw18064515299021980797:=0
noncomputable def tw2977632490158928155:=0
noncomputable def tw17337216914709828040:=0
noncomputable def tw12942200978870365384:=0
noncomputable def tw7422923544230133051:=0
noncomputable def tw14257898870284397121:=0
noncomputable def tw16501252512757968723:=0
noncomputable def tw1183120637345657499:=0
noncomputable def tw17691120950919865604:=0
noncomputable def tw13371944460512749599:=0
noncomputable def tw14028720299732760952:=0
noncomputable def tw9153849635732916733:=0
noncomputable def tw2381861176993440838:=0
noncomputable def tw14059954385167324865:=0
noncomputable def tw1272430672960657963:=0
noncomputable def tw4737292584827463912:=0
noncomputable def tw15048573039375661082:=0
noncomputable def tw15464070447291383553:=0
noncomputable def tw10379472921067649619:=0
noncomputable def tw795725394964297619:=0
noncomputable def tw1624027953796742962:=0
noncomputable def tw15197931345853970074:=0
noncomputable def tw6469523054962433615:=0
noncomputable def tw12034836074975619179:=0
noncomputable def tw11913918107967796503:=0
noncomputable def tw8203509478548191629:=0
noncomputable def tw8888031618811971585:=0
noncomputable def tw3145687647607355859:=0
noncomputable def tw8747349400761616028:=0
noncomputable def tw3529195809944164454:=0
noncomputable def tw792854564432713837:=0
noncomputable def tw5879260764064243937:=0
noncomputable def tw12583272865701421180:=0
noncomputable def tw9024211598763279012:=0
noncomputable def tw2683017718801270691:=0
noncomputable def tw10579317623158964027:=0
noncomputable def tw967598918502805435:=0
noncomputable def tw8545857072117386932:=0
noncomputable def tw16365342279992010118:=0
noncomputable def tw6412637998203553273:=0
noncomputable def tw2744069419373020424:=0
noncomputable def tw14690239997061398590:=0
noncomputable def tw8627733735377306270:=0
noncomputable def tw7167889455080342571:=0
noncomputable def tw2425730861446557098:=0
noncomputable def tw15521936069238827042:=0
noncomputable def tw11546899800349735845:=0
noncomputable def tw10440192118685221912:=0
noncomputable def tw17463658246817871090:=0
noncomputable def tw980427333262600715:=0
noncomputable def tw8598523804406115094:=0
noncomputable def tw15655662548813076998:=0
noncomputable def tw380028071891744540:=0
noncomputable def tw17074277561076554171:=0
noncomputable def tw9135047582115839188:=0
noncomputable def tw1823445258037984959:=0
noncomputable def tw2892366175953706015:=0
noncomputable def tw14620701815210683013:=0
noncomputable def tw1070079416714323876:=0
noncomputable def tw7565363452101554247:=0
noncomputable def tw14643266144074738785:=0
noncomputable def tw6592166975366049231:=0
noncomputable def tw501276309420366942:=0
noncomputable def tw13925787589801419493:=0
noncomputable def tw10892103151191712495:=0
noncomputable def tw6275087374962347643:=0
noncomputable def tw16397821403621949365:=0
noncomputable def tw4424516146236737745:=0
noncomputable def tw9916535163798146586:=0
noncomputable def tw17322451760276154791:=0
noncomputable def tw4740235070278575793:=0
noncomputable def tw15280338414091631316:=0
noncomputable def tw9491114224900150095:=0
noncomputable def tw9388810369916711233:=0
noncomputable def tw15869386389810676737:=0
noncomputable def tw17163960204388227335:=0
noncomputable def tw15590519484973144998:=0
noncomputable def tw7426307614300083095:=0
noncomputable def tw9308750546977537513:=0
noncomputable def tw678170081633500481:=0
noncomputable def tw8961853435689976745:=0
noncomputable def tw6775499048623780486:=0
noncomputable def tw4351604193959935120:=0
noncomputable def tw1209378391019860246:=0
noncomputable def tw10417443705505377420:=0
noncomputable def tw11552353316759565904:=0
noncomputable def tw2119902385675315780:=0
noncomputable def tw13417877552232764567:=0
noncomputable def tw8304787042854699138:=0
noncomputable def tw9470299986636480491:=0
noncomputable def tw16459885076533096684:=0
noncomputable def tw5020978448522118850:=0
noncomputable def tw14537555658122072574:=0
noncomputable def tw11539819446329408295:=0
noncomputable def tw9905170356029418904:=0
noncomputable def tw6772622468662212592:=0
noncomputable def tw7538290769034373959:=0
noncomputable def tw17789881574453022173:=0
noncomputable def tw16820804711859648632:=0
noncomputable def tw15540510296973445165:=0
noncomputable def tw3311256207531629255:=0
noncomputable def tw17437181604247385751:=0
noncomputable def tw16855794331428412917:=0
noncomputable def tw7107430372680821853:=0
noncomputable def tw14790555562365047118:=0
noncomputable def tw13972485933923837930:=0
noncomputable def tw15807945446655589557:=0
noncomputable def tw5236340352723103730:=0
noncomputable def tw14248318887576416544:=0
noncomputable def tw6352436233529381812:=0
noncomputable def tw16384257054796655284:=0
noncomputable def tw1137289156760852106:=0
noncomputable def tw5497006438043685455:=0
noncomputable def tw8950217914698277886:=0
noncomputable def tw4783757004166822219:=0
noncomputable def tw5440193381322573527:=0
noncomputable def tw15010565154627252347:=0
noncomputable def tw12706975399929051309:=0
noncomputable def tw3184073777764931974:=0
noncomputable def tw5106465886133184895:=0
noncomputable def tw9680068051376506331:=0
noncomputable def tw14670622255936975250:=0
noncomputable def tw14922662973006139089:=0
noncomputable def tw14304640738175770374:=0
noncomputable def tw10689288342349858094:=0
noncomputable def tw1545888393982437691:=0
noncomputable def tw664689553870131873:=0
noncomputable def tw9135366470994840648:=0
noncomputable def tw11266116543998846619:=0
noncomputable def tw3007653281209156818:=0
noncomputable def tw8865912298086616664:=0
noncomputable def tw10645103137234605373:=0
noncomputable def tw4256972122149421523:=0
noncomputable def tw17870623079021665572:=0
noncomputable def tw6990391405186711926:=0
noncomputable def tw11758243620746663259:=0
noncomputable def tw2519812186218557781:=0
noncomputable def tw10477348043951509814:=0
noncomputable def tw16754276448671818307:=0
noncomputable def tw14040933492633111857:=0
noncomputable def tw3809875484884531255:=0
noncomputable def tw10980408183345021322:=0
noncomputable def tw18214021200871666738:=0
noncomputable def tw8408678555681164799:=0
noncomputable def tw16166455390128948438:=0
noncomputable def tw17678250920856578504:=0
noncomputable def tw7161945220074175654:=0
noncomputable def tw8788376108015694646:=0
noncomputable def tw10108348438155651970:=0
noncomputable def tw15929108742389701900:=0
noncomputable def tw4387242486558952171:=0
noncomputable def tw16939936684791242847:=0
noncomputable def tw15369529341941104358:=0
noncomputable def tw15481771086046374856:=0
noncomputable def tw5521509580118406679:=0
noncomputable def tw3905224460648778298:=0
noncomputable def tw9394763669686529696:=0
noncomputable def tw2208105788393429150:=0
noncomputable def tw2011754856142158195:=0
noncomputable def tw12504765697677330670:=0
noncomputable def tw12158459012188407912:=0
noncomputable def tw1611088403867011978:=0
noncomputable def tw12129379570549566513:=0
noncomputable def tw2276778301733168818:=0
noncomputable def tw15492607292753240431:=0
noncomputable def tw6575918114642556378:=0
noncomputable def tw1041401712156320757:=0
noncomputable def tw5318842611015189555:=0
noncomputable def tw2506260698677089456:=0
noncomputable def tw11456405359838218054:=0
noncomputable def tw16507690567486100365:=0
noncomputable def tw10192946529241941836:=0
noncomputable def tw8597957459461009292:=0
noncomputable def tw8844465786570785897:=0
noncomputable def tw7405440420901581577:=0
noncomputable def tw551970044827272167:=0
noncomputable def tw14896826875961416557:=0
noncomputable def tw6691570005843101895:=0
noncomputable def tw6648531985998124903:=0
noncomputable def tw4766392050450573574:=0
noncomputable def tw4899093224509659883:=0
noncomputable def tw18216332724684029411:=0
noncomputable def tw763825309473845358:=0
noncomputable def tw17071776420288126472:=0
noncomputable def tw16683996397751945052:=0
noncomputable def tw12681848593978113715:=0
noncomputable def tw3780422577833430763:=0
noncomputable def tw15844133108061176837:=0
noncomputable def tw7978042859756353859:=0
noncomputable def tw7667730585381320190:=0
noncomputable def tw5795462693554518475:=0
noncomputable def tw5781524997610590677:=0
noncomputable def tw14211541916326033789:=0
noncomputable def tw12136794355892663071:=0
noncomputable def tw10545774870752905970:=0
noncomputable def tw15615843013888394798:=0
noncomputable def tw18376307081157672809:=0
noncomputable def tw14576847629544585554:=0
noncomputable def tw15147785186878384233:=0
noncomputable def tw11545588302858029275:=0
noncomputable def tw12999858073613213772:=0
noncomputable def tw2513970882306757559:=0
noncomputable def tw13337933259895938151:=0
noncomputable def tw7635121261164579135:=0
noncomputable def tw17106338414336701802:=0
noncomputable def tw9890230320537601247:=0
noncomputable def tw5627179643784164794:=0
noncomputable def tw8563079534286952756:=0
noncomputable def tw5447088767585923002:=0
noncomputable def tw2868131421859548402:=0
noncomputable def tw12152896319747469156:=0
noncomputable def tw6419065709392661710:=0
noncomputable def tw18354022193638276797:=0
noncomputable def tw14215196980462258665:=0
noncomputable def tw13804908514969327161:=0
noncomputable def tw3470037915583999026:=0
noncomputable def tw6892836912429509813:=0
noncomputable def tw9526014569523148245:=0
noncomputable def tw9059115846086137094:=0
noncomputable def tw4239000591133527582:=0
noncomputable def tw13374483330908352581:=0
noncomputable def tw2293854192835058671:=0
noncomputable def tw15498297915947419782:=0
noncomputable def tw11753557549312357799:=0
noncomputable def tw10874378761219487072:=0
noncomputable def tw9284387352014733180:=0
noncomputable def tw7758447703106415358:=0
noncomputable def tw7268712314095186697:=0
noncomputable def tw6420580298796110896:=0
noncomputable def tw10525872910983185248:=0
noncomputable def tw14645311338114247286:=0
noncomputable def tw10618116189114728239:=0
noncomputable def tw16719895632946940519:=0
noncomputable def tw8967136274140267184:=0
noncomputable def tw684942124677972691:=0
noncomputable def tw9693377747158052600:=0
noncomputable def tw16871716598639042884:=0
noncomputable def tw10741893981848414295:=0
noncomputable def tw4965146539806094495:=0
noncomputable def tw1547423098086329343:=0
noncomputable def tw6692697675222215708:=0
noncomputable def tw18168784081901753768:=0
noncomputable def tw10152003511366514930:=0
noncomputable def tw15223146334602295865:=0
noncomputable def tw421480014755424773:=0
noncomputable def tw2472527499932943096:=0
noncomputable def tw15293932348618455265:=0
noncomputable def tw11535461358136597632:=0
noncomputable def tw9932628178603395432:=0
noncomputable def tw11452053082205263844:=0
noncomputable def tw1489821735809740161:=0
noncomputable def tw1065982376375544804:=0
noncomputable def tw17012490477275483497:=0
noncomputable def tw11883529109486050569:=0
noncomputable def tw7109630097905935245:=0
noncomputable def tw6770354472643492269:=0
noncomputable def tw511079383271301207:=0
noncomputable def tw3920145455755517328:=0
noncomputable def tw2833563619167393188:=0
noncomputable def tw17838631392257332248:=0
noncomputable def tw17560996702575783722:=0
noncomputable def tw10167555146020869247:=0
noncomputable def tw609387073673364318:=0
noncomputable def tw12916182294171716910:=0
noncomputable def tw16263760064244343300:=0
noncomputable def tw16231326989733068860:=0
noncomputable def tw15944090889966061400:=0
noncomputable def tw15578008741014205173:=0
noncomputable def tw6126596975143887126:=0
noncomputable def tw6847750647100606003:=0
noncomputable def tw1365336178310544844:=0
noncomputable def tw8909314568881896225:=0
noncomputable def tw9412534677980783063:=0
noncomputable def tw15804175201266669049:=0
noncomputable def tw5245401223678634211:=0
noncomputable def tw10351120073364711271:=0
noncomputable def tw2552729170890736491:=0
noncomputable def tw18030912374980843139:=0
noncomputable def tw948036273622401498:=0
noncomputable def tw16341673881404026640:=0
noncomputable def tw11602901817934629047:=0
noncomputable def tw8190472497526725308:=0
noncomputable def tw6695254827875980430:=0
noncomputable def tw14451381458902309625:=0
noncomputable def tw2181687009779923653:=0
noncomputable def tw13815087855481176185:=0
noncomputable def tw5006864342302261808:=0
noncomputable def tw252364281793758519:=0
noncomputable def tw10068845643005336966:=0
noncomputable def tw17870423766054260657:=0
noncomputable def tw10904450410669872594:=0
noncomputable def tw10763261997463770798:=0
noncomputable def tw8703971828906075748:=0
noncomputable def tw809303372598645280:=0
noncomputable def tw7345230428929322945:=0
noncomputable def tw7563674243741359144:=0
noncomputable def tw2942653034323304267:=0
noncomputable def tw2110055199684886354:=0
noncomputable def tw14154704184901252804:=0
noncomputable def tw12411887666993985714:=0
noncomputable def tw4947840974153265265:=0
noncomputable def tw9905914539530223523:=0
noncomputable def tw8256730252652506776:=0
noncomputable def tw6911616962369512239:=0
noncomputable def tw6448814572513012350:=0
noncomputable def tw530854123156128797:=0
noncomputable def tw16566085582276463448:=0
noncomputable def tw16420945997015294815:=0
noncomputable def tw7594141355378956405:=0
noncomputable def tw6368918460472849381:=0
noncomputable def tw5582081640964953997:=0
noncomputable def tw4046309506447591844:=0
noncomputable def tw3250475117290475291:=0
noncomputable def tw13627603480288471953:=0
noncomputable def tw16192686022803294161:=0
noncomputable def tw57085474900778541:=0
noncomputable def tw8853436510149216576:=0
noncomputable def tw12184796707090752601:=0
noncomputable def tw11028675206735145714:=0
noncomputable def tw10215217664444130075:=0
noncomputable def tw8289761913355557191:=0
noncomputable def tw7390665367277219157:=0
noncomputable def tw6384317688305731275:=0
noncomputable def tw5947922066494553368:=0
noncomputable def tw2257745364032466527:=0
noncomputable def tw16675332951312911875:=0
noncomputable def tw15594085016595551704:=0
noncomputable def tw15496835924849906718:=0
noncomputable def tw1478198836202596767:=0
noncomputable def tw1268759411501888934:=0
noncomputable def tw12211735790525844551:=0
noncomputable def tw854254946650978434:=0
noncomputable def tw556228659806514507:=0
noncomputable def tw5448000398014557167:=0
noncomputable def tw5140383212636368166:=0
noncomputable def tw3995915281031859539:=0
noncomputable def tw2132933194992111570:=0
noncomputable def tw10915183570299714891:=0
noncomputable def tw10154561092514197587:=0
noncomputable def tw9703702342662291867:=0
noncomputable def tw9917461389154581310:=0
noncomputable def tw18122671601251986648:=0
noncomputable def tw14180011900397880142:=0
noncomputable def tw1385473850123083011:=0
end PySem.W.Fast
open PySem PySem.W PyProof.Rows
set_option maxRecDepth 100000 in
set_option maxHeartbeats 0 in
theorem PySem.Challenge.cw_floorfits_k61_whole_corners_painted_holds : PySem.Challenge.rw_floorfits_k61_whole_corners_painted.Holds := by
 w_on;o_law;k_head;(case hw=>w_witness2)
 k_fill
 refine M61.walk (l:=PySem.Challenge.rw_floorfits_k61_whole_corners_painted) rfl rfl (fun w h Y=>PySem.W.kIn_of Y) ?F
 case F=>
  intro w mg fa h KX G hmg;refine' M61.all_mk KX G hmg ?nyWays ?pgWays ?hdWays ?poWays ?saWays ?mkWays ?kpWays ?naWaystiles ?naWaysground ?naWayssize ?naWaysis_round ?naWaysknown ?a24 ?i24 ?l24 ?c24 ?k24 ?dk24 ?a43 ?l43 ?c43 ?k43 ?z1 ?z2 ?z3 ?z4 ?z5 ?z6 ?z7 ?z8 ?z9 ?z10 ?z11 ?gl1 ?gl2 ?gl3 ?gl4 ?gl5 ?gl6 ?gl7 ?gl8 ?gl9 ?n0 ?x0 ?n1 ?x1 ?n2 ?x2 ?n3 ?x3 ?n4 ?x4 ?n5 ?x5 ?n6 ?x6 ?lk1 ?mr1 ?ga1 ?gt1 ?cc1 ?lk2 ?mr2 ?ga2 ?gt2 ?cc2 ?nd ?_ ?_ ?_ ?_ ?_ ?_ ?_ ?_ ?_ ?_ ?_ ?_ ?_ ?_ ?_ ?_ ?_ ?_ ?_ ?_ ?_ ?_ ?_ ?_ ?_ ?_ ?_ ?_ ?_ ?_ ?_ ?_ ?_ ?_ ?_ ?_ ?_ ?_ ?_ ?_ ?_
  (case nyWays=>k_is);(case pgWays=>k_is);(case hdWays=>k_is);(case poWays=>k_is)
  (case saWays=>k_is);(case mkWays=>k_is);(case kpWays=>k_is);(case naWaystiles=>k_is)
  (case naWaysground=>k_is);(case naWayssize=>k_is);(case naWaysis_round=>k_is);(case naWaysknown=>k_is)
  (case a24=>k_is);(case i24=>k_is);(case l24=>k_is);(case c24=>k_is)
  (case k24=>k_is);(case dk24=>k_is);(case a43=>k_is);(case l43=>k_is)
  (case c43=>k_is);(case k43=>k_is);(case z1=>k_is);(case z2=>k_is)
  (case z3=>k_is);(case z4=>k_is);(case z5=>k_is);(case z6=>k_is)
  (case z7=>k_is);(case z8=>k_is);(case z9=>k_is);(case z10=>k_is)
  (case z11=>k_is);(case gl1=>k_is);(case gl2=>k_is);(case gl3=>k_is)
  (case gl4=>k_is);(case gl5=>k_is);(case gl6=>k_is);(case gl7=>k_is)
  (case gl8=>k_is);(case gl9=>k_is);(case n0=>k_is);(case x0=>k_exc)
  (case n1=>k_is);(case x1=>k_exc);(case n2=>k_is);(case x2=>k_exc)
  (case n3=>k_is);(case x3=>k_exc);(case n4=>k_is);(case x4=>k_exc)
  (case n5=>k_is);(case x5=>k_exc);(case n6=>k_is);(case x6=>k_exc)
  (case lk1=>k_is);(case mr1=>with_unfolding_all rfl);(case ga1=>k_is);(case gt1=>k_is)
  (case cc1=>k_is);(case lk2=>k_is);(case mr2=>with_unfolding_all rfl);(case ga2=>k_is)
  (case gt2=>k_is);(case cc2=>k_is);(case nd=>decide)
  all_goals ((first|refine' M61.gm ?a ?l ?c ?k ?i|refine' M61.mm ?a ?l ?c ?k ?i);(case a=>k_is);(case l=>k_is);(case c=>k_is);(case k=>k_is);(case i=>k_is))
#print axioms PySem.Challenge.cw_floorfits_k61_whole_corners_painted_holds
end
